import PyProof.Rows.All
import Wide.All
import OpenK.AllK
import Wide.FinOn
import Lean
import PyProof.EqAt
import PyProof.EqKinds
import PyProof.TupleCall
import PySem.Challenge.RW_shorthead_k48_costs
open PyProof.Rows renaming envOfC->aN,AllBare->aU,boot_isinstance->cq,assignInOrder_cons->cu,subscriptTail->cB
open PySem.W renaming Frag->ya,RowW->yJ,findIn->yU,isFn->yad,kia_one->yae,nsIn->yai,kitOne->yau,emptyDict->yaC,keepIn->yaD,instObj->yaM,clsIn->ya0,InstAt->yba,fnOf->ybc,subIn->ybd,plainGet->ybo,mroIn->ybq,callWith_K->ybr,excIn->ybw,mg_of->ybB,lookIn->ybL,hasDictIn->ybM,methodObj->ycg,plainGet_of->ycm,plainOver->ycn,takerIn->yco,makesIn->ycp,typeIn->ycq,methodCall_KW->ycu,codeIn->ycy,OpenLaw->ycL,looks_subIn->yc8,handedIn->ydi,looks_findIn->ydj,specialIn->ydk,takesIn->ydl,kitx_none->ydm,kitx_list->ydn,kitx_tuple->ydo,kitx_dict->ydp,cellsFrom_some->ydq,WalkO->ydw,openSeen->ydz,findObj->ydT,notCls->ydV,kia_tup->ydX,SharedT->aX,absHeap->bJ
open Nat renaming le_refl->yb,zero_add->yh,ne_of_lt->yB,lt_of_lt_of_le->yF,le_trans->yM,ne_of_gt->yR,lt_irrefl->yac,le_of_lt->yam,le_add_right->yaq,zero_le->yat,lt_succ_self->yaX,lt_or_ge->ya4,le_succ->ybb,le_of_eq->ybp,lt_trichotomy->ybC,le_of_not_lt->ybR,add_zero->ycc,lt_trans->ycV,le_succ_of_le->yc6,lt_of_le_of_lt->ydx,add_le_add_left->ydy,add_left_cancel->ydL,eq_of_beq_eq_true->ydY,le_of_ble_eq_true->yd0,pow_le_pow_right->yd1
open List renaming getElem?_eq_some_iff->yc,length_map->yd,getElem?_eq_getElem->yf,replicate->yp,length_cons->yx,map_cons->yy,mem_cons->yA,range->yC,length_append->yD,size_toArray->yG,getElem?_map->yI,not_mem_nil->yK,mem_append_right->yN,getElem?_append_left->yO,mem_singleton->yS,mem_map->yT,map_map->yV,mem_of_getElem?->yW,mem_cons_of_mem->yY,mem_append->y6,getD_eq_getElem?_getD->y9,append_nil->yaf,map_append->yaj,length_set->yak,mem_range->yal,getElem?_set_ne->yan,range'->yao,length_range->yap,getElem?_set_self->yaB,length_take->yaE,getElem?_append_right->yaF,getElem_mem->yaG,any_cons->yaH,forIn_cons->yaI,mem_cons_self->yaN,lookup_cons->yaP,append_assoc->yaS,mem_iff_getElem?->yaT,mem_append_left->yaV,lookup->yaW,length->yaY,map_nil->yaZ,all_eq_true->ya1,getD->ya5,zipWith->ya8,getElem?_eq_none->ya9,find?_cons->ybe,contains_iff_mem->ybh,map_congr_left->ybj,length_replicate->ybt,range_succ_eq_map->ybx,sum_cons->yby,mem_of_mem_take->ybz,take_length->ybA,set_cons_succ->ybD,set_cons_zero->ybE,mem_filter->ybH,filterMap_cons->ybI,nodup_cons->ybN,all_cons->ybP,length_singleton->ybQ,forIn_nil->ybX,replicate_succ->yb2,take_of_length_le->yb3,mem_iff_getElem->yb4,getElem_map->yb5,length_pos_iff->yb6,any_map->yb7,getElem?_range->yb8,getElem?_cons_succ->yb9,getElem_inj->ych,mem_filterMap->ycl,of_mem_zip->ycv,getElem?_replicate->ycx,length_drop->ycE,range'_succ->ycO,take_add_one->ycS,sum_append->ycT,foldl->ycZ,range_succ->yc1,drop_zero->yc2,drop_eq_getElem_cons->yc3,drop_of_length_le->yc4,nil_append->yc5,take_append_drop->yda,length_pos_of_mem->ydc,set_append_right->ydf,getElem?_take_of_lt->ydr,length_eq_zero_iff->ydA,nodup_append->ydK,singleton_append->ydM,getElem_range->ydN,take_succ_cons->ydO,eraseIdx_eq_take_drop_succ->ydP,getElem_toArray->ydR,zipWith_cons_cons->yd3,mem_of_mem_drop->yd4,getElem?_cons_zero->yd5,ext_getElem->yd7,mem_replicate->yd9,ext_getElem?->yea,mem_range'_1->yeb
open PySem.Heap renaming get?_push_of_some->ye,lt_size->yg,get?_push_size->yw,size_push->yQ,SameBut->yas,get?_update_ne->yaK,get?_update_other->ybv,get?_update_self->ycQ,IsTupleIter->ydF
open PySem renaming Spec->yl,Env->yaJ,intText?->yaO,mem_of_lookup->ybs,boot_len->ybG,call->ybS,Within->ycf,list_append->ycK,seqSlot_of->ydJ,Addr->ac,Str->af,Value->ag,wpAny_bind->aj,Shared->ak,World->al,Expr->am,model->ao,starEach->ap,Stmt->aq,Program->ar,Heap->au,Obj->av,wpAny_pure->aw,Pos->ax,Around->az,wpAny_mono->aA,compareOp->aB,backTo->aC,wpAny_field->aE,mainGlobals->aF,IsPair->aG,Env->aH,IsZip->aI,FuncData->aJ,Builtin->aK,binaryOp->aL,cLine->aM,Scope->aO,wpAny_seqItems->aP,swapsWith->aQ,wpAny_newObj_type->aR,noteFrame->aS,bootBuiltins->aT,assign->aV,assignEach->aW,wpAny_of_eq->aY,wpAny_setField_rec->aZ,sysModules->a9,wpAny_pyIter_tuple->ba,foldedSetIterable->bb,attributeBase->bc,backToKw->bd,keywordEach->be,IsPart->bf,callerA->bg,relabel->bh,atKey->bi,wpAny_execs_nil->bj,pyNext->bn,sizeLine_eq->bo,wpAny_call_entry->bp,Keyword->bq,call_meets->br,wpAny_onRaise->bu,standAt->bv,wpAny_truthy_bool->bx,wpAny_rule->bz,wpAny_passesOwn->bA,Result->bB,BindsTo->bD,wpAny_Call_Name_kw->bE,NameKind->bG,wpAny_callSpecial?_slot->bH,sliceBounds->bI,valueAt->bK,argBest->bL,setFlight->bM,behindInMarks->bN,codeAny_mono->bO,getItem->bP,seqIndex?->bQ,wpAny_attempt->bR,tupleKind->bS,wpAny_execs_cons->bT,bindName->bU,letOwnedTupleGo->bV,wpAny_pyIter_list->bW,wpAny_call->bX,callWith->bY,treeTable->bZ,compEnvC->b6,wpAny_setField->b8,wpAny_letGo->ca,wpAny_pyIter_zip->cb,wpAny_typeOf_ref->cc,builtinsNs->cd,swapsWithSole->ce,swappedStores->cf,wpAny_standAt->cg,wpAny_holding->ci,typeIs_int->cj,importedModules->ck,callType_new->cm,tupleKind_room_in1->cp,assignInOrder->cr,wpAny_bindName->cv,wpAny_pyIter_rangeiter->cw,wpAny_loadPart->cx,noFill_tuple_add->cy,seq_tuple_add->cA,wpAny_comprehension_free->cC,checkBuiltinCall->cD,wpAny_pyIter_enum->cE,wpAny_letOwnedTupleGo_zip->cF
open PySem.Value renaming ref->yn,none->yab,type->yah,int->ybk,str->ybl,bool->ybm,float->yce
open PySem.Str renaming ofString->yE,join->yca,ofString_eq_toList->ydZ
open Bool renaming false_ne_true->yH,and_eq_true->yL,eq_iff_iff->ybJ,false_or->ybW,or_eq_true->ycM,and_eq_true_iff->yed,true->ae,false->ai
open Option.some renaming inj->yP,injEq->yay
open Sum renaming inr->yZ,inl->yaU
open Or renaming inl->y7
open Int renaming toNat_natCast->y8,emod_nonneg->yaA,emod_lt_of_pos->yaL,mul_comm->ya7,toNat_of_nonneg->ybF,pow_succ->ycb,mul_assoc->ycd,ediv_one->ycD,pow_pos->ydb,le_of_lt->ydd,zero_add->yde,fdiv_eq_ediv_of_nonneg->ydh,mul_le_mul_of_nonneg_right->ydG,emod_eq_of_lt->yd2,mul_le_mul_of_nonneg_left->yd8
open Option renaming bind_some->yaa,map_eq_some_iff->yag,bind_eq_some_iff->yax,map_some->yaz,getD_some->ya6,isSome_iff_exists->ycw,isSome_map->ycU,getD_none->ydu,some->aa
open PySem.Builtin.Int renaming intBits->yar
open PySem.Obj renaming mapSeq->yaw,mapFields->ybg,data_mapFields->ydE
open PySem.Builtin.Range renaming rangeFitsLong->yaQ,rangeSize->yck
open PySem.F renaming slot_zip_next->yaR,slot_tuple_iterator_next->ybV,entry_zip_next->ybY,args_zip_next_1->ybZ,slot_tuple_mul->yb1,slot_tuple_add->ycz,entry_tuple_add->ycA,args_tuple_add_2->ycB,slot_list_append->ycH,entry_list_append->ycI,args_list_append_2->ycJ,slot_range_reversed->ycP,called_zip->ycW,newCall_zip_2->ycX,entry_zip_new->ycY,plain_reversed_new->ydB,entry_tuple_iterator_next->ydC,args_tuple_iterator_next_1->ydD,args_object_init_3->ydI,slot_tuple_index->ydQ,slot_int_bit_length->ydS,attrBase_ValueError->ydU
open Classical renaming choose->ya2,choose_spec->ya3
open PySem.Builtin.Str renaming strSliceIndices->ybf,occurrences->ybK,glued->yd6
open PySem.W.KT renaming app_list->ybi
open PySem.Builtin renaming bitAnd->ybn
open PySem.Builtin.Tuple renaming tupleExact->ybu,tupleTooMany->yc0,tupleItemsOf->ydt
open PySem.Builtin.Slice renaming slicePlaces->ybO,sliceAdjust->ycC,sliceApplied->yds
open Array renaming ext'->ybT,length_toList->yci,toList->ycj,getElem?_eq_some_iff->yc7
open PySem.Challenge renaming rw_shorthead_k48_costs->ybU
open PySem.Heap.IsTuple renaming push->yb0
open PySem.Around renaming under->ycr
open PySem.Calls renaming spliced_nil->ycs,spliced_cons->yct,callWith_builtin->ycF,Name_function_global->ydg,evalArgs_plain->ydv
open PySem.IsL renaming update->ycG
open PySem.Walks renaming list->ycN
open PySem.Heap.SameBut renaming update->ycR
open Prod.mk renaming injEq->yc9
open PySem.Value.type renaming inj->ydH
open PySem.W.kitAny renaming eq_def->ydW
open PySem.W.OpenLaw renaming wellSaid->yec
local macro_rules | `(tactic| walk_at $s:str) => do
  let c := s.getString
  if !c.startsWith "#" then Lean.Macro.throwUnsupported
  let J := fun (x : String) => Lean.mkIdent x.toName
  let tb := ("0zae 2zaa 2zac 0zak !}w5 0zad 2eFn !BF !^9 !b9 !tGz& 04 08 !^F 1zaJ 03 !%% !^sC !bF 0rfl 3qfn 05 !^1 02 !ls_ !'' !:( 010 06 !$( !b1 !w-y} 07 !s^yi !cz( 01 !$B !b- !0( !cz1 !}xz* !BsC !B9 !$^ !#b !^- !N1 !tF# 0!b2 !bsC !%s& !w-z+ !^. !NF !}|z8 0zbG 011 !tdsC 1zag !N9 !!s2 !yk' 1zab 3eOp 0zaA !xFs& !cz. !s&9 !%U !tGyi !D9 !b. 2zat 09 !cz! !u}c !cz2 !N- !uS! !~#) !t)tu !&6 !sN, 1gN !NsC !#! !sqsC !}zz0 !}}z: !N7 !!' 6zau 1!nd 012 !z#tF !z,wc !O1 !$E !Z0 !&K !ds2 !s1b !$f 1zaR 0zbn !GsC !s'X !w-zM !~1! !vO! !D- 00 5zaD !n^ !tqo !O9 !sEF !~$tt !U- !^m !tN' 4zan 0zaz 0$turn 0zed 2eUn !z'u; !&yj !~*5 !s_E !LV !NC !^7 !wYV !%? !tdF !s3' 2zaf 2zaC 0zcb 0gtD 0scLawOpened.nd !vLG !tssD !O- !t/L !yk; !~/zL !~2zT !U1 !$tO !$) !OC !b7 !yq! 1zfz !tFO !&we !~!5 !tptp !sFte !#K !s&1 !^C !^> !PB !xJxL !u<sR !#6 !td9 !#s* !s^zc !srD !b> !bm !x:uU 3sIf 2gT 0$shape 0scLawGoes.nd 0$value 0$_law_field 0scLawSizes.nd !sEsC !z<u= !t/V !sduT !<v& !U9 !q% !tH( !Q% !G9 !nw[ !&ym !', !D1 !,6 !se' !vP! !bC !~>yu !~Bx= !tGyt !uSd 0hr 1zah 0za7 3eSl 0ltD 0scLawGone.nd 0scLawFitted.nd !}ys) !OF !nwV !zFyl !sE> !%sc !zRu= !s'% !(tf !s;: !tQ) !U7 !N> !?uR !wWx> !tR1 !sE- !vQ) !yv$ !cte !s)tN !zow] 3!m0 0eqD 0zdb 1zdt 4!l4 040 2zm4 0leD 0$number 3ziH 3!m2 0scLawExpected.nd !x:x: !lt( !55 !s^u~ !5yj !9e !s:# !#x< !O7 !s&- !tM# !s&F !Zsu !s&. !zto !t1v) !:E !B1 !vR- !%L !?tf !&! !zuzv !sG' !td1 !;, !1s/ !s1r !sNt2 !&s* !~Hzx !O> !u?s2 !#s8 !x?5 !~I! !zyzz !sv! !#uV !w0& 1i:= 1!f4 0$Presser 0!b0 0zb3 1aIt 5zct 0zeS 0$_law_pact_here 0zbB 0ziZ 0$low 2zep 1zfh 0hRestOf 1zdr 0$breadth 0$head 0$form 0$_law_pot_here 0scLawShape.nd 0scLawPieces.nd !wds' !s8sC !}{z6 !z=wc !tvd !wZs( !s4) !ylys !wWuA !_% !nsf !~J> !sE9 !$t/ !)% !wWxO !eC !s;< !<uR !sHL !DF !z~{! !S{# !s)' !twwk !xJv* !u<sI !xPt* !sS- !srym !sS> !tx' !s+K !D7 !K! !~LsD !{%sD !uBuT !w_vS !xB# !w1st !tpuU 1tV 3zaV 1n:= 0hr.units 1zbe 4zb2 0zdg 0TX 0$_law_shape_here 0$left 2!l2 1zcB 017 018 0neD 0$whole 0zi6 0isD 016 ;!l11 0$HeadError 0$NoWord 0$NoMore 0$NoDeed 0$NoPlace 0$Beyond 0$NoStream 0$NoLine 0$NoText 0$width 0$place 0ze2 0scOpened.nd 0scDoubt.nd 0scLawPot.nd 0scLawPick.nd 0scLawKind.nd 0$_law_way_here 0scLawOffsets.nd 0$_law_more 0$_law_at 0scLawDue.nd 0scLawTold.nd !(uR !z3v! !s1v$ !s8F !s8> !sEC !1e !'ss !X% !UF !0* !pE !3vT !:f !sE1 !(s` !tyxC !~MV !c{' !2sc !uCxD !Ztq !G- !)vL !{(o !sc. !Is` !uXsc !tOs< !UC !s_( !^[ !yp9 !{)u} !~N{* !{+u= !y{xE !{,{- !!, !OsC !sTtg !sqF !#sh !S{. !v+! !s89 !sq9 !sSC !{/{0 !sS1 !sNts !wl{1 !~OuY !~P{4 !tzy| !~Qtt !b[ !wmwn !t+sS !~Twa !wbst 1eC 6zaI 2zhv 0scLawPact.nd 2zaE 0$keep 2zr6 0geD 2!p2 065537 0$ 0zcp 0zpV 0$pressed 013 015 0$more 0scNumbersOf.nd 0scWidthFor.nd 4ziF 0scExpected.nd 1zeJ 0zlM 0T.sum 0boot_sum 0hBitsOf 0scLetterBy.nd 3zqt 1zg7 0zmE 0$reach 7ziI 0zqK 0zqP 0scPresserIsCounted.nd 1zeK 0zid 2QPs.cons 0scLawValue.nd 0scLawBits.nd !(xH !lz; !wfzG !s`$ !vNs( !t0yn !SzU !s(' !&wh !~Fzr !~Gwi !Syx 0_ 0zaj 0zaK 0gL1 8zeo 1zbR 0$_law_ways 0$_law_reach 3!l3 1aCons_len 0$_law_heads 0$_law_number_here 0$_law_found 0$step 0$with 0zc4 0$own 0$seed 0zaM 0zbj 0ztf 0zpO 1zil 0$had 0$base 0$shared 2eY1 0zbW 0scNumberOf.nd 8zen 1zg6 0zke 0$thing 0$asked 0$way 0hWidths 0scPresserShortest.nd 5zkd 1zmP 0zhY 0zkv 0hLawExpected 0scLawWay.nd 0hLawWidth 0scLawNumber.nd 0$_law_skips 0$_law_gap 0$_law_late 0$_law_anew 0$_law_bits_here 0$_law_formers_here 0$_law_former !z%wc !trzA !zNx; !~3zX !w/zZ !5zf !tPzk !~Dyw !:p !ypF !3% 2zas 2zao 0zc6 0PassesOwn.never 1xs:= 1zcg 1!l1 0zc9 0zfH 1zfB 5!l5 1zds 5zd9 0zqZ 0zd1 0zco 0$1 0300 02305843009213693951 0powD 07919 048271 02305843009213693921 01000003 069621 02305843009213693907 0zbU 0zrz 0zq0 0zjc 0zkB 0rng2 0$int 0$bool 5zjB 0$tuple 0zc5 0zkG 0zm5 0zre 0zck 0zei 0zbT 0zbk 0$fresh 0sBad 5zdd 1zpT 0zbC 5yMth 0$press 0zaH 014 2tOrM 0zbD 0zcx 0401 1aPu 9!l9 0$other 0PySem.F.plainAttrs_str 0PySem.F.slot_str_join 0PySem.F.type_str_join 0zov 0zrv 0zoB 0zfq 0zrU 0T.str 0boot_str 3!m1 7zli 0$field 0hBreadths 1zgE 0zpd 0T.all 0boot_all 2ziG 0hWidthFor 0hFormAt 0hSortWidth 0hCheckWidth 0hPieces 0zll 0zos 0scFirstOther.nd 0$heads 0$many 3znP 0TC.nPresser_pressed 0scPresserHindrance.nd 0hLetterSize 0scPresserIsShared.nd 0TC.nPresser_base 0$self 0$before 0TC.nPresser_had 0zrJ 0zrL 8!l8 0$_law_place 0$_law_breadth 0$_law_power 0$_law_odd 0$_law_first 0$_law_many 0$_law_k 0hLawValue 0scLawRow.nd 3qe_un 0zrt 0zru 1zjG 0zpc 1ziJ 2zsy 0hLawFormers C!l19 0hLawSort :!l10 <!l12 0$_law_whole 0$_law_sizes_here 0$_law_some !z$u; !xGsR !tMs( !Tz4 !~+u< !zQ3 !v%zS !?wX !s8C !wgzV !~4u> !~9z` !~:zb !(xN !~;ze !zlv' !uWw^ !w-z{ !~Kz} !yysg 1.int 1Or.inl 0ixD 3qxi 5zam 2.tail 1zap 4zal 0zaP 0zaq 0zaw 1.str 1zay 0hLawPick 0zcd 0zaS 0zaT 0zcY 0zdu 3za1 0TC.cPresser 1za0 0zbN 0zaW 0zbp 0zbo 0zbq 3zfx 3zeQ 1.head 5zbt 0zfQ 1N0:= 7!a7 0!b4 0!b1 1.inl 3zbE 5zbM 0zbd 0zaG 0zbF 0T.len 0PySem.boot_len 0.non 9zbz 0zb4 0zb5 0$pact 5zgC 0zcj 0za9 0T.range 0PySem.F.plainAttrs_list 0T.min 0boot_min 1hr.mono 0zij 1zci 0PySem.F.slot_list_append 0PySem.F.type_list_append 0zbf 0zbg 0T.tuple 0boot_tuple 2zdW 0T.int 0boot_int 1Or.inr 1zbv 0zdY 1zbL 0zc8 0TC.nPresser_pact 4zc3 0zbX 0zfp 3zcC 0$_law_wide 0$_law_forms 0$_law_road 0$_law_count 2zgM 0zf6 0zkt 3zd8 0T.enumerate 0ziP 0ziY 1.bl 0$sent 0zaB 0zg8 0zmF 0T.isi 2zg5 1ze1 3ziz 0zic 3eIf 1zhD 0false 4zj9 0$NoHead 0$NoLetter 0T.zip 0zf7 0zku 0aNil_len 0hPresserSent 0T.max 0boot_max 0$_law_check 0zdz 0zdy 0zi2 0zgo 0zb7 0zgz 0zcO 0zdF 0zcK 0$0 064 069069 1zmV 0popM 020 0199 099 0$still 0$drawn 090 0$abcdefghijkl 0zez 0inD 0zgr 3ztR 0zeE 0zcT 0revR 0andD 0shrD 0zeA 0zeB 0zcm 3sPar 0zmJ 1eNot 0zeF 0zcV 0zcn 0zgq 0zjr 0zdP 3zlf 0zfa 0zdQ 0zfb 0anyF 0zcy 0$is_told_anew 0zaY 0$anew 0$is_shared 0zbb 0$is_counted 0za4 0$count 0zjs 0$formers 0zbh 0$hindrance 0za5 0$ask_head 0zbi 0zcP 0$shortest 0zaX 1sPu 2mkM 0zaU 1oPu 1gPu 1tPu 0zcR 0zcS 0zcU 0zeC 0400 021 0zdA 0zc7 5zpW 2isiT 2isiX 1isiV 0zgt 0zdB 0zgs 0zdC 0zdE 0zdO 0zbV 1puF 0true 0zqi 5zsC 0T.reversed 0op_and 0od_and 0op_shr 0od_shr 0scNumberOf 0scNumbersOf 0hNumberOf 0scWidthFor 4zqs 0znz 1zrE 0T.bool 0boot_bool 0zjW 0hIsWhole 0znA 0hIsBetween 0zsq 0zqf 0zmg 0zqj 0hWindowed 0zmi 0scIsHead 0scIsHead.nd 0hIsRow 0hIsValue 0scExpected 0hTurned 0zqd 1zn8 0zqO 0znB 0znv 0zqc 0hWidthOf 0zqg 0zqe 0scOpened 0hNumbersOf 0hExpected 0hValueTold 0zjU 0hAround 0zqh 0zjV 0ziy 0scLetterSize 0scLetterSize.nd 0hSizeOf 0scLetterBy 0hCheckOf 0scDoubt 0hFirstOther 0hOpened 0scFirstOther 0scFormerHeads 0scFormerHeads.nd 0zhH 0zfv 0hFormerHeads 0scPresserHindrance 0hPresserIsToldAnew 0hPresserIsShared 0hPresserIsCounted 0hDoubt 0hPresserFormers 0scPresserShortest 0hPresserHindrance 0scPresserIsToldAnew 0scPresserIsToldAnew.nd 0scPresserIsShared 0TC.nPresser_fresh 1zpL 0fd_any 0T.any 0boot_any 9zqu 1zrD 0scPresserIsCounted 0scLawPot 3zsH 0QPs.nil 0!b3 0scLawPick 0PySem.F.slot_list_pop 0PySem.F.type_list_pop 0zqR 0md_pop 0scLawKind 0scLawShape 0hLawKind 0scLawValue 0zny 0scLawExpected 1op_inA 0od_in 0scLawGone 0scLawRow 0hLawHead 0hLawGone 0scLawWay 0scLawForm 0scLawForm.nd 0hLawWay 0scLawBits 0zmh 0scLawPieces 5zsB 0hLawBits 0scLawNumber 0scLawOpened 0hLawNumber 0scLawOffsets 0scLawFitted 0hLawOffsets ;qs_par 1j:= 1zpD 0ztF 0zix 0znw 0scLawGoes 1zrC 0hLawPieces A!l17 0hLawOpened 0scLawSizes 0scLawPact 0hLawFitted 0hLawForm 0scLawDue 0hLawSizes =zsz 7!l7 1zsA 0hLawGoes 0scLawTold ;qs_try 5yb_set 7ye_fn 0hCosts 1!f1 6zsG 0zii 0qn_nil 6zsE 6zsF 0T.ValueError !5y~ !sMz) !6z- !sMz/ !z5v# !sMz7 !sMz9 !s^z> !}~xI !cz? !vM9 !zBzC !~%tr !~&5 !~'zD !~(5 !~)zE !u<zH !s.zI !~,zJ !~-S !~.zK !sMzO !~0zP !xKyo !SzW !5zY !z[yr !~5z] !~6z^ !~7z_ !~8xM !Sza !Szd !w.zg !~<5 !~=zh !s.zi !~?5 !~Azj !w.zm !~Czn !v(zp !~Ezq !wjzs !zwS !s1xA !7e !tSz| !xQ{$ !{&3 !0yz !xR{2 !S{3 !vM1 !uDw` !~R{5 !~Swo".splitOn " ").toArray
  let v := fun (c : Char) => let n := c.toNat; if n > 92 then n - 36 else if n > 64 then n - 35 else if n > 34 then n - 34 else n - 33
  let rd := fun (cs : List Char) => Id.run do
    let mut o : Array Nat := #[]
    let mut p : Option Nat := none
    for c in cs do
      match p with
      | some q => o := o.push (79 + (q - 79) * 91 + v c); p := none
      | none => if v c < 79 then o := o.push (v c) else p := some (v c)
    return o.toList
  let mut td := rd (c.toList.drop 1)
  let mut o : List String := []
  while !td.isEmpty do
    let e := tb[td.head!]!
    if e.startsWith "!" then td := rd (e.toList.drop 1) ++ td.tail
    else o := e :: o; td := td.tail
  let mut st : List Lean.Term := []
  for e in o do
    let nm := ((e.drop 1).toString)
    let k := (e.toList.head!).toNat - 48
    let as := (st.take k).toArray
    st := st.drop k
    let r : Lean.Term ← (do
      if nm.endsWith ":=" then return ⟨Lean.Syntax.node .none ``Lean.Parser.Term.namedArgument #[Lean.mkAtom "(", J (nm.dropEnd 2).toString, Lean.mkAtom ":=", as[0]!, Lean.mkAtom ")"]⟩
      if nm == "_" then return ← `(_)
      if nm.startsWith "!" then
        match (nm.drop 1).toString with
        | "b0" => return ← `((by decide))
        | "b1" => return ← `((by repeat ( first | exact trivial | refine ⟨ rfl , ?_ ⟩ )))
        | "b2" => return ← `((by rfl))
        | "b3" => return ← `((by simp))
        | "b4" => return ← `((by with_unfolding_all rfl))
        | "nd" => return ← `((by decide +kernel : ($(as[0]!) : List $(J "Str")).Nodup))
        | "m0" => return ← `(have h := $(J "mkx") $(J "P") $(J "w") $(J "base") $(J "cl") $(as[0]!) $(J "F") $(J "b") $(J "m") $(as[1]!) fun $(J "cdv") $(J "A") $(J "outer") $(J "s") $(J "H") $(J "E") $(J "hr") => $(as[2]!); h)
        | "m1" => return ← `(have h := $(J "mkx") $(J "P") $(J "w") $(J "base") $(J "cl") $(as[0]!) $(J "F") $(J "b") $(J "m") $(as[1]!) fun $(J "cdv") $(J "A") $(J "outer") $(J "s") $(J "H") $(J "E") $(J "hr") => $(as[2]!); h.loc)
        | "m2" => return ← `(have h := $(J "mkm") $(J "P") $(J "w") $(J "base") $(J "cl") $(as[0]!) $(J "F") $(J "b") $(J "m") $(as[1]!) fun $(J "cdv") $(J "A") $(J "outer") $(J "s") $(J "H") $(J "E") $(J "hr") => $(as[2]!); h)
        | x => match x.toList.head! with
          | 'l' => return ← `([$as,*])
          | 'a' => return ← `(⟨$as,*⟩)
          | 'p' => if as.size == 2 then return ← `(($(as[0]!), $(as[1]!))) else return ← `(($(as[0]!), $(as[1]!), $(as[2]!)))
          | _ => if x == "f4" then return ← `(fun _ _ _ _ => $(as[0]!)) else if x == "f2" then return ← `(fun _ _ => $(as[0]!)) else if x == "f3" then return ← `(fun _ _ _ => $(as[0]!)) else return ← `(fun _ => $(as[0]!))
      let h : Lean.Term := if nm.startsWith "$" then Lean.Syntax.mkStrLit (nm.drop 1).toString else if (nm.toList.head!).isDigit then Lean.Syntax.mkNumLit nm else if nm.startsWith "." then ⟨Lean.Syntax.node .none ``Lean.Parser.Term.dotIdent #[Lean.mkAtom ".", J (nm.drop 1).toString]⟩ else J nm
      return if k == 0 then h else Lean.Syntax.mkApp h as : Lean.MacroM Lean.Term)
    st := r :: st
  `(tactic| exact $(st.head!))
local macro_rules | `(tactic| erw $s:rwRuleSeq) => `(tactic| (walk_at "w"; rw $s:rwRuleSeq))
local macro_rules | `(tactic| ac_nf) => `(tactic| walk_at "w")
set_option maxHeartbeats 16000000
noncomputable section
set_option Elab.async false
set_option linter.all false
set_option maxRecDepth 100000
namespace AutoP
theorem a0(h:True:=by first | exact .inl rfl | exact .inr rfl | assumption):True:=h
theorem a1(h:True:=by decide):True:=h
theorem a2(h:True:=by intro _;rfl):True:=h
theorem a3(h:True:=by rfl):True:=h
theorem a4(h:True:=by with_unfolding_all rfl):True:=h
theorem a5(h:True:=by intro _ _ z;simp[*]at z):True:=h
theorem a6(h:True:=by decide +kernel):True:=h
theorem a7(h:True:=by intro _ _;rfl):True:=h
theorem a8(h:True:=by repeat first | exact aNil_len | refine aCons_len ?_):True:=h
end AutoP
namespace L2
open PySem PySem.Spec PyProof.Rows
abbrev Key:=Sum Int af
def zmN:Key->ag->Bool
 |.inl k,v=>Value.isInt k v|.inr x,v=>Value.isStrOf x v
def keyH(w:al):Key->Int
 |.inl k=>hashInt k|.inr x=>hashStr w x
theorem za8:∀{k:Key}{v:ag},zmN k v=ae->(∃i t,k=yaU i/\v=ybk i t)∨(∃x t,k=yZ x/\v=ybl x t)
 |.inl i,v,h=>by
  obtain⟨t,e⟩:=Value.isInt_shape (k:=i) (v:=v) h;exact .inl ⟨i,t,rfl,e⟩
 |.inr x,v,h=>by
  obtain⟨t,e⟩:=Value.isStrOf_shape (x:=x) (v:=v) h;exact .inr ⟨x,t,rfl,e⟩
theorem zoN(i:Int)(t:Tok):zmN (.inl i) (.int i t)=ae:=by simp[zmN,Value.isInt]
theorem zoM(x:af)(t:Tok):zmN (.inr x) (.str x t)=ae:=by simp[zmN,Value.isStrOf]
theorem key_ll(a b:Int):decide ((yaU a:Key)=yaU b)=(a==b):=by
 by_cases e:a=b
 ·subst e;simp
 ·have h : ¬ (yaU a:Key)=yaU b:=fun q=>e (Sum.inl.inj q);rw[decide_eq_false h];exact(beq_eq_false_iff_ne.mpr e).symm
theorem key_rr(a b:af):decide ((yZ a:Key)=yZ b)=decide (a=b):=by
 by_cases e:a=b
 ·subst e;simp
 ·have h : ¬ (yZ a:Key)=yZ b:=fun q=>e (Sum.inr.inj q);rw[decide_eq_false h,decide_eq_false e]
theorem key_lr(a:Int)(b:af):decide ((yaU a:Key)=yZ b)=ai:=decide_eq_false (fun q=>nomatch q)
theorem key_rl(a:af)(b:Int):decide ((yZ a:Key)=yaU b)=ai:=decide_eq_false (fun q=>nomatch q)
def zbA(prog:ar)(w:al):PySem.KeyKind prog w Key where
 is:=zmN
 hash:=keyH w
 inj:=fun v a b ha c=>by
  rcases za8 ha with⟨i,t,rfl,rfl⟩|⟨x,t,rfl,rfl⟩
  ·rcases za8 c with⟨j,u,rfl,e⟩|⟨y,u,rfl,e⟩
   ·injection e with e1 _;rw[e1]
   ·exact nomatch e
  ·rcases za8 c with⟨j,u,rfl,e⟩|⟨y,u,rfl,e⟩
   ·exact nomatch e
   ·injection e with e1 _;rw[e1]
 byValue:=fun k v h=>by
  rcases za8 h with⟨i,t,rfl,rfl⟩|⟨x,t,rfl,rfl⟩ <;> rfl
 pyHash:=fun H h=>by
  rcases za8 H with⟨i,t,rfl,rfl⟩|⟨x,t,rfl,rfl⟩
  ·exact wpAny_pyHash_int h
  ·exact wpAny_pyHash_str h
 eqBool:=fun d H h=>by
  rcases za8 d with⟨i,t,rfl,rfl⟩|⟨x,t,rfl,rfl⟩
  ·rcases za8 H with⟨j,u,rfl,rfl⟩|⟨y,u,rfl,rfl⟩
   ·rw[key_ll]at h;exact wpAny_eqBool_int h
   ·rw[key_lr]at h;exact SeqAt.EqAt.int_str i t y u _ _ _ _ h
  ·rcases za8 H with⟨j,u,rfl,rfl⟩|⟨y,u,rfl,rfl⟩
   ·rw[key_rl]at h;exact SeqAt.EqAt.str_int x t j u _ _ _ _ h
   ·rw[key_rr]at h;exact wpAny_eqBool_str h
 «strs» := fun k x t v h=>by
  rcases za8 h with⟨i,u,rfl,e⟩|⟨y,u,rfl,e⟩
  ·exact nomatch e
  ·injection e with e1 _
   subst e1
   cases v <;> rfl
theorem zkA(prog:ar)(w:al)(i:Int)(t:Tok):(zbA prog w).is (.inl i) (.int i t)=ae:=zoN i t
theorem zkz(prog:ar)(w:al)(x:af)(t:Tok):(zbA prog w).is (.inr x) (.str x t)=ae:=zoM x t
inductive V where
 |non | bl (b:Bool) | int (i:Int) | str (x:af) | byt (b:Array UInt8) | flt (b:UInt64) | ref (a:ac) | ty (n:String)
 deriving DecidableEq
def RelV:V->ag->Prop
 |.non,u=>u=yab|.bl b,u=>u=ybm b|.int i,u=>∃t,u=ybk i t|.str x,u=>∃t,u=ybl x t|.byt b,u=>∃t,u=Value.bytes b t|.flt b,u=>∃t,u=yce b t|.ref a,u=>u=yn a|.ty n,u=>u=yah n
abbrev Vals:List V->List ag->Prop:=Paired RelV
variable{xs:List V}{us:List ag}
theorem Vals.length(r:Vals xs us):xs.length=us.length:=Paired.length r
theorem Vals.get:∀{xs:List V}{us:List ag}{i:Nat}{x:V},Vals xs us->xs[i]?=aa x->∃u,us[i]?=aa u/\RelV x u
 |_,_,_,_,.nil,e=>by simp at e|_,_,0,_,.cons r _,e=>by simp at e;subst e;exact⟨_,rfl,r⟩|_,_,i+1,x,.cons _ t,e=>by
  obtain⟨u,h1,h2⟩:=Vals.get (i:=i) (x:=x) t (by simpa using e);exact⟨u,by simpa using h1,h2⟩
theorem Vals.append:∀{xs ys:List V}{us ws:List ag},Vals xs us->Vals ys ws->Vals (xs++ys) (us++ws)
 |_,_,_,_,.nil,s=>s|_,_,_,_,.cons r t,s=>.cons r (Vals.append t s)
theorem Vals.take:∀{xs:List V}{us:List ag}(n:Nat),Vals xs us->Vals (xs.take n) (us.take n)
 |_,_,0,_=>.nil|_,_,_+1,.nil=>.nil|_,_,n+1,.cons r t=>.cons r (Vals.take n t)
theorem Vals.drop:∀{xs:List V}{us:List ag}(n:Nat),Vals xs us->Vals (xs.drop n) (us.drop n)
 |_,_,0,r=>r|_,_,_+1,.nil=>.nil|_,_,n+1,.cons _ t=>Vals.drop n t
def RelO:Option V->Option ag->Prop
 |some v,aa u=>RelV v u|none,none=>True|_,_=>False
def KV{a : Type}:List (a × V)->List (a × ag)->Prop:=Paired fun(p : a × V)(q : a × ag)=>p.1=q.1/\RelV p.2 q.2
def kV:Key->V
 |.inl i=>.int i|.inr x=>.str x
inductive HO where
 |lst (xs:List V)
 |tup (xs:List V)
 |dK (kvs:List (Key×V)) | dT (kvs:List (List Key×V))
 |set (S:Int->Bool) (n:Nat)
 |ins (C dx:ac) (fs:List (af×V))
 |own (x:ac)
 |xd (fs:List (af×V))
 |met (f x:ac)
 |rng (lo hi:Int)
 |frz (o:av) (u:HO)
 |tbl (ps:Array ag)
 |ext (φ : au->Prop)
abbrev Hp:=ac->Option HO
def upd(H:Hp)(a:ac)(o:HO):Hp:=fun b=>if b=a then aa o else H b
variable{H:Hp}{a:ac}{o:HO}
theorem zaF:upd H a o a=aa o:=by unfold upd;rw[if_pos rfl]
variable{b:ac}
theorem zax(h:b≠a):upd H a o b=H b:=by unfold upd;rw[if_neg h]
theorem ne_of{u:HO}(h:H a=aa o)(h':H b=aa u)(d:o≠u):a≠b:=by
 intro e;subst e;rw[h]at h';exact d (yP h')
theorem zar(h:H a=aa o)(h':H b=none):a≠b:=by
 intro e;subst e;rw[h]at h';cases h'
section
variable(P:ar)(w:al)
def NoD(h:au)(a:ac):Prop:=∃o,h.get? a=aa o/\o.dict=none
def ObjOk(H:Hp)(h:au)(a:ac):HO->Prop
 |.lst xs=>xs.length<=sizeLine/\∃(its:List ag)(n:Nat),Vals xs its/\h.get? a=aa { cls := .type "list", data := .seq its.toArray n }|.tup xs=>xs.length<=sizeLine/\∃its:List ag,Vals xs its/\IsTup h a its.toArray/\NoD h a|.dK kvs=>kvs.length<=sizeLine/\(a==a9)=ai/\∃vs,KV kvs vs/\h.DictOf (zbA P w) a vs|.dT kvs=>kvs.length<=sizeLine/\(a==a9)=ai/\∃xs:List (List Key×ac×ag),
   Paired (fun(p:List Key×V)(q:List Key×ac×ag)=>p.1=q.1/\H q.2.1=aa (.tup (p.1.map kV))/\RelV p.2 q.2.2) kvs xs ∧
   ∃o es ep,h.get? a=aa o/\o.ExactDict/\o.data = .dict es ep/\es.toList=xs.map (entryOfKey (bS (zbA P w)))/\(xs.map (·.1)).Nodup
 |.set S n=>h.SetOf (intKind P w) a S n|.ins C dx fs=>H dx=aa (.own a)/\fs.length<=1000/\dx≠a/\h.get? a=aa (yaM C dx) ∧
   ∃mA,h.Ns1 dx mA/\(∀f,RelO (fs.lookup f) (mA f))/\ycf mA (fs.map (·.1))
 |.own _=>∃o,h.get? a=aa o|.xd fs=>∃mA,h.Ns1 a mA/\∀f,RelO (fs.lookup f) (mA f)|.rng lo hi=>∃t u v,h.get? a=aa { cls := .type "range", data := .fields #[.int lo t,.int hi u,.int 1 v] }|.frz o u=>h.get? a=aa o/\ObjOk H h a u|.tbl ps=>h.get? a=aa { cls := .none,data := .fields ps }|.met f x=>h.get? a=aa (ycg (.ref f) (.ref x))|.ext φ=> φ h/\(∃o,h.get? a=aa o)/\∀h1 h2:au,φ h1->(∀o,h1.get? a=aa o->h2.get? a=aa o) -> φ h2
def HOk(H:Hp)(h:au):Prop:=∀a o,H a=aa o->ObjOk P w H h a o
end
variable{P:ar}{H':Hp}{h h':au}
section
variable{w:al}
theorem ObjOk.lt(x:ObjOk P w H h a o):a<h.objs.size:=by
 cases o with
 |lst xs=>obtain⟨_,_,_,_,e⟩:=x;exact yg e
 |tup xs=>obtain⟨_,_,_,p,_⟩:=x;exact p.lt
 |dK kvs=>obtain⟨_,_,_,_,o,_,_,e,_⟩:=x;exact yg e
 |dT kvs=>obtain⟨_,_,_,_,o,_,_,e,_⟩:=x;exact yg e
 |set S n=>obtain⟨o,_,_,_,e,_⟩:=x;exact yg e
 |ins C dx fs=>obtain⟨_,_,_,e,_⟩:=x;exact yg e
 |own y=>obtain⟨_,e⟩:=x;exact yg e
 |xd fs=>obtain⟨_,⟨_,_,_,e,_⟩,_⟩:=x;exact yg e
 |rng lo hi=>obtain⟨_,_,_,e⟩:=x;exact yg e
 |frz ob u=>obtain⟨e,_⟩:=x;exact yg e
 |tbl ps=>exact yg (show h.get? a=aa _ from x)|met f y=>exact yg (show h.get? a=aa _ from x)|ext φ=>obtain⟨_,⟨_,e⟩,_⟩:=x;exact yg e
theorem Paired.mapP{α β : Type}{F G:α -> β -> Prop}:∀{L : List α}{l : List β},Paired F L l -> (∀a b,F a b->G a b)->Paired G L l
 |_,_,.nil,_=>.nil|_,_,.cons r t,f=>.cons (f _ _ r) (Paired.mapP t f)
theorem ObjOk.stay(x:ObjOk P w H h a o)(k:∀b u,(b=a∨H b=aa (.own a))->h.get? b=aa u->h'.get? b=aa u)(j:∀b,H b=aa (.own a)->H' b=aa (.own a))(g:∀b xs,H b=aa (.tup xs)->H' b=aa (.tup xs)):ObjOk P w H' h' a o:=by
 induction o with
 |lst xs=>obtain⟨z,its,n,r,e⟩:=x;exact⟨z,its,n,r,k _ _ (.inl rfl) e⟩
 |tup xs=>obtain⟨z,its,r,⟨ob,e,c⟩,od,l,D⟩:=x;exact⟨z,its,r,⟨ob,k _ _ (.inl rfl) e,c⟩,od,k _ _ (.inl rfl) l,D⟩
 |dK kvs=>obtain⟨z,y,vs,r,ob,es,E,e,c⟩:=x;exact⟨z,y,vs,r,ob,es,E,k _ _ (.inl rfl) e,c⟩
 |dT kvs=>
  obtain⟨z,y,xs,r,ob,es,E,e,c⟩:=x;exact⟨z,y,xs,Paired.mapP r fun p q z=>⟨z.1,g _ _ z.2.1,z.2.2⟩,ob,es,E,k _ _ (.inl rfl) e,c⟩
 |set S n=>obtain⟨ob,es,E,t,e,c⟩:=x;exact⟨ob,es,E,t,k _ _ (.inl rfl) e,c⟩
 |ins C dx fs=>
  obtain⟨d,z,ne,e,mA,⟨od,es,E,m,c⟩,r⟩:=x;exact⟨j _ d,z,ne,k _ _ (.inl rfl) e,mA,⟨od,es,E,k _ _ (.inr d) m,c⟩,r⟩
 |own y=>obtain⟨ob,e⟩:=x;exact⟨ob,k _ _ (.inl rfl) e⟩
 |xd fs=>obtain⟨mA,⟨od,es,E,e,c⟩,r⟩:=x;exact⟨mA,⟨od,es,E,k _ _ (.inl rfl) e,c⟩,r⟩
 |rng lo hi=>obtain⟨t,u,v,e⟩:=x;exact⟨t,u,v,k _ _ (.inl rfl) e⟩
 |frz ob u i=>obtain⟨e,q⟩:=x;exact⟨k _ _ (.inl rfl) e,i q⟩
 |tbl ps=>
  have e:h.get? a=aa { cls := .none,data := .fields ps }:=x;show h'.get? a=aa { cls := .none,data := .fields ps };exact k a _ (.inl rfl) e
 |met f y=>
  have e:h.get? a=aa (ycg (.ref f) (.ref y)):=x;show h'.get? a=aa (ycg (.ref f) (.ref y));exact k a _ (.inl rfl) e
 |ext φ=>obtain⟨p,⟨o,e⟩,st⟩:=x;exact⟨st _ _ p fun o q=>k _ _ (.inl rfl) q,⟨o,k _ _ (.inl rfl) e⟩,st⟩
theorem HOk.lt(x:HOk P w H h)(e:H a=aa o):a<h.objs.size:=(x a o e).lt
theorem HOk.fresh(x:HOk P w H h)(e:h.objs.size<=a):H a=none:=by
 cases q:H a with
 |none=>rfl|some u=>exact absurd (yF (x.lt q) e) (yac _)
theorem HOk.kept(x:HOk P w H h)(k:∀b u,h.get? b=aa u->h'.get? b=aa u):HOk P w H h':=fun a o e=>
 (x a o e).stay (fun b u _ q=>k b u q) (fun _ q=>q) fun _ _ q=>q
theorem HOk.laid(x:HOk P w H h)(k:∀b u,h.get? b=aa u->h'.get? b=aa u)(f:h.objs.size<=a)(new:ObjOk P w (upd H a o) h' a o):HOk P w (upd H a o) h':=fun b u e=>by
 have hn:=x.fresh f;by_cases d:b=a
 ·subst d;rw[zaF]at e;cases e;exact new
 ·rw[zax d]at e;exact(x b u e).stay (fun c v _ q=>k c v q) (fun c q=>by rw[zax (zar q hn)];exact q) fun c xs q=>by rw[zax (zar q hn)];exact q
end
def Rd(H:Hp)(a:ac)(u:HO):Prop:=H a=aa u∨∃o,H a=aa (.frz o u)
theorem Rd.ok{w:al}{u:HO}(r:Rd H a u)(x:HOk P w H h):ObjOk P w H h a u:=by
 rcases r with r|⟨o,r⟩
 ·exact x a u r
 ·obtain⟨_,q⟩:=x a _ r;exact q
def Mut:Option HO->Prop
 |some (.lst _)=>True|some (.dK _)=>True|some (.dT _)=>True|some (.set _ _)=>True|some (.ins _ _ _)=>True|some (.ext _)=>True|_=>False
section
variable{w:al}{x e:ac}{o':HO}
theorem HOk.write(ok:HOk P w H h)(m:Mut (H x))(i:e=x∨H e=aa (.own x))(k:∀b u,b≠e->h.get? b=aa u->h'.get? b=aa u)(g:∃u,h'.get? e=aa u)
  (new:ObjOk P w (upd H x o') h' x o'):HOk P w (upd H x o') h':=fun b u q=>by
 have n:∀c y,H c=aa (.own y)->c≠x:=fun c y r z=>by subst z;rw[r]at m;exact m
 have N:∀c xs,H c=aa (.tup xs)->c≠x:=fun c xs r z=>by subst z;rw[r]at m;exact m
 by_cases f:b=x
 ·subst f;rw[zaF]at q;cases q;exact new
 ·rw[zax f]at q;by_cases a:b=e
  ·have Q:H b=aa (.own x):=by
    rcases i with z|z
    ·exact absurd (a.trans z) f
    ·rw[a];exact z
   rw[q]at Q;cases Q;obtain⟨v,j⟩:=g;exact⟨v,by rw[a];exact j⟩
  ·refine(ok b u q).stay (fun c v d r=>k c v ?_ r) (fun c r=>by rw[zax (n c b r)];exact r) fun c xs r=>by rw[zax (N c xs r)];exact r
   rcases d with rfl|d
   ·exact a
   ·rintro rfl;rcases i with z|z
    ·exact n c b d z
    ·rw[d]at z;cases z;exact f rfl
end
structure Un(fs ex:List ac)(H H':Hp)(h h':au):Prop where
 keep:∀b o,h.get? b=aa o->H b=none->b∉fs->b∉ex->h'.get? b=aa o
 slot:∀b o,h.get? b=aa o->H b=none->b∈fs->b∉ex->∃sl,h'.get? b=aa { o with slots:=sl }
 free:∀b o,h.get? b=aa o->H b=none->b∉ex->H' b=none
 there:∀b o,h.get? b=aa o->b∉ex->∃o',h'.get? b=aa o'
 tups:∀b xs,H b=aa (.tup xs)->H' b=aa (.tup xs)
 frzs:∀b o u,H b=aa (.frz o u)->H' b=aa (.frz o u)
 tbls:∀b ps,H b=aa (.tbl ps)->∃more,H' b=aa (.tbl (ps++more))
section
variable{fs fs' ex ex':List ac}{H1 H2:Hp}{h1 h2:au}{x e:ac}
theorem Un.any(u:Un fs ex H H1 h h1){ob:av}(q:h.get? b=aa ob)(n:H b=none)(a:b∉ex):∃sl,h1.get? b=aa { ob with slots:=sl }:=by
 by_cases c:b∈fs
 ·exact u.slot b ob q n c a
 ·exact⟨ob.slots,u.keep b ob q n c a⟩
theorem Un.kept(k:∀b u,h.get? b=aa u->h'.get? b=aa u):Un fs ex H H h h' :=
 ⟨fun b ob q _ _ _=>k b ob q,fun b ob q _ _ _=>⟨ob.slots,k b ob q⟩,fun _ _ _ n _=>n,fun b ob q _=>⟨ob,k b ob q⟩,fun _ _ q=>q,fun _ _ _ q=>q,fun _ ps q=>⟨#[],by rw[q];simp⟩⟩
theorem Un.refl:Un fs ex H H h h:=Un.kept fun _ _ q=>q
theorem Un.laid(k:∀b u,h.get? b=aa u->h'.get? b=aa u)(c:h.objs.size<=a)(hn:H a=none):Un fs ex H (upd H a o) h h' where
 keep:=fun b u q _ _ _=>k b u q
 slot:=fun b u q _ _ _=>⟨u.slots,k b u q⟩
 free:=fun b u q n _=>by rw[zax (yB (yF (yg q) c))];exact n
 there:=fun b u q _=>⟨u,k b u q⟩
 tups:=fun b xs q=>by rw[zax (zar q hn)];exact q
 frzs:=fun b u xs q=>by rw[zax (zar q hn)];exact q
 tbls:=fun b ps q=>⟨#[],by rw[zax (zar q hn),q];simp⟩
theorem Un.write(m:Mut (H x))(g:e=x∨H e=aa (.own x))(k:∀b u,b≠e->h.get? b=aa u->h'.get? b=aa u)(c:∃u,h'.get? e=aa u):Un fs ex H (upd H x o) h h':=by
 have d:∀b,H b=none->b≠x:=fun b n z=>by subst z;rw[n]at m;exact m
 have f:∀b,H b=none->b≠e:=fun b n z=>by
  subst z;rcases g with r|r
  ·exact d b n r
  ·rw[n]at r;cases r
 have hm:∀b u,H b=aa u -> ¬ Mut (aa u)->b≠x:=fun b u q nm z=>by subst z;rw[q]at m;exact nm m
 refine⟨fun b u q n _ _=>k b u (f b n) q,fun b u q n _ _=>⟨u.slots,k b u (f b n) q⟩,fun b u q n _=>by rw[zax (d b n)];exact n,fun b u q _=>?_,
  fun b xs q=>by rw[zax (hm b _ q fun z=>z)];exact q,fun b u xs q=>by rw[zax (hm b _ q fun z=>z)];exact q,fun b ps q=>⟨#[],by rw[zax (hm b _ q fun z=>z),q];simp⟩⟩
 by_cases a:b=e
 ·subst a;exact c
 ·exact⟨u,k b u a q⟩
end
def trk(h:au)(H:Hp):List ac:=(yC h.objs.size).filter fun a=>(H a).isSome
def zq5(h:au)(H:Hp):au:=PySem.W.hideAll h (trk h H)
theorem zo0(h:au)(H:Hp):(zq5 h H).objs.size=h.objs.size:=PySem.W.hideAll_size _ _
theorem zq4{o:av}(e:h.get? b=aa o)(n:H b=none):(zq5 h H).get? b=aa o :=
 PySem.W.hideAll_get _ e fun hm=>by
  have q:(H b).isSome=ae:=(ybH.mp hm).2;rw[n]at q;simp at q
theorem ztb{o:av}(e:(zq5 h H).get? b=aa o):h.get? b=aa o/\H b=none:=by
 have E:h.get? b=aa o:=PySem.W.of_hideAll (trk h H) e;refine⟨E,?_⟩;cases q:H b with
 |none=>rfl|some x=>
  have hm:b∈trk h H:=ybH.mpr ⟨yal.mpr (yg E),by simp[q]⟩;have z:(zq5 h H).get? b=none:=PySem.W.hideAll_none (trk h H) hm;rw[z]at e;cases e
structure Mod(K:ya)(mg:af->Option ag)(base:au):Prop where
 kin:K.In base
 glob:base.Ns aF mg
 blt:∃mb,base.Ns cd mb/\∀x:af,x ≠ "__name__" -> mb x=aT x
 nolimit:base.NoLimit
structure Cx where
 prog:ar
 w:al
 K:ya
 mg:af->Option ag
 base:au
 A:az
 N:List af
 s₀ : ak
 H₀ : Hp
 env:aH
 outer:List aH
 stack:List aH
 ex:List ac
 fn:af->Bool
 calm:Bool
 pn:List (ac×av)
 xe:ag->ak->Prop
def frs(l:List aH):List ac:=l.filterMap (·.frame)
abbrev Cx.fs(X:Cx):List ac:=frs X.outer
def Vis(sc:aO)(x:af):Prop:=sc.names.lookup x=aa .local∨sc.names.lookup x=aa .cell∨sc.names.lookup x=aa .free
def Loc(sc:aO)(x:af):Prop:=sc.names.lookup x=aa .local∨sc.names.lookup x=aa .cell
def Look(env:aH)(h:au)(m:af->Option ag)(x:af)(u:ag):Prop :=
 (env.kindOf x=aa .local/\m x=aa u)∨((env.kindOf x=aa .cell∨env.kindOf x=aa .free)/\∃c,env.cells.lookup x=aa c/\h.IsCell c (aa u))
structure Cx.Ok(X:Cx):Prop where
 mod:Mod X.K X.mg X.base
 kind:X.env.scope.kind = .function
 glob:X.env.globals=aF
 blt:X.env.builtins=cd
 above:X.s₀.heap.objs.size<=X.env.locals
 inj:∀x y c,X.env.cells.lookup x=aa c->X.env.cells.lookup y=aa c->x=y
 has:∀x,(X.env.kindOf x=aa .cell∨X.env.kindOf x=aa .free)->∃c,X.env.cells.lookup x=aa c
 cab:∀x c,X.fn x=ae->X.env.cells.lookup x=aa c->X.s₀.heap.objs.size<=c
 hd:X.calm=ae->X.A.handled=none
 frames:X.A.frames=aa X.stack
 stk:X.stack=X.outer∨(X.stack=X.env::X.outer/\X.env.frame=aa X.env.locals)
 exf:∀b∈X.ex,b≠X.env.locals/\∀x c,X.env.cells.lookup x=aa c->c≠b
 bs:∀b o,X.base.get? b=aa o->X.s₀.heap.get? b=aa o/\X.H₀ b=none
 bsz:X.base.objs.size<=X.s₀.heap.objs.size
 noex:∀b o,X.base.get? b=aa o->b∉X.ex
 exfs:∀b∈X.ex,b∉X.fs
 funs:X.s₀.heap.FunFrames X.base X.outer
 frf:∀b∈X.fs,X.H₀ b=none
structure Inv(X:Cx)(pins:List (ac×av))(σ : List (Option V))(H:Hp)(s:ak):Prop where
 ok:X.Ok
 os:s.os=X.s₀.os
 bare:aU s.gens
 base:Un X.fs X.ex X.H₀ H X.s₀.heap s.heap
 loc:∃m,s.heap.Ns X.env.locals m/\∀(i:Nat)(x:af)(v:V),X.N[i]?=aa x->σ[i]?=aa (aa v)->Vis X.env.scope x->∃u,RelV v u/\Look X.env s.heap m x u
 cell:∀x c,X.env.cells.lookup x=aa c->∃v,s.heap.IsCell c v
 free:H X.env.locals=none
 freeC:∀x c,X.env.cells.lookup x=aa c->H c=none
 pin:∀p∈X.pn++pins,s.heap.get? p.1=aa p.2/\H p.1=none/\p.1≠X.env.locals/\p.1∉X.fs/\∀v,p.2.data ≠ .cell v
 hok:HOk X.prog X.w H s.heap
 len:σ.length=X.N.length
variable{u:ag}{x:af}{X:Cx}{pins:List (ac×av)}{s:ak}{g':Array GenState}{t':Nat}{d':Drawn}{ch:List ac}{it:ac}{N:List af}{i j:Nat}{M:Model}{A:az}{E:ag->ak->Prop}{v:V}{s':ak}
section
variable{σ : List (Option V)}
theorem Cx.Ok.nofr(ok:X.Ok){o:av}(e:X.base.get? b=aa o):b∉X.fs:=fun h=>by
 have:=(ok.funs.mem h).1;rw[e]at this;cases this
theorem Inv.bs(I:Inv X pins σ H s):∀b o,X.base.get? b=aa o->s.heap.get? b=aa o/\H b=none:=fun b o e=>
 ⟨I.base.keep b o (I.ok.bs b o e).1 (I.ok.bs b o e).2 (I.ok.nofr e) (I.ok.noex b o e),I.base.free b o (I.ok.bs b o e).1 (I.ok.bs b o e).2 (I.ok.noex b o e)⟩
theorem Inv.bk(I:Inv X pins σ H s):∀b o,X.base.get? b=aa o->s.heap.get? b=aa o:=fun b o e=>(I.bs b o e).1
theorem Inv.mod(I:Inv X pins σ H s):Mod X.K X.mg X.base:=I.ok.mod
theorem Inv.kIn(I:Inv X pins σ H s):X.K.In s.heap:=I.ok.mod.kin.keeps I.bk
theorem Inv.lt(I:Inv X pins σ H s):X.env.locals<s.heap.objs.size:=let ⟨_,hn,_⟩:=I.loc;hn.lt
theorem Inv.sz(I:Inv X pins σ H s):X.s₀.heap.objs.size<=s.heap.objs.size:=yM I.ok.above (yam I.lt)
theorem Inv.nofs(I:Inv X pins σ H s)(h:s.heap.objs.size<=a):a∉X.fs:=fun c=>by
 obtain⟨_,o,b,_⟩:=I.ok.funs.mem c;exact absurd (yF (yg b) (yM I.sz h)) (yac _)
theorem Inv.cne(I:Inv X pins σ H s):∀x c,X.env.cells.lookup x=aa c->c≠X.env.locals:=fun x c e z=>by
 obtain⟨v,o,b,hd⟩:=I.cell x c e;obtain⟨m,⟨o',es,E,h,a,_⟩,_⟩:=I.loc;rw[z,h]at b;cases b;rw[a]at hd;cases hd
theorem Inv.funs(I:Inv X pins σ H s):s.heap.FunFrames X.base X.outer:=by
 have all:∀(l:List aH),(∀b∈frs l,b∈X.fs)->X.s₀.heap.FunFrames X.base l->s.heap.FunFrames X.base l:=by
  intro l;induction l with
  |nil=>intro _ _;trivial|cons env r i=>
   intro hs hl;obtain⟨f,⟨L,o,h,hn,d,hd⟩,hr⟩:=hl;have c:L∈X.fs:=hs L (by unfold frs;rw[ybI,h];exact yaN);obtain⟨sl,e⟩:=I.base.slot L o d (I.ok.frf L c) c fun z=>I.ok.exfs L z c;exact⟨f,⟨L,_,h,hn,e,hd⟩,i (fun b a=>hs b (by unfold frs;rw[ybI,h];exact yY _ a)) hr⟩
 exact all X.outer (fun _ a=>a) I.ok.funs
theorem Inv.stack(I:Inv X pins σ H s):s.heap.FunFrames X.base X.stack:=by
 rcases I.ok.stk with e|⟨e,h⟩
 ·rw[e];exact I.funs
 ·rw[e];obtain⟨m,hn,_⟩:=I.loc;refine .cons (by rw[I.ok.kind];decide) h hn ?_ I.funs;exact Heap.get?_none_of_le (yM I.ok.bsz I.ok.above)
theorem Inv.stkSub(I:Inv X pins σ H s):∀b∈frs X.stack,b∈X.env.locals::X.fs:=fun b h=>by
 rcases I.ok.stk with e|⟨e,a⟩
 ·rw[e]at h;exact yY _ h
 ·rw[e]at h;unfold frs at h;rw[ybI,a]at h;exact h
theorem Inv.stkFree(I:Inv X pins σ H s):∀b∈frs X.stack,H b=none:=fun b h=>by
 rcases yA.mp (I.stkSub b h) with e|h
 ·rw[e];exact I.free
 ·obtain⟨_,o,a,_⟩:=I.ok.funs.mem h;exact I.base.free b o a (I.ok.frf b h) fun z=>I.ok.exfs b z h
theorem Inv.step(I:Inv X pins σ H s)
  (a:∀b∈ch,(b∈X.ex∨X.s₀.heap.objs.size<=b)/\b≠X.env.locals/\(∀x c,X.env.cells.lookup x=aa c->c≠b)/\∀p∈X.pn++pins,p.1≠b)
  (keep:∀b o,b≠X.env.locals->b∉X.fs->b∉ch->s.heap.get? b=aa o->H b=none->h'.get? b=aa o)
  (slot:∀b o,b≠X.env.locals->b∈X.fs->b∉ch->s.heap.get? b=aa o->H b=none->∃sl,h'.get? b=aa { o with slots:=sl }) (free:∀b o,b∉ch->s.heap.get? b=aa o->H b=none->H' b=none)
  (there:∀b o,b∉ch->s.heap.get? b=aa o->∃o',h'.get? b=aa o')
  (tups:∀b xs,H b=aa (.tup xs)->H' b=aa (.tup xs)) (frzs:∀b o u,H b=aa (.frz o u)->H' b=aa (.frz o u)) (tbls:∀b ps,H b=aa (.tbl ps)->∃more,H' b=aa (.tbl (ps++more)))
  (ns:∀m,s.heap.Ns X.env.locals m->h'.Ns X.env.locals m) (hok:HOk X.prog X.w H' h') (D:aU g') :
  Inv X pins σ H' { s with heap:=h',gens:=g',drawn:=d',toks:=t' }:=by
 have t:∀b o,X.s₀.heap.get? b=aa o->b≠X.env.locals:=fun b o e=>yB (yF (yg e) I.ok.above);have f:∀b o,X.s₀.heap.get? b=aa o->b∉X.ex->b∉ch:=fun b o e h g=>by
  rcases (a b g).1 with z|z
  ·exact h z
  ·exact absurd (yF (yg e) z) (yac _)
 have C:∀x c,X.env.cells.lookup x=aa c->∀v,s.heap.IsCell c v->h'.IsCell c v:=fun x c e v ⟨o,j,hd⟩=>by
  have N:c∉ch:=fun z=>(a c z).2.2.1 x c e rfl;by_cases B:c∈X.fs
  ·obtain⟨sl,q⟩:=slot c o (I.cne x c e) B N j (I.freeC x c e);exact⟨_,q,hd⟩
  ·exact⟨o,keep c o (I.cne x c e) B N j (I.freeC x c e),hd⟩
 refine⟨I.ok,I.os,D,⟨fun b o e n g h=>?_,fun b o e n g h=>?_,fun b o e n h=>?_,fun b o e h=>?_,fun b xs e=>tups b xs (I.base.tups b xs e),fun b o xs e=>frzs b o xs (I.base.frzs b o xs e),fun b ps e=>?_⟩,?_,fun x c e=>?_,?_,fun x c e=>?_,fun p A=>?_,hok,I.len⟩
 ·exact keep b o (t b o e) g (f b o e h) (I.base.keep b o e n g h) (I.base.free b o e n h)
 ·obtain⟨sl,E⟩:=I.base.slot b o e n g h;obtain⟨S,w⟩:=slot b _ (t b o e) g (f b o e h) E (I.base.free b o e n h);exact⟨S,w⟩
 ·obtain⟨o',E⟩:=I.base.there b o e h;exact free b o' (f b o e h) E (I.base.free b o e n h)
 ·obtain⟨o',E⟩:=I.base.there b o e h;exact there b o' (f b o e h) E
 ·obtain⟨m1,E⟩:=I.base.tbls b ps e;obtain⟨m2,w⟩:=tbls b _ E;exact⟨m1++m2,by rw[w,Array.append_assoc]⟩
 ·obtain⟨m,hn,hl⟩:=I.loc;refine⟨m,ns m hn,fun i x v E w F=>?_⟩;obtain⟨u,r,l⟩:=hl i x v E w F;refine⟨u,r,?_⟩;rcases l with l|⟨k,c,e,z⟩
  ·exact .inl l
  ·exact .inr ⟨k,c,e,C x c e _ z⟩
 ·obtain⟨v,z⟩:=I.cell x c e;exact⟨v,C x c e v z⟩
 ·obtain⟨m,⟨o,_,_,j,_⟩,_⟩:=I.loc;exact free _ o (fun z=>(a _ z).2.1 rfl) j I.free
 ·obtain⟨v,o,j,hd⟩:=I.cell x c e;exact free c o (fun z=>(a c z).2.2.1 x c e rfl) j (I.freeC x c e)
 ·obtain⟨e,n,ne,y,d⟩:=I.pin p A;have N:p.1∉ch:=fun z=>(a p.1 z).2.2.2 p A rfl;exact⟨keep p.1 p.2 ne y N e n,free p.1 p.2 N e n,ne,y,d⟩
theorem Inv.un(I:Inv X pins σ H s)(u:Un X.fs [] H H' s.heap h')(hok:HOk X.prog X.w H' h'):Inv X pins σ H' { s with heap:=h',toks:=t' }:=by
 obtain⟨m,⟨o,es,g,d,r⟩,_⟩:=id I.loc;obtain⟨sl,f⟩:=u.any d I.free (by simp);exact I.step (g':=s.gens) (d':=s.drawn) (ch:=[]) (fun _ z=>nomatch z) (fun b o _ a _ e n=>u.keep b o e n a (by simp)) (fun b o _ a _ e n=>u.slot b o e n a (by simp)) (fun b o _ e n=>u.free b o e n (by simp)) (fun b o _ e=>u.there b o e (by simp)) u.tups u.frzs u.tbls (fun m' hm=>by
  obtain⟨o',E,c,h,r'⟩:=hm;rw[d]at h;cases h;exact⟨_,E,c,f,r'⟩) hok I.bare
theorem Inv.call(I:Inv X pins σ H s)(u:Un (frs X.stack) ch H H' s.heap h')(hok:HOk X.prog X.w H' h')(j:aU g')(d:∀b∈ch,(b∈X.ex∨X.s₀.heap.objs.size<=b)/\b≠X.env.locals/\(∀x c,X.env.cells.lookup x=aa c->c≠b)/\∀p∈X.pn++pins,p.1≠b) : Inv X pins σ H' { s with heap:=h',gens:=g',drawn:=d',toks:=t' }:=by
 obtain⟨m,⟨o,es,l,i,r⟩,_⟩:=id I.loc;obtain⟨sl,f⟩:=u.any i I.free fun z=>(d _ z).2.1 rfl;exact I.step (ch:=ch) d (fun b o f k h e n=>u.keep b o e n (fun z=>(yA.mp (I.stkSub b z)).elim f k) h) (fun b o _ _ h e n=>u.any e n h) (fun b o h e n=>u.free b o e n h) (fun b o h e=>u.there b o e h) u.tups u.frzs u.tbls (fun m' hm=>by
  obtain⟨o',E,g,a,r'⟩:=hm;rw[i]at a;cases a;exact⟨_,E,g,f,r'⟩) hok j
theorem Inv.turned(I:Inv X pins σ H s)(k:∀b o,b≠it->s.heap.get? b=aa o->h'.get? b=aa o)(hn:H it=none)(a:it≠X.env.locals)(j:it∈X.ex∨X.s₀.heap.objs.size<=it)(i:∀x c,X.env.cells.lookup x=aa c->c≠it)(g:∀p∈X.pn++pins,p.1≠it):Inv X pins σ H { s with heap:=h',toks:=t' }:=by
 have N:∀b u,H b=aa u->b≠it:=fun b u e z=>by rw[z,hn]at e;cases e
 refine I.step (g':=s.gens) (d':=s.drawn) (ch:=[it]) (fun b f=>?_) (fun b o _ _ h e _=>k b o (fun z=>h (by simp[z])) e) (fun b o _ _ h e _=>⟨o.slots,k b o (fun z=>h (by simp[z])) e⟩) (fun _ _ _ _ n=>n)
  (fun b o h e=>⟨o,k b o (fun z=>h (by simp[z])) e⟩) (fun _ _ e=>e) (fun _ _ _ e=>e) (fun b ps e=>⟨#[],by rw[e];simp⟩) (fun m hm=>?_) (fun b u e=>?_) I.bare
 ·have e:b=it:=by simpa using f
  subst e;exact⟨j,a,i,g⟩
 ·obtain⟨o,es,E,d,r⟩:=hm;exact⟨o,es,E,k _ o (Ne.symm a) d,r⟩
 ·refine(I.hok b u e).stay (fun c v h q=>k c v ?_ q) (fun _ q=>q) fun _ _ q=>q;rcases h with z|z
  ·rw[z];exact N b u e
  ·exact N c _ z
theorem Inv.tok(I:Inv X pins σ H s)(t:Nat):Inv X pins σ H { s with toks:=t }:=I.un (h':=s.heap) (t':=t) Un.refl I.hok
theorem Inv.kept(I:Inv X pins σ H s)(k:∀b u,s.heap.get? b=aa u->h'.get? b=aa u):Inv X pins σ H { s with heap:=h',toks:=t' }:=I.un (Un.kept k) (I.hok.kept k)
theorem Inv.laid(I:Inv X pins σ H s)(k:∀b u,s.heap.get? b=aa u->h'.get? b=aa u)(h:s.heap.objs.size<=a)(new:ObjOk X.prog X.w (upd H a o) h' a o) :
  Inv X pins σ (upd H a o) { s with heap:=h',toks:=t' }:=I.un (Un.laid k h (I.hok.fresh h)) (I.hok.laid k h new)
theorem Inv.write{x e:ac}(I:Inv X pins σ H s)(m:Mut (H x))(a:e=x∨H e=aa (.own x))(k:∀b u,b≠e->s.heap.get? b=aa u->h'.get? b=aa u)(h:∃u,h'.get? e=aa u)
  (new:ObjOk X.prog X.w (upd H x o) h' x o):Inv X pins σ (upd H x o) { s with heap:=h',toks:=t' }:=I.un (Un.write m a k h) (I.hok.write m a k h new)
theorem Inv.pins_of{P:List (ac×av)}(I:Inv X pins σ H s)(h:∀p∈P,s.heap.get? p.1=aa p.2/\H p.1=none/\p.1≠X.env.locals/\p.1∉X.fs/\∀v,p.2.data ≠ .cell v):Inv X P σ H s :=
 ⟨I.ok,I.os,I.bare,I.base,I.loc,I.cell,I.free,I.freeC,fun p a=>(y6.mp a).elim (fun z=>I.pin p (yaV _ z)) (h p),I.hok,I.len⟩
theorem zh4(h:N.Nodup)(a:N[i]?=aa x)(b:N[j]?=aa x):i=j:=by
 obtain⟨c,E⟩:=yc.mp a;obtain⟨H,e⟩:=yc.mp b;exact(ych h).mp (E.trans e.symm)
theorem zno{Q:Unit->ak->Prop}(I:Inv X pins σ H s)(hN:X.N.Nodup)(hi:X.N[i]?=aa x)(l:Loc X.env.scope x)(r:RelV v u)(h:∀s',Inv X pins (σ.set i (aa v)) H s'->(∃a,yas a s.heap s'.heap/\(a=X.env.locals∨X.env.cells.lookup x=aa a))->Q () s')(hf:autoParam (X.fn x=ae∨X.env.scope.names.lookup x=aa .local) AutoP.a0._auto_1):wpAny M A (storeName X.env x u) Q E s:=by
 obtain⟨m,hn,hl⟩:=id I.loc;have N:(X.env.scope.kind == .class||(X.env.scope.kind == .module&&X.env.locals != X.env.globals))=ai:=by rw[I.ok.kind];rfl
 have D : i < σ.length:=by rw[I.len];exact(yc.mp hi).1
 have cne:=I.cne;have t:∀{a:ac}{h':au},(∃o,s.heap.get? a=aa o/\H a=none)->yas a s.heap h'->HOk X.prog X.w H h':=fun {a h'} ha hs b ob e=>by
  obtain⟨_,_,w⟩:=ha;refine(I.hok b ob e).stay (fun c W g q=>(hs.2 c ?_).trans q) (fun _ q=>q) fun _ _ q=>q;rintro rfl;rcases g with rfl|g
  ·rw[w]at e;cases e
  ·rw[w]at g;cases g
 rcases l with C|C
 ·refine wpAny_storeName_local C hn (fun h' Z hs=>?_) N;obtain⟨oL,_,_,Y,_⟩:=id hn;refine h _ ⟨I.ok,I.os,I.bare,⟨fun b o e n J l=>?_,fun b o e n J l=>?_,I.base.free,fun b o e l=>?_,I.base.tups,I.base.frzs,I.base.tbls⟩,⟨_,Z,fun j y V f B e3=>?_⟩,fun y c e=>?_,I.free,I.freeC,fun p T=>?_,t ⟨oL,Y,I.free⟩ hs,by simpa using I.len⟩ ⟨_,hs,.inl rfl⟩
  ·exact(hs.2 b (yB (yF (yg e) I.ok.above))).trans (I.base.keep b o e n J l)
  ·obtain⟨sl,f⟩:=I.base.slot b o e n J l;exact⟨sl,(hs.2 b (yB (yF (yg e) I.ok.above))).trans f⟩
  ·obtain⟨o',f⟩:=I.base.there b o e l;exact⟨o',(hs.2 b (yB (yF (yg e) I.ok.above))).trans f⟩
  ·by_cases F:j=i
   ·subst F;rw[hi]at f;cases f;rw[yaB D]at B;cases B;exact⟨u,r,.inl ⟨C,by simp⟩⟩
   ·rw[yan (Ne.symm F)]at B;obtain⟨U,r',q⟩:=hl j y V f B e3;refine⟨U,r',?_⟩;rcases q with⟨k,e⟩|⟨k,c,e,z⟩
    ·refine .inl ⟨k,?_⟩;have:y≠x:=fun e=>F (zh4 hN f (e ▸ hi));simp[this,e]
    ·exact .inr ⟨k,c,e,z.sameBut hs (cne y c e)⟩
  ·obtain⟨W,z⟩:=I.cell y c e;exact⟨W,z.sameBut hs (cne y c e)⟩
  ·obtain⟨e,n,ne,S,d⟩:=I.pin p T;exact⟨(hs.2 p.1 ne).trans e,n,ne,S,d⟩
 ·have G:X.fn x=ae:=by
   rcases hf with z|z
   ·exact z
   ·rw[z]at C;cases C
  obtain⟨c,g⟩:=I.ok.has x (.inl C);obtain⟨W,z⟩:=I.cell x c g;refine wpAny_storeName_cell I.ok.kind C g z (fun h' P hs=>?_);obtain⟨oc,L,K⟩:=id z;refine h { s with heap:=h' } ⟨I.ok,I.os,I.bare,⟨fun b o e n J l=>?_,fun b o e n J l=>?_,I.base.free,fun b o e l=>?_,I.base.tups,I.base.frzs,I.base.tbls⟩,⟨m,hn.sameBut hs (Ne.symm (cne x c g)),fun j y V f B e3=>?_⟩,fun y R e=>?_,I.free,I.freeC,fun p T=>?_,t ⟨oc,L,I.freeC x c g⟩ hs,by simpa using I.len⟩ ⟨c,hs,.inr g⟩
  ·exact(hs.2 b (yB (yF (yg e) (I.ok.cab x c G g)))).trans (I.base.keep b o e n J l)
  ·obtain⟨sl,f⟩:=I.base.slot b o e n J l;exact⟨sl,(hs.2 b (yB (yF (yg e) (I.ok.cab x c G g)))).trans f⟩
  ·obtain⟨o',f⟩:=I.base.there b o e l;exact⟨o',(hs.2 b (yB (yF (yg e) (I.ok.cab x c G g)))).trans f⟩
  ·by_cases F:j=i
   ·subst F;rw[hi]at f;cases f;rw[yaB D]at B;cases B;exact⟨u,r,.inr ⟨.inl C,c,g,P⟩⟩
   ·rw[yan (Ne.symm F)]at B;obtain⟨U,r',q⟩:=hl j y V f B e3;refine⟨U,r',?_⟩;rcases q with q|⟨k,R,e,z'⟩
    ·exact .inl q
    ·refine .inr ⟨k,R,e,z'.sameBut hs ?_⟩;rintro rfl;exact F (zh4 hN f (I.ok.inj _ _ _ e g ▸ hi))
  ·by_cases O:R=c
   ·subst O;exact⟨_,P⟩
   ·obtain⟨w2,z2⟩:=I.cell y R e;exact⟨w2,z2.sameBut hs O⟩
  ·obtain⟨e,n,ne,S,d⟩:=I.pin p T;refine⟨(hs.2 p.1 ?_).trans e,n,ne,S,d⟩;intro q;rw[q,L]at e;have q':oc=p.2:=yP e;exact d W (by rw[<- q'];exact K)
theorem zc0{Q:Unit->ak->Prop}(I:Inv X pins σ H s)(c:X.N.Nodup)(hi:X.N[i]?=aa x)(a:Loc X.env.scope x)(r:RelV v u)(h:∀s',Inv X pins (σ.set i (aa v)) H s'->Q () s')(b:autoParam (X.fn x=ae∨X.env.scope.names.lookup x=aa .local) AutoP.a0._auto_1):wpAny M A (storeName X.env x u) Q E s :=
 zno I c hi a r (fun s' d _=>h s' d) b
theorem Inv.call'(I:Inv X pins σ H s)(a:s'.os=s.os)(u:Un (frs X.stack) ch H H' s.heap s'.heap)(hok:HOk X.prog X.w H' s'.heap)(d:aU s'.gens)(h:∀b∈ch,(b∈X.ex∨X.s₀.heap.objs.size<=b)/\b≠X.env.locals/\(∀x c,X.env.cells.lookup x=aa c->c≠b)/\∀p∈X.pn++pins,p.1≠b):Inv X pins σ H' s':=by
 obtain⟨h',g',d',t',o'⟩:=s';have e:o'=s.os:=a;subst e;exact I.call (g':=g') (t':=t') (d':=d') u hok d h
end
abbrev XK:=ag->Option ac->Hp->Prop
abbrev St:=List (Option V)
abbrev VK:=V->Hp->Prop
abbrev TE:=St->Hp->VK->Prop
abbrev TT:=St->Hp->(Bool->Hp->Prop)->Prop
abbrev TA:=St->Hp->(List V->Hp->Prop)->Prop
structure Ends where
 nx:St->Hp->Prop
 rt:VK
 bk:St->Hp->Prop:=fun _ _=>False
 ct:St->Hp->Prop:=fun _ _=>False
abbrev TS:=Ends->St->Hp->Prop
def EP(X:Cx)(pins:List (ac×av))(σ : St)(Q:VK)(u:ag)(s':ak):Prop:=∃v H',Inv X pins σ H' s'/\RelV v u/\Q v H'
def TP(X:Cx)(pins:List (ac×av))(σ : St)(Q:Bool->Hp->Prop)(b:Bool)(s':ak):Prop:=∃H',Inv X pins σ H' s'/\Q b H'
def AP(X:Cx)(pins:List (ac×av))(σ : St)(Q:List V->Hp->Prop)(us:List ag)(s':ak):Prop:=∃vs H',Inv X pins σ H' s'/\Vals vs us/\Q vs H'
def SP(X:Cx)(pins:List (ac×av))(D:Ends)(f:Flow)(s':ak):Prop :=
 match f with
 |.next=>∃σ' H',Inv X pins σ' H' s'/\D.nx σ' H'|.brk=>∃σ' H',Inv X pins σ' H' s'/\D.bk σ' H'|.cont=>∃σ' H',Inv X pins σ' H' s'/\D.ct σ' H'|.ret u=>∃v σ' H',Inv X pins σ' H' s'/\RelV v u/\D.rt v H'
def PE(X:Cx)(e:am)(t:TE):Prop :=
 ∀(pins:List (ac×av))(s:ak)(σ : St)(H:Hp)(Q:VK),Inv X pins σ H s->t σ H Q->wpAny (ao X.prog X.w) X.A (eval e X.env) (EP X pins σ Q) X.xe s
def PT(X:Cx)(e:am)(t:TT):Prop :=
 ∀(pins:List (ac×av))(s:ak)(σ : St)(H:Hp)(Q:Bool->Hp->Prop),Inv X pins σ H s->t σ H Q->wpAny (ao X.prog X.w) X.A (isTrue e X.env (eval e X.env)) (TP X pins σ Q) X.xe s
def PW(X:Cx)(e:am)(t:TT):Prop :=
 ∀(whole:Sem ag)(pins:List (ac×av))(s:ak)(σ : St)(H:Hp)(Q:Bool->Hp->Prop),Inv X pins σ H s->t σ H Q->wpAny (ao X.prog X.w) X.A (isTrue e X.env whole) (TP X pins σ Q) X.xe s
theorem PW.pt{e:am}{t:TT}(h:PW X e t):PT X e t:=h _
def PA(X:Cx)(es:List am)(t:TA):Prop :=
 ∀(pos:ax)(pins:List (ac×av))(s:ak)(σ : St)(H:Hp)(Q:List V->Hp->Prop),Inv X pins σ H s->t σ H Q->wpAny (ao X.prog X.w) X.A (spliced (aC pos (ap es X.env))) (AP X pins σ Q) X.xe s
def PS(X:Cx)(st:aq)(t:TS):Prop :=
 ∀(pins:List (ac×av))(s:ak)(σ : St)(H:Hp)(D:Ends),Inv X pins σ H s->t D σ H->wpAny (ao X.prog X.w) X.A (exec st X.env) (SP X pins D) X.xe s
def PSs(X:Cx)(st:List aq)(t:TS):Prop :=
 ∀(pins:List (ac×av))(s:ak)(σ : St)(H:Hp)(D:Ends),Inv X pins σ H s->t D σ H->wpAny (ao X.prog X.w) X.A (execs st X.env) (SP X pins D) X.xe s
theorem thn{α : Type}{t:Sem α}{Q q:α -> ak->Prop}(h:wpAny M A t Q E s)(H:∀a s,Q a s->q a s):wpAny M A t q E s:=aA h H fun _ _ x=>x
variable{Q:ag->ak->Prop}{pos:ax}{σ : St}{ta tb:TE}{c:am}
section
def tVar(i:Nat):TE:=fun σ H Q=>∃v,σ[i]?=aa (aa v)/\Q v H
def tC(v:V):TE:=fun _ H Q=>Q v H
theorem pe_var(k:X.N[i]?=aa x)(j:Vis X.env.scope x)(hd:autoParam ((x==("__debug__" : af))=ai) AutoP.a1._auto_1)(d:autoParam ((x==("__classdict__" : af))=ai) AutoP.a1._auto_1):PE X (.Name x pos) (tVar i):=by
 intro pins s σ H Q I h;obtain⟨v,e,h⟩:=h;obtain⟨m,hn,hl⟩:=I.loc;obtain⟨u,r,l⟩:=hl i x v k e j;have f:EP X pins σ Q u s:=⟨v,H,I,r,h⟩;rcases l with⟨b,hm⟩|⟨b,c,g,a⟩
 ·exact wpAny_Name (wpAny_loadName_local I.ok.kind b hn hm f) hd
 ·rcases b with b|b
  ·exact wpAny_Name (wpAny_loadName_cell I.ok.kind b g a f) hd
  ·exact wpAny_Name (wpAny_loadName_free I.ok.kind b g a f d) hd
theorem pe_int {i j pos}:PE X (.Constant (.int i) j pos) (tC (.int i)):=fun _ _ _ H _ I h=>wpAny_Constant_int ⟨.int i,H,I.tok _,⟨_,rfl⟩,h⟩
theorem pe_bl {b j pos}:PE X (.Constant (.bool b) j pos) (tC (.bl b)):=fun _ _ _ H _ I h=>Constant_bool ⟨.bl b,H,I,rfl,h⟩
theorem pe_non {j pos}:PE X (.Constant .none j pos) (tC .non):=fun _ _ _ H _ I h=>Constant_none ⟨.non,H,I,rfl,h⟩
theorem zrG {x j pos}:PE X (.Constant (.str x) j pos) (tC (.str x)):=fun _ _ _ H _ I h=>Calls.Constant_str ⟨.str x,H,I.tok _,⟨_,rfl⟩,h⟩
def Gl(X:Cx)(x:af):Prop:=X.env.kindOf x=aa .globalImplicit
theorem ze6(I:Inv X pins σ H s)(a:Gl X x)(hm:X.mg x=aa u)(h:Q u s)(hd:autoParam ((x==("__debug__" : af))=ai) AutoP.a1._auto_1):wpAny (ao X.prog X.w) X.A (eval (.Name x pos) X.env) Q E s :=
 ydg I.ok.kind a (Calls.loadGlobal_global (by rw[I.ok.glob];exact I.mod.glob.keeps I.bk) hm h) hd
theorem zcJ(I:Inv X pins σ H s)(b:Gl X x)(hm:X.mg x=none)(a:aT x=aa u)(h:Q u s)(hn:autoParam (x ≠ "__name__") AutoP.a1._auto_1)(hd:autoParam ((x==("__debug__" : af))=ai) AutoP.a1._auto_1):wpAny (ao X.prog X.w) X.A (eval (.Name x pos) X.env) Q E s:=by
 obtain⟨mb,d,c⟩:=I.mod.blt;exact ydg I.ok.kind b (Calls.loadGlobal_builtin (by rw[I.ok.glob];exact I.mod.glob.keeps I.bk) hm (by rw[I.ok.blt];exact d.keeps I.bk) ((c x hn).trans a) h) hd
theorem zn3(b:Gl X x)(hm:X.mg x=none)(a:aT x=aa u)(r:RelV v u)(hn:autoParam (x ≠ "__name__") AutoP.a1._auto_1)(hd:autoParam ((x==("__debug__" : af))=ai) AutoP.a1._auto_1):PE X (.Name x pos) (tC v) :=
 fun _ _ _ H _ I h=>zcJ I b hm a ⟨v,H,I,r,h⟩ hn hd
variable{a b:am}
def tB(t:TE):TT:=fun σ H Q=>t σ H fun x H1=>∃c,x = .bl c/\Q c H1
theorem pt_val{e:am}{t:TE}(h:PE X e t)(c:autoParam (∀whole,isTrue e X.env whole=(do let v <- whole;bv e.pos;holding [v] (truthy v))) AutoP.a2._auto_1):PT X e (tB t):=by
 intro pins s σ H Q I b
 refine isTrue_plain (thn (h pins s σ H _ I b) fun v s1 ⟨x,f,i,r,a⟩=>?_) (c _)
 obtain⟨d,rfl,q⟩:=a
 cases r
 exact bx ⟨f,i,q⟩
variable{tA tB':TT}{rest:List am}
def tAnd(t u:TT):TT:=fun σ H Q=>t σ H fun c H1=>if c=ae then u σ H1 Q else Q ai H1
def tOr(t u:TT):TT:=fun σ H Q=>t σ H fun c H1=>if c=ae then Q ae H1 else u σ H1 Q
def tNot(t:TT):TT:=fun σ H Q=>t σ H fun c H1=>Q (!c) H1
theorem zsK(ha:PT X a tA):PW X (.BoolOp .And [a] pos) tA:=by
 intro wh pins s σ H Q I h;refine isTrue_and (thn (ha pins s σ H Q I h) fun c s1 e=>?_);cases c with
 |true=>exact isTrue_and_nil e|false=>exact e
theorem pw_or1(ha:PT X a tA):PW X (.BoolOp .Or [a] pos) tA:=by
 intro wh pins s σ H Q I h;refine isTrue_or (thn (ha pins s σ H Q I h) fun c s1 e=>?_);cases c with
 |false=>exact isTrue_or_nil e|true=>exact e
theorem pw_and(ha:PT X a tA)(e:PW X (.BoolOp .And (b::rest) pos) tB'):PW X (.BoolOp .And (a::b::rest) pos) (tAnd tA tB'):=by
 intro wh pins s σ H Q I h;refine isTrue_and (thn (ha pins s σ H _ I h) ?_);rintro c s1 ⟨d,i,q⟩;cases c with
 |true=>exact e wh pins s1 σ d Q i q|false=>exact⟨d,i,q⟩
theorem pw_or(ha:PT X a tA)(e:PW X (.BoolOp .Or (b::rest) pos) tB'):PW X (.BoolOp .Or (a::b::rest) pos) (tOr tA tB'):=by
 intro wh pins s σ H Q I h;refine isTrue_or (thn (ha pins s σ H _ I h) ?_);rintro c s1 ⟨d,i,q⟩;cases c with
 |true=>exact⟨d,i,q⟩|false=>exact e wh pins s1 σ d Q i q
theorem pt_not(ha:PT X a tA):PT X (.UnaryOp .Not a pos) (tNot tA):=by
 intro pins s σ H Q I h;exact isTrue_not (ha pins s σ H (fun c b=>Q (!c) b) I h)
def tAndV(t tb:TE):TE:=fun σ H Q=>t σ H fun x H1=>∃c,x = .bl c/\if c=ae then tb σ H1 Q else Q (.bl ai) H1
def tNotV(t:TE):TE:=fun σ H Q=>t σ H fun x H1=>∃c,x = .bl c/\Q (.bl (!c)) H1
theorem pe_one {op} {t:TE} (h:PE X a t):PE X (.BoolOp op [a] pos) t:=fun pins s σ H Q I b=>BoolOp_one (h pins s σ H Q I b)
theorem pe_and(ha:PE X a ta)(e:PE X (.BoolOp .And (b::rest) pos) tb):PE X (.BoolOp .And (a::b::rest) pos) (tAndV ta tb):=by
 intro pins s σ H Q I h;refine BoolOp_and (thn (ha pins s σ H _ I h) ?_);rintro v s1 ⟨x,d,i,r,q⟩;obtain⟨c,rfl,q⟩:=q;cases r;refine bx ?_;cases c with
 |true=>exact e pins s1 σ d Q i q|false=>exact⟨.bl ai,d,i,rfl,q⟩
theorem pe_not(ha:PE X a ta):PE X (.UnaryOp .Not a pos) (tNotV ta):=by
 intro pins s σ H Q I h;refine UnaryOp_ (thn (ha pins s σ H _ I h) ?_);rintro v s1 ⟨x,b,i,r,q⟩;obtain⟨c,rfl,q⟩:=q;cases r;exact not_of (bx ⟨.bl (!c),b,i,rfl,q⟩)
def tIf(t:TT)(T tb:TE):TE:=fun σ H Q=>t σ H fun c H1=>if c=ae then T σ H1 Q else tb σ H1 Q
theorem zqG(f:PT X c tA)(ha:PE X a ta)(g:PE X b tb):PE X (.IfExp c a b pos) (tIf tA ta tb):=by
 intro pins s σ H Q I h;refine wpAny_IfExp (thn (f pins s σ H _ I h) ?_);rintro d s1 ⟨e,i,q⟩;cases d with
 |true=>exact ha pins s1 σ e Q i q|false=>exact g pins s1 σ e Q i q
end
def SqL(K:ya)(H:Hp)(a:ac)(xs:List V):Prop :=
 Rd H a (.lst xs) ∨
  ∃(o:av)(its:Array ag)(n:Nat),K.lookup a=aa o/\o.cls = .type "list" /\ o.dict=none/\o.data = .seq its n/\its.size<=sizeLine/\Vals xs its.toList
def SqT(K:ya)(H:Hp)(a:ac)(xs:List V):Prop :=
 Rd H a (.tup xs) ∨
  ∃(o:av)(its:Array ag)(n:Nat),K.lookup a=aa o/\o.cls = .type "tuple" /\ o.data = .seq its n/\its.size<=sizeLine/\Vals xs its.toList
def absV:ag->Option V
 |.none=>aa .non|.bool b=>aa (.bl b)|.int i _=>aa (.int i)|.str x _=>aa (.str x)|.bytes b _=>aa (.byt b)|.float b _=>aa (.flt b)|.ref a=>aa (.ref a)|.type n=>aa (.ty n)|_=>none
theorem RelV.abs{x:V}(r:RelV x u):absV u=aa x:=by
 cases x with
 |non=>cases r;rfl|bl _=>cases r;rfl|int _=>obtain⟨t,rfl⟩:=r;rfl
 |str _=>obtain⟨t,rfl⟩:=r;rfl
 |byt _=>obtain⟨t,rfl⟩:=r;rfl
 |flt _=>obtain⟨t,rfl⟩:=r;rfl
 |ref _=>cases r;rfl|ty _=>cases r;rfl
variable{y:V}
theorem RelV.inj{x:V}(r:RelV x u)(q:RelV y u):x=y:=yP (r.abs.symm.trans q.abs)
theorem Vals.inj:∀{xs ys:List V}{us:List ag},Vals xs us->Vals ys us->xs=ys
 |_,_,_,.nil,.nil=>rfl|_,_,_,.cons r t,.cons r' t'=>by rw[r.inj r',Vals.inj t t']
variable{K:ya}
section
variable{ys:List V}
theorem SqL.of(h:H a=aa (.lst xs)):SqL K H a xs := .inl (.inl h)
theorem SqT.of(h:H a=aa (.tup xs)):SqT K H a xs := .inl (.inl h)
theorem Inv.list(I:Inv X pins σ H s)(h:SqL X.K H a xs):∃its:List ag,Vals xs its/\PlainL s.heap a its.toArray/\xs.length<=sizeLine:=by
 rcases h with h|⟨o,its,n,b,c,hd,hs,d,r⟩
 ·obtain⟨z,its,n,r,e⟩:=h.ok I.hok;exact⟨its,r,⟨_,n,e,rfl,rfl,rfl⟩,z⟩
 ·refine⟨its.toList,r,⟨o,n,I.kIn a o b,c,hd,by simpa using hs⟩,?_⟩;have e:=r.length;simp only[yci]at e;omega
theorem Inv.tuple(I:Inv X pins σ H s)(h:SqT X.K H a xs):∃its:List ag,Vals xs its/\IsTup s.heap a its.toArray/\xs.length<=sizeLine:=by
 rcases h with h|⟨o,its,n,b,c,hs,d,r⟩
 ·obtain⟨z,its,r,p,_⟩:=h.ok I.hok;exact⟨its,r,p,z⟩
 ·refine⟨its.toList,r,⟨o,I.kIn a o b,c,n,by simpa using hs⟩,?_⟩;have e:=r.length;simp only[yci]at e;omega
theorem Inv.list_inj(I:Inv X pins σ H s)(h:SqL X.K H a xs)(h':SqL X.K H a ys):xs=ys:=by
 obtain⟨its,r,⟨o,n,e,_,_,d⟩,_⟩:=I.list h;obtain⟨its',r',⟨o',N,E,_,_,d'⟩,_⟩:=I.list h';rw[e]at E;cases E;rw[d]at d';injection d' with D _
 have:its=its':=by simpa using congrArg ycj D
 subst this;exact r.inj r'
theorem Inv.tuple_inj(I:Inv X pins σ H s)(h:SqT X.K H a xs)(h':SqT X.K H a ys):xs=ys:=by
 obtain⟨its,r,⟨o,e,_,n,d⟩,_⟩:=I.tuple h;obtain⟨its',r',⟨o',E,_,N,d'⟩,_⟩:=I.tuple h';rw[e]at E;cases E;rw[d]at d';injection d' with D _
 have:its=its':=by simpa using congrArg ycj D
 subst this;exact r.inj r'
end
abbrev Cx.wish(X:Cx)(E:ag->ak->Prop):Cx:={ X with xe:=E }
abbrev Cx.nox(X:Cx):Cx:=X.wish fun _ _=>False
theorem Cx.Ok.wish(ok:X.Ok)(E:ag->ak->Prop):(X.wish E).Ok :=
 ⟨ok.mod,ok.kind,ok.glob,ok.blt,ok.above,ok.inj,ok.has,ok.cab,ok.hd,ok.frames,ok.stk,ok.exf,ok.bs,ok.bsz,ok.noex,ok.exfs,ok.funs,ok.frf⟩
theorem Cx.Ok.unwish(ok:(X.wish E).Ok):X.Ok :=
 ⟨ok.mod,ok.kind,ok.glob,ok.blt,ok.above,ok.inj,ok.has,ok.cab,ok.hd,ok.frames,ok.stk,ok.exf,ok.bs,ok.bsz,ok.noex,ok.exfs,ok.funs,ok.frf⟩
section
theorem Inv.wish(I:Inv X pins σ H s)(E:ag->ak->Prop):Inv (X.wish E) pins σ H s:=⟨I.ok.wish E,I.os,I.bare,I.base,I.loc,I.cell,I.free,I.freeC,I.pin,I.hok,I.len⟩
theorem Inv.unwish(I:Inv (X.wish E) pins σ H s):Inv X pins σ H s:=⟨I.ok.unwish,I.os,I.bare,I.base,I.loc,I.cell,I.free,I.freeC,I.pin,I.hok,I.len⟩
theorem SP.unwish{D:Ends}{f:Flow}(h:SP (X.wish E) pins D f s'):SP X pins D f s':=by
 cases f with
 |next=>obtain⟨a,H',I,q⟩:=h;exact⟨a,H',I.unwish,q⟩
 |brk=>obtain⟨a,H',I,q⟩:=h;exact⟨a,H',I.unwish,q⟩
 |cont=>obtain⟨a,H',I,q⟩:=h;exact⟨a,H',I.unwish,q⟩
 |ret u=>obtain⟨v,a,H',I,r,q⟩:=h;exact⟨v,a,H',I.unwish,r,q⟩
theorem PSs.nox{st:List aq}{t:TS}(h:PSs X.nox st t):PSs X st t:=fun pins s σ H D I a=>
 aA (h pins s σ H D (I.wish _) a) (fun _ _ q=>q.unwish) fun _ _ z=>False.elim z
end
variable{te:TE}{tc:TT}
section
variable{st:aq}{rest:List aq}{t u:TS}{e:am}
def tNext:TS:=fun D σ H=>D.nx σ H
def tSeq(t u:TS):TS:=fun D σ H=>t { D with nx:=u D } σ H
theorem zsN:PSs X [] tNext:=fun _ _ σ H _ I h=>bj ⟨σ,H,I,h⟩
theorem zqw(c:PS X st t)(b:PSs X rest u):PSs X (st::rest) (tSeq t u):=by
 intro pins s σ H D I h;refine bT (thn (c pins s σ H { D with nx:=u D } I h) fun f s1 q=>?_);cases f with
 |next=>
  obtain⟨a,H',i,q⟩:=q;exact b pins s1 a H' D i q
 |ret v=>exact q|brk=>exact q|cont=>exact q
theorem zsM(a:PS X st t):PSs X [st] t:=by
 intro pins s σ H D I h;refine bT (thn (a pins s σ H D I h) fun f s1 q=>?_);cases f with
 |next=>exact bj q|ret v=>exact q|brk=>exact q|cont=>exact q
theorem Inv.quiet(I:Inv X pins σ H s):interactive X.env=ai:=by simp[interactive,I.ok.kind]
def tDrop(te:TE):TS:=fun D σ H=>te σ H fun _ H1=>D.nx σ H1
theorem zsP(a:PE X e te)(hs:autoParam (aQ e none pos.line X.env=pure ai) AutoP.a3._auto_1):PS X (.Expr e pos) (tDrop te):=by
 intro pins s σ H D I h;exact wpAny_Expr_any (thn (a pins s σ H _ I h) fun v s1 ⟨x,b,i,r,q⟩=>⟨σ,b,i,q⟩) I.quiet hs
def tRet(te:TE):TS:=fun D σ H=>te σ H D.rt
theorem ps_ret(a:PE X e te):PS X (.Return (aa e) pos) (tRet te):=by
 intro pins s σ H D I h;refine wpAny_Return_some (thn (a pins s σ H _ I h) ?_);rintro v s1 ⟨x,b,i,r,q⟩;exact⟨x,σ,b,i,r,q⟩
def tIfS(c:TT)(t u:TS):TS:=fun D σ H=>c σ H fun b H1=>if b=ae then t D σ H1 else u D σ H1
theorem ps_if{a b:List aq}(f:PT X c tc)(ha:PSs X a t)(g:PSs X b u):PS X (.If c a b pos) (tIfS tc t u):=by
 intro pins s σ H D I h;refine wpAny_If (thn (f pins s σ H _ I h) ?_);rintro d s1 ⟨e,i,q⟩;cases d with
 |true=>exact ha pins s1 σ e D i q|false=>exact g pins s1 σ e D i q
end
abbrev TG:=V->St->Hp->(St->Hp->Prop)->Prop
abbrev TGs:=List V->St->Hp->(St->Hp->Prop)->Prop
def PG(X:Cx)(T:am)(t:TG):Prop :=
 ∀(pins:List (ac×av))(s:ak)(σ : St)(H:Hp)(v:V)(u:ag)(Q:St->Hp->Prop),Inv X pins σ H s->RelV v u->t v σ H Q →
  wpAny (ao X.prog X.w) X.A (aV T X.env u) (fun _ s'=>∃σ' H',Inv X pins σ' H' s'/\Q σ' H') X.xe s
def PGs(X:Cx)(ts:List am)(t:TGs):Prop :=
 ∀(pins:List (ac×av))(s:ak)(σ : St)(H:Hp)(vs:List V)(us:List ag)(Q:St->Hp->Prop),Inv X pins σ H s->Vals vs us->t vs σ H Q →
  wpAny (ao X.prog X.w) X.A (cr ((aW ts X.env).map (·.2)) us) (fun _ s'=>∃σ' H',Inv X pins σ' H' s'/\Q σ' H') X.xe s
variable{es:List am}{n:Nat}{tg:am}{pos':ax}
section
def gName(i:Nat):TG:=fun v σ H Q=>Q (σ.set i (aa v)) H
theorem zn1(c:X.N.Nodup)(hi:X.N[i]?=aa x)(a:Loc X.env.scope x)(b:autoParam (X.fn x=ae∨X.env.scope.names.lookup x=aa .local) AutoP.a0._auto_1):PG X (.Name x pos) (gName i):=by
 intro pins s σ H v u Q I r h;exact wpAny_assign_Name (zc0 I c hi a r (fun s' d=>⟨_,H,d,h⟩) b)
def gNil:TGs:=fun vs σ H Q=>vs=[]/\Q σ H
def gCons(t:TG)(u:TGs):TGs:=fun vs σ H Q=>∃v r,vs=v::r/\t v σ H fun σ' H'=>u r σ' H' Q
theorem zsY:PGs X [] gNil:=by
 intro pins s σ H vs us Q I r h;obtain⟨e,h⟩:=h;subst e;cases r;exact assignInOrder_nil ⟨σ,H,I,h⟩
theorem zqD{e:am}{t:TG}{u:TGs}(c:PG X e t)(b:PGs X es u)(hs:autoParam ((aW (e::es) X.env).map (·.2)=aV e X.env::(aW es X.env).map (·.2)) AutoP.a3._auto_1):PGs X (e::es) (gCons t u):=by
 intro pins s σ H vs us Q I r h;obtain⟨v,V,E,h⟩:=h;subst E;cases r with
 |cons r R=>
  rw[hs];refine cu (thn (c pins s σ H _ _ _ I r h) ?_);rintro _ s1 ⟨a,d,i,q⟩;exact b pins s1 a d _ _ Q i R q
def zcb(K:ya)(n:Nat)(t:TGs):TG:=fun v σ H Q=>∃a xs,v = .ref a/\SqT K H a xs/\xs.length=n/\t xs σ H Q
theorem pg_tup{k:Nat}{t:TGs}(j:X.calm=ae)(h:PGs X es t)(hn:autoParam ((aW es X.env).length=n) AutoP.a3._auto_1)(d:autoParam ((aW es X.env).findIdx? (·.1)=none) AutoP.a3._auto_1):PG X (.Tuple es k pos) (zcb X.K n t):=by
 intro pins s σ H v u Q I r c;obtain⟨a,xs,E,i,hl,c⟩:=c;subst E;cases r;obtain⟨its,R,g,m⟩:=I.tuple i;refine assign_Tuple_tuple (I.ok.hd j) g (by simp[hn,<- hl,R.length]) d fun h' f=>?_;have l:Inv X pins σ H { s with heap:=h' }:=I.kept (t':=s.toks) fun b o e=>f b o (yB (yg e)) e;exact h pins _ σ H xs _ Q l (by simpa using R) c
def tAsg(te:TE)(g:TG):TS:=fun D σ H=>te σ H fun x H1=>g x σ H1 D.nx
theorem ps_asg{e:am}{g:TG}(c:PE X e te)(b:PG X tg g)(hs:autoParam (ce [tg] e pos.line X.env=pure ai) AutoP.a3._auto_1)(a:autoParam (cf [tg] e X.env=pure none) AutoP.a3._auto_1)(d:autoParam ((aW [tg] X.env).map (·.2)=[aV tg X.env]) AutoP.a3._auto_1):PS X (.Assign [tg] e pos) (tAsg te g):=by
 intro pins s σ H D I h;refine wpAny_Assign_stores (thn (c pins s σ H _ I h) fun v s1 ⟨x,f,i,r,Q⟩=>?_) hs a;rw[d];exact thn (b pins s1 σ f x v _ i r Q) fun _ s2 q=>q
theorem ps_set{e:am}(d:X.N.Nodup)(hi:X.N[i]?=aa x)(a:Loc X.env.scope x)(c:PE X e te)(hs:autoParam (aQ e (aa (.Name x pos')) pos.line X.env=pure ai) AutoP.a3._auto_1)(b:autoParam (X.fn x=ae∨X.env.scope.names.lookup x=aa .local) AutoP.a0._auto_1) : PS X (.Assign [.Name x pos'] e pos) (tAsg te (gName i)):=by
 intro pins s σ H D I h;refine wpAny_Assign_Name (thn (c pins s σ H _ I h) fun v s1 ⟨y,j,g,r,q⟩=>?_) hs;exact zc0 g d hi a r (fun s2 f=>⟨_,j,f,q⟩) b
def tPar(i j:Nat)(t:TA):TS:=fun D σ H=>t σ H fun vs H1=>∃v w,vs=[v,w]/\D.nx ((σ.set i (aa v)).set j (aa w)) H1
theorem ps_par{y:af}{a b:am}{t:TA}{P py pt:ax} {kt k2 pt2} (E:X.calm=ae) (k:X.N.Nodup) (hi:X.N[i]?=aa x) (C:X.N[j]?=aa y) (d:i≠j) (g:X.env.scope.names.lookup x=aa .local) (f:X.env.scope.names.lookup y=aa .local) (ha:PA X [a,b] t) (B:cf [.Tuple [.Name x P,.Name y py] kt pt] (.Tuple [a,b] k2 pt2) X.env=pure (aa [x,y])) (hs:autoParam (ce [.Tuple [.Name x P,.Name y py] kt pt] (.Tuple [a,b] k2 pt2) pos.line X.env=pure ai) AutoP.a3._auto_1) : PS X (.Assign [.Tuple [.Name x P,.Name y py] kt pt] (.Tuple [a,b] k2 pt2) pos) (tPar i j t):=by
 intro pins s σ H D I h
 rw[exec_Assign_arm]
 refine aj (cg ?_)
 rw[hs]
 refine aj (aw ?_)
 rw[if_neg (by decide)]
 refine aj (Tuple_ (thn (ha _ pins s σ H _ I h) ?_))
 rintro us s1 ⟨vs,m,L,n,Q⟩
 obtain⟨v,w,F,Q⟩:=Q
 subst F
 obtain⟨U,u,rfl,R,r⟩:∃U u,us=[U,u]/\RelV v U/\RelV w u:=by
  cases n with
  |cons p q=>
   cases q with
   |cons A z=>
    cases z
    exact⟨_,_,rfl,p,A⟩
 refine aR ?_ (by show 2<=sizeLine;decide)
 have K:Inv X pins σ m { s1 with heap:=s1.heap.push { cls := .type "tuple", data := .seq [U,u].toArray } }:=L.kept (t':=s1.toks) fun b o e=>ye _ e
 rw[B]
 refine aj (aw ?_)
 show wpAny (ao X.prog X.w) X.A (do rule "assign.swapped-stores"; let items <- unpackItems (.ref s1.heap.objs.size) 2 none;cr [fun v=>bU X.env y v,fun v=>bU X.env x v] items.reverse;pure Flow.next) _ _ _
 refine aj (bz (aj (unpackItems_tuple (items := #[U,u]) (I.ok.hd E) (IsTup.new s1.heap _) fun h' c=>?_)))
 have J:=K.kept (h':=h') (t':=s1.toks) fun b o e=>c b o (yB (yg e)) e
 show wpAny _ _ (cr [fun v=>bU X.env y v,fun v=>bU X.env x v] [u,U] >>= fun _=>pure Flow.next) _ _ _
 refine aj (cu (cv (zc0 J k C (.inl f) r (fun s2 G=>?_) (.inr f))))
 refine cu (cv (zc0 G k hi (.inl g) R (fun S l=>assignInOrder_nil (aw ?_)) (.inr g)))
 rw[List.set_comm _ _ (Ne.symm d)]at l
 exact⟨_,m,l,Q⟩
end
variable{body:List aq}
section
def tWhile(c:TT)(tb:TS):TS:=fun D σ H=>∃W:Nat->St->Hp->Prop,(∃m,W m σ H)/\∀m σ H,W m σ H →
 c σ H fun b H1=>if b=ae then ∃N:St->Hp->Prop,(∀σ' H',N σ' H'->∃m',m'<m/\W m' σ' H')/\tb { D with nx:=N,ct:=N,bk:=D.nx } σ H1 else D.nx σ H1
theorem zqx{tb:TS}(j:PassesOwn (ao X.prog X.w) X.A X.env X.xe)(p:PT X c tc)(r:PSs X body tb):PS X (.While c body [] pos) (tWhile tc tb):=by
 intro pins s σ H D I h;obtain⟨W,⟨m0,w0⟩,turn⟩:=h;refine wpAny_While (codeAny_whileLoop (fun n s'=>∃σ' H',Inv X pins σ' H' s'/\W n σ' H') ?_ m0 ⟨σ,H,I,w0⟩);rintro n s1 ⟨d,o,t,w1⟩;refine bA j (thn (p pins s1 d o _ t (turn n d o w1)) ?_);rintro b s2 ⟨m,l,Q⟩;cases b with
 |true=>
  obtain⟨N,k,Q⟩:=Q;rw[if_pos rfl];refine bA j (thn (r pins s2 d m _ l Q) fun f S q=>?_);cases f with
  |next=>
   obtain⟨a,e,i,g⟩:=q;obtain⟨m',hm,w⟩:=k a e g;exact⟨m',hm,a,e,i,w⟩
  |cont=>
   obtain⟨a,e,i,g⟩:=q;obtain⟨m',hm,w⟩:=k a e g;exact⟨m',hm,a,e,i,w⟩
  |brk=>exact q|ret v=>exact q
 |false=>
  rw[if_neg yH];exact bj ⟨d,m,l,Q⟩
end
structure It where
 go:Nat->Hp->Prop
 yld:Nat->Hp->V->Hp->Prop
 stop:Nat->Hp->Prop
def zem(X:Cx)(pins:List (ac×av))(H:Hp)(b:ac):Prop :=
 H b=none/\b≠X.env.locals/\b∉X.fs/\(b∈X.ex∨X.s₀.heap.objs.size<=b)/\(∀x c,X.env.cells.lookup x=aa c->c≠b)/\∀p∈X.pn++pins,p.1≠b
theorem Inv.fpOk(I:Inv X pins σ H s)(h:s.heap.objs.size<=b)(hn:H' b=none):zem X pins H' b:=by
 refine⟨hn,yR (yF I.lt h),I.nofs h,.inr (yM I.sz h),fun x c e z=>?_,fun p a z=>?_⟩
 ·obtain⟨v,q⟩:=I.cell x c e;exact absurd (yF q.lt (by rw[z];exact h)) (yac _)
 ·exact absurd (yF (yg (I.pin p a).1) (by rw[z];exact h)) (yac _)
structure Turn(P:ar)(w:al)(K:ya)(tg:am)(J:It)(fp:List ac)(it:ac)(tn:Nat->au->Prop):Prop where
 mem:it∈fp
 obj:∀i h,tn i h->∀b∈fp,∃o,h.get? b=aa o/\∀v,o.data ≠ .cell v
 keep:∀i h h',tn i h->(∀b∈fp,∀o,h.get? b=aa o->h'.get? b=aa o)->tn i h'
 item:∀(X:Cx),X.prog=P->X.w=w->X.K=K->X.calm=ae->∀(i:Nat)(pins:List (ac×av))(s:ak)(σ : St)(H:Hp)(E:ag->ak->Prop),Inv X pins σ H s->(∀b∈fp,zem X pins H b)->tn i s.heap->J.go i H →
  wpAny (ao P w) X.A (bn (.ref it)) (fun r s1=>∃u,r=aa u ∧
   wpAny (ao P w) X.A (bV tg (.ref it) u) (fun _ s2=>∃x H',Inv X pins σ H' s2/\RelV x u/\J.yld i H x H'/\tn (i+1) s2.heap/\∀b∈fp,H' b=none) E s1) E s
 done:∀(X:Cx),X.prog=P->X.w=w->X.K=K->X.calm=ae->∀(i:Nat)(pins:List (ac×av))(s:ak)(σ : St)(H:Hp)(E:ag->ak->Prop),Inv X pins σ H s->(∀b∈fp,zem X pins H b)->tn i s.heap->J.stop i H →
  wpAny (ao P w) X.A (bn (.ref it)) (fun r s1=>r=none/\Inv X pins σ H s1) E s
 self:∀(A:az)(i:Nat)(s:ak)(Q:ag->ak->Prop)(E:ag->ak->Prop),tn i s.heap->Q (.ref it) s->wpAny (ao P w) A (pyIter (.ref it)) Q E s
abbrev TI:=St->Hp->(It->Hp->Prop)->Prop
def PIE(X:Cx)(pins:List (ac×av))(σ : St)(tg:am)(R:It->Hp->Prop)(i:ag)(s2:ak):Prop :=
 ∃(it:ac)(fp:List ac)(tn:Nat->au->Prop)(J:It)(H':Hp),i = .ref it/\Inv X pins σ H' s2/\Turn X.prog X.w X.K tg J fp it tn/\tn 0 s2.heap/\(∀b∈fp,zem X pins H' b)/\R J H'
def PI(X:Cx)(tg iter:am)(w:TI):Prop :=
 ∀(pins:List (ac×av))(s:ak)(σ : St)(H:Hp)(R:It->Hp->Prop),Inv X pins σ H s->w σ H R →
  wpAny (ao X.prog X.w) X.A (eval iter X.env) (fun v s1=>wpAny (ao X.prog X.w) X.A (pyIter v) (PIE X pins σ tg R) X.xe s1) X.xe s
theorem zq9{o:av}{n:String}{vs:Array ag}{Q:Unit->ak->Prop}(a:s.heap.get? it=aa o)(b:o.cls = .type n)(hd:o.data = .fields vs)(hn:["enumerate", "zip", "dict_itemiterator", "dict_reverseitemiterator", "odict_iterator", "itertools.zip_longest", "itertools.pairwise"].contains n=ai)(H:Q () s):wpAny M A (bV tg (.ref it) u) Q E s:=by
  unfold bV;cases tg <;> first
    |exact aw H
    | (cases u <;> first
        |exact aw H
        | (refine aj (wpAny_load a ?_)
           rw[b,hd];show wpAny M A (if (["enumerate", "zip", "dict_itemiterator", "dict_reverseitemiterator", "odict_iterator", "itertools.zip_longest", "itertools.pairwise"].contains n&&vs[0]? == aa (rawInt _))=ae then _ else _) Q E s;rw[if_neg (by intro h;rw[hn,Bool.false_and]at h;cases h)];exact aw H))
def Itl(K:ya)(a:ac):It :=
 ⟨fun i H=>∃xs x,SqL K H a xs/\xs[i]?=aa x,fun i H x H'=>H'=H/\∀xs,SqL K H a xs->xs[i]?=aa x,fun i H=>∃xs,SqL K H a xs/\xs.length<=i⟩
def Itt(K:ya)(a:ac):It :=
 ⟨fun i H=>∃xs x,SqT K H a xs/\xs[i]?=aa x,fun i H x H'=>H'=H/\∀xs,SqT K H a xs->xs[i]?=aa x,fun i H=>∃xs,SqT K H a xs/\xs.length<=i⟩
def Itr(lo:Int)(n:Nat):It:=⟨fun i _=>i<n,fun i H x H'=>H'=H/\x = .int (lo+i),fun i _=>n<=i⟩
theorem znh{w:al}(a it:ac):Turn P w K tg (Itl K a) [it] it (fun i h=>h.IsListIter it a i) where
 mem:=by simp
 obj:=fun i h st b f=>by
  have e:b=it:=by simpa using f
  subst e
  obtain⟨o,e,c,d⟩:=st
  exact⟨o,e,fun v z=>by rw[d]at z;cases z⟩
 keep:=fun i h h' st k=>st.at fun o e=>k it (by simp) o e
 item:=by
  intro X q m t y i pins s σ H E I j st n
  subst q m t
  obtain⟨xs,x,g,l⟩:=n
  obtain⟨its,r,p,B⟩:=I.list g
  obtain⟨u,D,R⟩:=r.get l
  obtain⟨f0,f1,f2,f3,f4,F⟩:=j it (by simp)
  refine wpAny_pyNext_list_item st p.isList (x:=u) (by simpa using D) fun h' S A=>?_
  have J:Inv X pins σ H { s with heap:=h' }:=I.turned (t':=s.toks) (fun b o f e=>(A.2 b f).trans e) f0 f1 f3 f4 F
  obtain⟨o,e,c,d⟩:=id S
  exact⟨u,rfl,zq9 (s:={ s with heap:=h' }) e c d (by decide) ⟨x,H,J,R,⟨rfl,fun ys C=>by rw[I.list_inj C g];exact l⟩,S,fun b f=>(j b f).1⟩⟩
 done:=by
  intro X q m t y i pins s σ H E I j st n
  subst q m t
  obtain⟨xs,g,l⟩:=n
  obtain⟨its,r,p,B⟩:=I.list g
  obtain⟨f0,f1,f2,f3,f4,F⟩:=j it (by simp)
  have hl:=r.length
  exact wpAny_pyNext_list_end (I.ok.hd y) st p.isList (by simp;omega) fun h' G=>⟨rfl,I.turned (t':=s.toks) (fun b o f e=>G b o f e) f0 f1 f3 f4 F⟩
 self:=fun _ _ _ _ _ st h=>wpAny_pyIter_listiter st h
theorem zl6{w:al}(a it:ac):Turn P w K tg (Itt K a) [it] it (fun i h=>h.IsTupleIter it a i) where
 mem:=by simp
 obj:=fun i h st b f=>by
  have e:b=it:=by simpa using f
  subst e
  obtain⟨o,e,c,d⟩:=st
  exact⟨o,e,fun v z=>by rw[d]at z;cases z⟩
 keep:=fun i h h' st k=>st.at fun o e=>k it (by simp) o e
 item:=by
  intro X q m t y i pins s σ H E I j st n
  subst q m t
  obtain⟨xs,x,g,l⟩:=n
  obtain⟨its,r,p,B⟩:=I.tuple g
  obtain⟨u,D,R⟩:=r.get l
  obtain⟨f0,f1,f2,f3,f4,F⟩:=j it (by simp)
  refine wpAny_pyNext_tuple_item st (show s.heap.IsTuple a its.toArray from p) (x:=u) (by simpa using D) fun h' S A=>?_
  have J:Inv X pins σ H { s with heap:=h' }:=I.turned (t':=s.toks) (fun b o f e=>(A.2 b f).trans e) f0 f1 f3 f4 F
  obtain⟨o,e,c,d⟩:=id S
  exact⟨u,rfl,zq9 (s:={ s with heap:=h' }) e c d (by decide) ⟨x,H,J,R,⟨rfl,fun ys C=>by rw[I.tuple_inj C g];exact l⟩,S,fun b f=>(j b f).1⟩⟩
 done:=by
  intro X q m t y i pins s σ H E I j st n
  subst q m t
  obtain⟨xs,g,l⟩:=n
  obtain⟨its,r,p,B⟩:=I.tuple g
  obtain⟨f0,f1,f2,f3,f4,F⟩:=j it (by simp)
  have hl:=r.length
  exact wpAny_pyNext_tuple_end (I.ok.hd y) st (show s.heap.IsTuple a its.toArray from p) (by simp;omega) fun h' G=>⟨rfl,I.turned (t':=s.toks) (fun b o f e=>G b o f e) f0 f1 f3 f4 F⟩
 self:=fun _ _ _ _ _ st h=>wpAny_pyIter_tupleiter st h
theorem zl7{w:al}(it:ac)(lo:Int)(n:Nat):Turn P w K tg (Itr lo n) [it] it (fun i h=>IsRangeIter h it (lo+(i:Nat)*1) ((n:Int)-(i:Nat)) 1) where
 mem:=by simp
 obj:=fun i h st b a=>by
  have e:b=it:=by simpa using a
  subst e
  exact⟨_,st,fun v z=>by
   have Z:Data.fields _=Data.cell v:=z
   cases Z⟩
 keep:=fun i h h' st k=>k it (by simp) _ st
 item:=by
  intro X j d l g i pins s σ H E I c st f
  subst j d l
  obtain⟨f0,f1,f2,f3,f4,F⟩:=c it (by simp)
  have W:=Walks.range (prog:=X.prog) (w:=X.w) (I.ok.hd g) it lo 1 n
  refine W.item i s _ _ f st fun v h' T p S m=>?_
  obtain⟨t,rfl⟩:=p
  have r:Inv X pins σ H { s with heap:=h',toks:=T }:=I.turned (fun b o a e=>m b o (by simpa using a) e) f0 f1 f3 f4 F
  refine⟨_,rfl,zq9 (s:={ s with heap:=h',toks:=T }) (n := "range_iterator") S rfl rfl (by decide) ⟨.int (lo+i),H,r,⟨t,?_⟩,⟨rfl,rfl⟩,S,fun b a=>(c b a).1⟩⟩
  rw[Int.mul_one]
 done:=by
  intro X j d l g i pins s σ H E I c st f
  subst j d l
  obtain⟨f0,f1,f2,f3,f4,F⟩:=c it (by simp)
  exact wpAny_pyNext_range_end (I.ok.hd g) st (by have:n<=i:=f;omega) fun h' q=>⟨rfl,I.turned (t':=s.toks) (fun b o a e=>q b o a e) f0 f1 f3 f4 F⟩
 self:=fun _ _ _ _ _ st h=>cw st h
variable{l:am}{tl:TE}{p:ax}{fp:List ac}
section
def iList(K:ya)(t:TE):TI:=fun σ H R=>t σ H fun x H1=>∃a,x = .ref a/\(∃xs,SqL K H1 a xs)/\R (Itl K a) H1
def iTup(K:ya)(t:TE):TI:=fun σ H R=>t σ H fun x H1=>∃a,x = .ref a/\(∃xs,SqT K H1 a xs)/\R (Itt K a) H1
theorem znY(hl:PE X l tl):PI X tg l (iList X.K tl):=by
 intro pins s σ H R I h;refine thn (hl pins s σ H _ I h) ?_;rintro v s1 ⟨x,f,i,r,Q⟩;obtain⟨a,e,⟨xs,c⟩,q⟩:=Q;subst e;cases r;obtain⟨its,g,p,j⟩:=i.list c;refine bW p.isList ?_;refine⟨s1.heap.objs.size,[s1.heap.objs.size],_,_,f,rfl,i.kept (t':=s1.toks) fun b o e=>ye _ e,znh a _,⟨_,yw _ rfl,rfl,rfl⟩,fun b d=>?_,q⟩;have e:b=s1.heap.objs.size:=by simpa using d
 subst e;exact i.fpOk (yb _) (i.hok.fresh (yb _))
theorem pi_tup(hl:PE X l tl):PI X tg l (iTup X.K tl):=by
 intro pins s σ H R I h;refine thn (hl pins s σ H _ I h) ?_;rintro v s1 ⟨x,f,i,r,Q⟩;obtain⟨a,e,⟨xs,c⟩,q⟩:=Q;subst e;cases r;obtain⟨its,g,p,j⟩:=i.tuple c;refine ba (show s1.heap.IsTuple a its.toArray from p) ?_;refine⟨s1.heap.objs.size,[s1.heap.objs.size],_,_,f,rfl,i.kept (t':=s1.toks) fun b o e=>ye _ e,zl6 a _,⟨_,yw _ rfl,rfl,rfl⟩,fun b d=>?_,q⟩;have e:b=s1.heap.objs.size:=by simpa using d
 subst e;exact i.fpOk (yb _) (i.hok.fresh (yb _))
theorem zlh{R:It->Hp->Prop}{lo hi:Int}{t u v:Tok}{T:Nat}(I:Inv X pins σ H s)(f : -(2^62)<=lo)(d:lo<2^62)(c : -(2^62)<=hi)(a:hi<2^62)(q:R (Itr lo (hi-lo).toNat) H):wpAny (ao X.prog X.w) X.A (pyIter (.ref s.heap.objs.size)) (PIE X pins σ tg R) E { s with heap:=s.heap.push { cls := .type "range", data := .fields #[.int lo t,.int hi u,.int 1 v] },toks:=T }:=by
 refine wpAny_pyIter_range (IsRange.new ..) (small_one f d c a) ?_;have i:Inv X pins σ H { s with heap:=s.heap.push { cls := .type "range", data := .fields #[.int lo t,.int hi u,.int 1 v] },toks:=T }:=I.kept fun b o e=>ye _ e;refine⟨(s.heap.push { cls := .type "range", data := .fields #[.int lo t,.int hi u,.int 1 v] }).objs.size,[(s.heap.push { cls := .type "range", data := .fields #[.int lo t,.int hi u,.int 1 v] }).objs.size],_,_,H,rfl,
  i.kept (t':=T) fun b o e=>ye _ e,zl7 _ lo (hi-lo).toNat,?_,fun b h=>?_,q⟩
 ·have j:lo+((0:Nat):Int)*1=lo:=by simp
  have g:(((hi-lo).toNat:Nat):Int)-((0:Nat):Int)=yck lo hi 1:=by rw[rangeSize_one];split <;> omega
  show IsRangeIter _ _ (lo+((0:Nat):Int)*1) ((((hi-lo).toNat:Nat):Int)-((0:Nat):Int)) 1;rw[j,g];exact yw _ rfl
 ·have e:b=(s.heap.push { cls := .type "range", data := .fields #[.int lo t,.int hi u,.int 1 v] }).objs.size:=by simpa using h
  subst e;exact i.fpOk (yb _) (i.hok.fresh (yb _))
def iRng1(t:TA):TI:=fun σ H R=>t σ H fun vs H1=>∃j:Int,vs=[.int j] /\ -(2^62)<=j/\j<2^62/\R (Itr 0 j.toNat) H1
def iRng2(t:TA):TI:=fun σ H R=>t σ H fun vs H1=>∃i j:Int,vs=[.int i,.int j]/\(-(2^62)<=i/\i<2^62 /\ -(2^62)<=j/\j<2^62)/\R (Itr i (j-i).toNat) H1
theorem znX{a:am}{T:TA}(f:Gl X "range")(hm:X.mg "range" = none)(ha:PA X [a] T)(hs:autoParam (ap [a] X.env=[(ai,eval a X.env)]) AutoP.a3._auto_1):PI X tg (.Call (.Name "range" p) [a] [] pos) (iRng1 T):=by
 intro pins s σ H R I h;refine Call_ (zcJ I f hm boot_range (PyProof.Rows.callWith_type1 (thn (ha pos pins s σ H _ I h) fun us s1 ⟨vs,g,i,c,Q⟩=>?_) hs rfl));obtain⟨j,e,Q,d,q⟩:=Q;subst e;cases c with
 |cons r b=>
  cases b;obtain⟨t,rfl⟩:=r;exact call_range_1 (zlh i (by omega) (by omega) Q d (by simpa using q))
theorem znW{a b:am}{T:TA}(m:Gl X "range")(hm:X.mg "range" = none)(ha:PA X [a,b] T)(hs:autoParam (ap [a,b] X.env=[(ai,eval a X.env),(ai,eval b X.env)]) AutoP.a3._auto_1)(c:autoParam (ap [b] X.env=[(ai,eval b X.env)]) AutoP.a3._auto_1) : PI X tg (.Call (.Name "range" p) [a,b] [] pos) (iRng2 T):=by
 intro pins s σ H R I h;refine Call_ (zcJ I m hm boot_range (PyProof.Rows.callWith_type1 (thn (ha pos pins s σ H _ I h) fun us s1 ⟨vs,o,n,f,Q⟩=>?_) (by rw[hs,c]) (by rw[c];rfl)));obtain⟨i,j,e,⟨Q,l,k,g⟩,q⟩:=Q;subst e;cases f with
 |cons r d=>
  cases d with
  |cons r' d=>
   cases d;obtain⟨t,rfl⟩:=r;obtain⟨t',rfl⟩:=r';exact call_range_2 (zlh n Q l k g q)
def tFor(w:TI)(g:TG)(tb:TS):TS:=fun D σ H=>w σ H fun J H1=>∃W:Nat->Nat->St->Hp->Prop,(∃m,W 0 m σ H1)/\∀i m σ H,W i m σ H →
 (J.stop i H/\D.nx σ H)∨(J.go i H/\∃N:St->Hp->Prop,(∀σ' H',N σ' H'->∃m',m'<m/\W (i+1) m' σ' H')/\∀x H',J.yld i H x H'->g x σ H' fun a H2=>tb { D with nx:=N,ct:=N,bk:=D.nx } a H2)
def zcu(fp:List ac)(h:au):List (ac×av):=fp.filterMap fun b=>(h.get? b).map fun o=>(b,o)
theorem zca{o:av}(H:b∈fp)(e:h.get? b=aa o):(b,o)∈zcu fp h:=ycl.mpr ⟨b,H,by rw[e];rfl⟩
theorem zga{p:ac×av}(H:p∈zcu fp h):p.1∈fp/\h.get? p.1=aa p.2:=by
 obtain⟨b,a,e⟩:=ycl.mp H;cases q:h.get? b with
 |none=>rw[q]at e;cases e|some o=>
  rw[q]at e;have E:(b,o)=p:=yP e;subst E;exact⟨a,q⟩
theorem Inv.pinned(I:Inv X pins σ H s)(f:∀b∈fp,zem X pins H b)(c:∀b∈fp,∃o,s.heap.get? b=aa o/\∀v,o.data ≠ .cell v):Inv X (pins++zcu fp s.heap) σ H s :=
 I.pins_of fun p a=>(y6.mp a).elim (fun z=>I.pin p (yN _ z)) fun z=>by
  obtain⟨h,e⟩:=zga z;obtain⟨f0,f1,f2,_⟩:=f p.1 h;obtain⟨o,E,d⟩:=c p.1 h;rw[e]at E;cases E;exact⟨e,f0,f1,f2,d⟩
theorem Inv.unpinned{pl:List (ac×av)}(I:Inv X (pins++pl) σ H s):Inv X pins σ H s:=I.pins_of fun p h=>I.pin p (yN _ (yaV _ h))
theorem ps_for{iter:am}{K:TI}{g:TG}{tb:TS}(y:PassesOwn (ao X.prog X.w) X.A X.env X.xe)(O:X.calm=ae)(hi:PI X tg iter K)(hg:PG X tg g)(j:PSs X body tb)(hs:autoParam (∀x,bb iter X.env x=pure x) AutoP.a2._auto_1):PS X (.For tg iter body [] pos) (tFor K g tb):=by
 intro pins s σ H D I h;refine wpAny_For (thn (hi pins s σ H _ I h) fun v s1 h1=>thn h1 fun itv s2 h2=>?_) hs;obtain⟨it,fp,tn,J,H2,e,I2,T,B,f2,W,⟨m0,w0⟩,turn⟩:=h2;subst e;have S:∀{H':Hp},(∀b∈fp,H' b=none)->∀b∈fp,zem X pins H' b:=fun hn b j=>⟨hn b j,(f2 b j).2⟩;refine codeAny_forLoop_any (fun n s'=>∃i σ' H',Inv X pins σ' H' s'/\tn i s'.heap/\(∀b∈fp,H' b=none)/\W i n σ' H') ?_ m0 ⟨0,σ,H2,I2,B,fun b j=>(f2 b j).1,w0⟩;rintro n M ⟨i,c,z,P,t,F,V⟩;rcases turn i n c z V with⟨stop,qn⟩|⟨go,N,hN,step⟩
 ·refine bA y (thn (T.done X rfl rfl rfl O i pins M c z X.xe P (S F) t stop) ?_);rintro r s4 ⟨hr,I4⟩;subst hr;exact bj ⟨c,z,I4,qn⟩
 ·refine bA y (thn (T.item X rfl rfl rfl O i pins M c z X.xe P (S F) t go) ?_);rintro r s4 ⟨u,hr,h4⟩;subst hr;refine bA y (thn h4 ?_);rintro _ L ⟨x,Q,I5,r5,Y,p,E⟩;have G:=I5.pinned (S E) (T.obj _ _ p);refine bA y (thn (hg _ L c Q x u _ G r5 (step x Q Y)) ?_);rintro _ Z ⟨A,H6,I6,q6⟩;refine bA y (thn (j _ Z A H6 _ I6 q6) fun f C q=>?_);have again:∀{a:St}{l:Hp},Inv X (pins++zcu fp L.heap) a l C->N a l->∃m,m<n/\∃i σ' H',Inv X pins σ' H' C/\tn i C.heap/\(∀b∈fp,H' b=none)/\W i m σ' H':=fun {a l} k w=>by
   obtain⟨m',hm,U⟩:=hN a l w;refine⟨m',hm,i+1,a,l,k.unpinned,T.keep _ _ _ p fun b j o e=>(k.pin (b,o) (yN _ (yN _ (zca j e)))).1,fun b j=>?_,U⟩;obtain⟨o,e,d⟩:=T.obj _ _ p b j;exact(k.pin (b,o) (yN _ (yN _ (zca j e)))).2.1
  cases f with
  |next=>obtain⟨a,l,k,w⟩:=q;exact again k w
  |cont=>obtain⟨a,l,k,w⟩:=q;exact again k w
  |brk=>obtain⟨a,l,k,q⟩:=q;exact⟨a,l,k.unpinned,q⟩
  |ret v=>obtain⟨R,a,l,k,r7,q⟩:=q;exact⟨R,a,l,k.unpinned,r7,q⟩
end
abbrev R2:=V->V->Hp->VK->Prop
def OpR(X:Cx)(f:ag->ag->Sem ag)(r:R2):Prop :=
 ∀(pins:List (ac×av))(s:ak)(σ : St)(H:Hp)(x y:V)(v u:ag)(Q:VK),Inv X pins σ H s->RelV x v->RelV y u->r x y H Q →
  wpAny (ao X.prog X.w) X.A (f v u) (EP X pins σ Q) X.xe s
def UnR(X:Cx)(f:ag->Sem ag)(r:V->Hp->VK->Prop):Prop :=
 ∀(pins:List (ac×av))(s:ak)(σ : St)(H:Hp)(x:V)(v:ag)(Q:VK),Inv X pins σ H s->RelV x v->r x H Q →
  wpAny (ao X.prog X.w) X.A (f v) (EP X pins σ Q) X.xe s
def CallR(X:Cx)(f:ag)(r:List V->Hp->VK->Prop):Prop :=
 ∀(pins:List (ac×av))(s:ak)(σ : St)(H:Hp)(xs:List V)(us:List ag)(Q:VK),Inv X pins σ H s->Vals xs us->r xs H Q →
  wpAny (ao X.prog X.w) X.A (call f us) (EP X pins σ Q) X.xe s
def tOp(r:R2)(t tb:TE):TE:=fun σ H Q=>t σ H fun x H1=>tb σ H1 fun y H2=>r x y H2 Q
def tUn(r:V->Hp->VK->Prop)(t:TE):TE:=fun σ H Q=>t σ H fun x H1=>r x H1 Q
def rI(C:Int->Int->Prop)(g:Int->Int->V):R2:=fun x y H Q=>∃i j,x = .int i/\y = .int j/\C i j/\Q (g i j) H
def rI0(g:Int->Int->V):R2:=fun x y H Q=>∃i j,x = .int i/\y = .int j/\Q (g i j) H
def rU(g:Int->V):V->Hp->VK->Prop:=fun x H Q=>∃i,x = .int i/\Q (g i) H
variable{f:ag->ag->Sem ag}{r:R2}
section
variable{a b:am}{tc:TE}
theorem binT(ha:PE X a ta)(i:PE X b tb){R:V->V->Hp->Prop}(I:Inv X pins σ H s)(h:ta σ H fun x H1=>tb σ H1 fun y H2=>R x y H2)(g:∀v u s2 x y H2,Inv X pins σ H2 s2->RelV x v->RelV y u->R x y H2->wpAny (ao X.prog X.w) X.A (f v u) Q X.xe s2) : wpAny (ao X.prog X.w) X.A (eval a X.env) (fun v c=>wpAny (ao X.prog X.w) X.A (eval b X.env) (fun u S=>wpAny (ao X.prog X.w) X.A (f v u) Q X.xe S) X.xe c) X.xe s:=by
 refine thn (ha pins s σ H _ I h) ?_;rintro v s1 ⟨x,H1,k,d,e⟩;refine thn (i pins s1 σ H1 _ k e) ?_;rintro u s2 ⟨y,H2,j,r,q⟩;exact g v u s2 x y H2 j d r q
theorem pe_op{o:Operator}(d:OpR X (aL o) r)(ha:PE X a ta)(e:PE X b tb):PE X (.BinOp a o b pos) (tOp r ta tb):=by
 intro pins s σ H Q I h;exact wpAny_BinOp (binT ha e I h fun v u s2 x y f i c R q=>d pins s2 σ f x y v u Q i c R q)
theorem pe_un{o:UnaryOp}{r:V->Hp->VK->Prop}(b:UnR X (unaryOp o) r)(ha:PE X a ta):PE X (.UnaryOp o a pos) (tUn r ta):=by
 intro pins s σ H Q I h;refine UnaryOp_ (thn (ha pins s σ H _ I h) ?_);rintro v s1 ⟨x,c,i,R,q⟩;exact b pins s1 σ c x v Q i R q
theorem opI{C:Int->Int->Prop}{g:Int->Int->Int}
  (rule:∀(i j:Int)(t u:Tok)(s:ak)(Q:ag->ak->Prop)(E:ag->ak->Prop),C i j->Q (.int (g i j) s.toks) { s with toks:=s.toks+1 }->wpAny (ao X.prog X.w) X.A (f (.int i t) (.int j u)) Q E s) :
  OpR X f (rI C fun i j=>.int (g i j)):=by
 intro pins s σ H x y v u Q I R r h;obtain⟨i,j,rfl,rfl,a,q⟩:=h;obtain⟨t,rfl⟩:=R;obtain⟨t',rfl⟩:=r;exact rule i j t t' s _ _ a ⟨.int (g i j),H,I.tok _,⟨_,rfl⟩,q⟩
theorem opI0{g:Int->Int->Int}
  (rule:∀(i j:Int)(t u:Tok)(s:ak)(Q:ag->ak->Prop)(E:ag->ak->Prop),Q (.int (g i j) s.toks) { s with toks:=s.toks+1 }->wpAny (ao X.prog X.w) X.A (f (.int i t) (.int j u)) Q E s) :
  OpR X f (rI0 fun i j=>.int (g i j)):=by
 intro pins s σ H x y v u Q I R r h;obtain⟨i,j,rfl,rfl,q⟩:=h;obtain⟨t,rfl⟩:=R;obtain⟨t',rfl⟩:=r;exact rule i j t t' s _ _ ⟨.int (g i j),H,I.tok _,⟨_,rfl⟩,q⟩
theorem opB0{g:Int->Int->Bool}(rule:∀(i j:Int)(t u:Tok)(s:ak)(Q:ag->ak->Prop)(E:ag->ak->Prop),Q (.bool (g i j)) s->wpAny (ao X.prog X.w) X.A (f (.int i t) (.int j u)) Q E s) : OpR X f (rI0 fun i j=>.bl (g i j)):=by
 intro pins s σ H x y v u Q I R r h;obtain⟨i,j,rfl,rfl,q⟩:=h;obtain⟨t,rfl⟩:=R;obtain⟨t',rfl⟩:=r;exact rule i j t t' s _ _ ⟨.bl (g i j),H,I,rfl,q⟩
def CPow(i j:Int):Prop:=0<=j/\j<=1000000/\i.natAbs<2^64
def CMul(i j:Int):Prop:=(-(2^64)<i/\i<2^64)∨(-(2^64)<j/\j<2^64)
theorem CMul.ok{i j:Int}(h:CMul i j):IntMulOk i j:=by
 rcases h with⟨a,H⟩|⟨a,H⟩
 ·exact .of_left (intBits_le_64 a H)
 ·exact .of_right (intBits_le_64 a H)
theorem zl3(k:Nat):(0:Int)<=2^k:=by
 rw[two_pow_cast];exact Int.natCast_nonneg _
theorem op_add:OpR X (aL .Add) (rI0 fun i j=>.int (i+j)):=opI0 fun _ _ _ _ _ _ _ q=>add_int q
theorem zaS:OpR X (aL .Sub) (rI0 fun i j=>.int (i-j)):=opI0 fun _ _ _ _ _ _ _ q=>sub_int q
theorem op_mul:OpR X (aL .Mult) (rI CMul fun i j=>.int (i*j)):=opI fun _ _ _ _ _ _ _ h q=>mul_int q h.ok
theorem zbo:OpR X (aL .Mod) (rI (fun _ j=>0<j) fun i j=>.int (i%j)):=opI fun i j _ _ _ _ _ h q=>by
 have H:(0:Int)<j:=h;exact mod_int' (by omega) (by rw[Int.fmod_eq_emod_of_nonneg i (by omega)];exact q)
theorem zrJ:OpR X (aL .Pow) (rI CPow fun i j=>.int (i^j.toNat)):=opI fun _ _ _ _ _ _ _ h q=>pow_int_small h.1 h.2.1 h.2.2 q
theorem zb4:OpR X (aL .LShift) (rI CPow fun i j=>.int (i*2^j.toNat)):=opI fun _ _ _ _ _ _ _ h q=>lshift_int_small h.1 h.2.1 h.2.2 q
theorem op_shr:OpR X (aL .RShift) (rI (fun _ j=>0<=j) fun i j=>.int (i/2^j.toNat)):=opI fun i j _ _ _ _ _ h q=>
 rshift_int h (by rw[ydh i (zl3 _)];exact q)
theorem op_and:OpR X (aL .BitAnd) (rI0 fun i j=>.int (ybn i j)):=opI0 fun _ _ _ _ _ _ _ q=>and_int q
theorem unI{f:ag->Sem ag}{g:Int->Int}
  (rule:∀(i:Int)(t:Tok)(s:ak)(Q:ag->ak->Prop)(E:ag->ak->Prop),Q (.int (g i) s.toks) { s with toks:=s.toks+1 }->wpAny (ao X.prog X.w) X.A (f (.int i t)) Q E s) :
  UnR X f (rU fun i=>.int (g i)):=by
 intro pins s σ H x v Q I r h;obtain⟨i,rfl,q⟩:=h;obtain⟨t,rfl⟩:=r;exact rule i t s _ _ ⟨.int (g i),H,I.tok _,⟨_,rfl⟩,q⟩
theorem zrt:UnR X (unaryOp .USub) (rU fun i=>.int (-i)):=unI fun _ _ _ _ _ q=>neg_int q
end
def scal:V->V->Bool
 |.non,.non=>ae | .non,.int _=>ae | .int _,.non=>ae | .non,.bl _=>ae | .bl _,.non=>ae | .non,.str _=>ae | .str _,.non=>ae|.int _,.int _=>ae | .bl _,.bl _=>ae | .str _,.str _=>ae | .byt _,.byt _=>ae|.int _,.str _=>ae | .str _,.int _=>ae | .bl _,.str _=>ae | .str _,.bl _=>ae|_,_=>ai
def rEq:R2:=fun x y H Q=>scal x y=ae/\Q (.bl (decide (x=y))) H
def rNe:R2:=fun x y H Q=>scal x y=ae/\Q (.bl (!decide (x=y))) H
theorem zpq{i j:Int}:decide (V.int i=V.int j)=(i==j):=by
 rw[ybJ];simp
theorem zr1{i j:Bool}:decide (V.bl i=V.bl j)=(i==j):=by
 rw[ybJ];simp
theorem zpp{i j:af}:decide (V.str i=V.str j)=(i==j):=by
 rw[ybJ];simp
theorem zpr{i j:Array UInt8}:decide (V.byt i=V.byt j)=(i.toList==j.toList):=by
 rw[ybJ];cases i;cases j;simp
variable{r':R2}{op:CmpOp}
section
variable{a b:am}{tc:TE}
theorem zaL{Q:VK}{k k':Bool}(I:Inv X pins σ H s)(q:Q (.bl k) H)(e:k=k'):EP X pins σ Q (.bool k') s:=by
 subst e;exact⟨.bl k,H,I,rfl,q⟩
theorem op_eq:OpR X (aB .Eq) rEq:=by
 intro pins s σ H x y v u Q I R r h;obtain⟨hs,q⟩:=h;cases x with
 |non=>
  cases R;cases y with
  |non=>cases r;exact PySem.EqNone.eq_none_none (zaL I q (by simp))|bl j=>cases r;exact PySem.EqNone.eq_none_bool (zaL I q (by simp))|int j=>obtain⟨t',rfl⟩:=r;exact PySem.EqNone.eq_none_int (zaL I q (by simp))
  |str j=>obtain⟨t',rfl⟩:=r;exact PySem.EqNone.eq_none_str (zaL I q (by simp))
  |_=>exact absurd (show ai=ae from hs) yH
 |bl i=>
  cases R;cases y with
  |non=>cases r;exact PySem.EqNone.eq_bool_none (zaL I q (by simp))|bl j=>cases r;exact eq_bool (zaL I q zr1)|str j=>obtain⟨t',rfl⟩:=r;exact PySem.EqMixed.eq_bool_str (zaL I q (by simp))
  |_=>exact absurd (show ai=ae from hs) yH
 |int i=>
  obtain⟨t,rfl⟩:=R;cases y with
  |non=>cases r;exact PySem.EqNone.eq_int_none (zaL I q (by simp))|int j=>obtain⟨t',rfl⟩:=r;exact eq_int (zaL I q zpq)
  |str j=>obtain⟨t',rfl⟩:=r;exact PySem.EqMixed.eq_int_str (zaL I q (by simp))
  |_=>exact absurd (show ai=ae from hs) yH
 |str i=>
  obtain⟨t,rfl⟩:=R;cases y with
  |non=>cases r;exact PySem.EqNone.eq_str_none (zaL I q (by simp))|bl j=>cases r;exact PySem.EqMixed.eq_str_bool (zaL I q (by simp))|int j=>obtain⟨t',rfl⟩:=r;exact PySem.EqMixed.eq_str_int (zaL I q (by simp))
  |str j=>obtain⟨t',rfl⟩:=r;exact eq_str (zaL I q zpp)
  |_=>exact absurd (show ai=ae from hs) yH
 |byt i=>
  obtain⟨t,rfl⟩:=R;cases y with
  |byt j=>obtain⟨t',rfl⟩:=r;exact PySem.W.eq_bytes (zaL I q zpr)
  |_=>exact absurd (show ai=ae from hs) yH
 |_=>cases y <;> exact absurd (show ai=ae from hs) yH
theorem op_ne:OpR X (aB .NotEq) rNe:=by
 intro pins s σ H x y v u Q I R r h;obtain⟨hs,q⟩:=h;cases x with
 |non=>
  cases R;cases y with
  |non=>cases r;exact PySem.EqNone.ne_none_none (zaL I q (by simp))|bl j=>cases r;exact PySem.EqNone.ne_none_bool (zaL I q (by simp))|int j=>obtain⟨t',rfl⟩:=r;exact PySem.EqNone.ne_none_int (zaL I q (by simp))
  |str j=>obtain⟨t',rfl⟩:=r;exact PySem.EqNone.ne_none_str (zaL I q (by simp))
  |_=>exact absurd (show ai=ae from hs) yH
 |bl i=>
  cases R;cases y with
  |non=>cases r;exact PySem.EqNone.ne_bool_none (zaL I q (by simp))|bl j=>cases r;exact ne_bool (zaL I q (congrArg not zr1))|str j=>obtain⟨t',rfl⟩:=r;exact PySem.EqMixed.ne_bool_str (zaL I q (by simp))
  |_=>exact absurd (show ai=ae from hs) yH
 |int i=>
  obtain⟨t,rfl⟩:=R;cases y with
  |non=>cases r;exact PySem.EqNone.ne_int_none (zaL I q (by simp))|int j=>obtain⟨t',rfl⟩:=r;exact ne_int (zaL I q (congrArg not zpq))
  |str j=>obtain⟨t',rfl⟩:=r;exact PySem.EqMixed.ne_int_str (zaL I q (by simp))
  |_=>exact absurd (show ai=ae from hs) yH
 |str i=>
  obtain⟨t,rfl⟩:=R;cases y with
  |non=>cases r;exact PySem.EqNone.ne_str_none (zaL I q (by simp))|bl j=>cases r;exact PySem.EqMixed.ne_str_bool (zaL I q (by simp))|int j=>obtain⟨t',rfl⟩:=r;exact PySem.EqMixed.ne_str_int (zaL I q (by simp))
  |str j=>obtain⟨t',rfl⟩:=r;exact ne_str (zaL I q (congrArg not zpp))
  |_=>exact absurd (show ai=ae from hs) yH
 |byt i=>
  obtain⟨t,rfl⟩:=R;cases y with
  |byt j=>obtain⟨t',rfl⟩:=r;exact PySem.W.ne_bytes (zaL I q (congrArg not zpr))
  |_=>exact absurd (show ai=ae from hs) yH
 |_=>cases y <;> exact absurd (show ai=ae from hs) yH
theorem op_lt:OpR X (aB .Lt) (rI0 fun i j=>.bl (decide (i<j))):=opB0 fun _ _ _ _ _ _ _ q=>lt_int q
theorem op_le:OpR X (aB .LtE) (rI0 fun i j=>.bl (decide (i<=j))):=opB0 fun _ _ _ _ _ _ _ q=>le_int q
theorem ziP:OpR X (aB .Gt) (rI0 fun i j=>.bl (decide (j<i))):=opB0 fun _ _ _ _ _ _ _ q=>gt_int q
theorem zqK:OpR X (aB .GtE) (rI0 fun i j=>.bl (decide (j<=i))):=opB0 fun _ _ _ _ _ _ _ q=>ge_int q
theorem zoa:OpR X (aB .Lt) (fun x y H Q=>∃i j,x = .str i/\y = .str j/\Q (.bl (decide (i.cps.toList<j.cps.toList))) H):=by
 intro pins s σ H x y v u Q I R r h;obtain⟨i,j,rfl,rfl,q⟩:=h;obtain⟨t,rfl⟩:=R;obtain⟨t',rfl⟩:=r;exact lt_str (zaL I q rfl)
theorem zoc:OpR X (aB .In) (fun x y H Q=>∃i j,x = .str i/\y = .str j/\Q (.bl (!(ybK j i 0 j.length 1).isEmpty)) H):=by
 intro pins s σ H x y v u Q I R r h;obtain⟨i,j,rfl,rfl,q⟩:=h;obtain⟨t,rfl⟩:=R;obtain⟨t',rfl⟩:=r;exact in_str (zaL I q rfl)
theorem op_isN:OpR X (aB .Is) (fun x y H Q=>y = .non/\Q (.bl (decide (x = .non))) H):=by
 intro pins s σ H x y v u Q I r R h;obtain⟨rfl,q⟩:=h;cases R;refine is_none_gen (zaL I q ?_);cases x <;> first
  | (cases r;rfl)
  | (obtain⟨t,rfl⟩:=r;rfl)
theorem zs4:OpR X (aB .IsNot) (fun x y H Q=>y = .non/\Q (.bl (!decide (x = .non))) H):=by
 intro pins s σ H x y v u Q I r R h;obtain⟨rfl,q⟩:=h;cases R;refine isnot_none_gen (zaL I q ?_);cases x <;> first
  | (cases r;rfl)
  | (obtain⟨t,rfl⟩:=r;rfl)
theorem ziO:OpR X (aB .NotIn) (fun x y H Q=>∃i j,x = .str i/\y = .str j/\Q (.bl (!(!(ybK j i 0 j.length 1).isEmpty))) H):=by
 intro pins s σ H x y v u Q I R r h;obtain⟨i,j,rfl,rfl,q⟩:=h;obtain⟨t,rfl⟩:=R;obtain⟨t',rfl⟩:=r;exact notIn_str (zaL I q rfl)
theorem OpR.or(h:OpR X f r)(h':OpR X f r'):OpR X f (fun x y H Q=>r x y H Q∨r' x y H Q):=by
 intro pins s σ H x y v u Q I a R q;rcases q with q|q
 ·exact h pins s σ H x y v u Q I a R q
 ·exact h' pins s σ H x y v u Q I a R q
theorem zay(b:am)(h:autoParam (op ≠ .In) AutoP.a1._auto_1)(H:autoParam (op ≠ .NotIn) AutoP.a1._auto_1):bN op b=ai:=by
 have E:(op==CmpOp.In)=ai:=by cases op <;> first | rfl | exact absurd rfl h
 have e:(op==CmpOp.NotIn)=ai:=by cases op <;> first | rfl | exact absurd rfl H
 cases b <;> simp[bN,E,e]
theorem zs2(d:OpR X (aB op) r)(ha:PE X a ta)(e:PE X b tb)(hm:bN op b=ai):PE X (.Compare a [op] [b] pos) (tOp r ta tb):=by
 intro pins s σ H Q I h;exact wpAny_Compare1 (binT ha e I h fun v u s2 x y f i c R q=>d pins s2 σ f x y v u Q i c R q) hm
def tTest(t:TE):TT:=fun σ H Q=>t σ H fun x H'=>∃k,x = .bl k/\Q k H'
theorem zsL(j:OpR X (aB op) r)(ha:PE X a ta)(l:PE X b tb)(hm:bN op b=ai):PT X (.Compare a [op] [b] pos) (tTest (tOp r ta tb)):=by
 intro pins s σ H Q I h;refine wpAny_isTrue_Compare1 (thn (ha pins s σ H _ I h) fun v s1 ⟨x,w,o,f,i⟩=>thn (l pins s1 σ w _ o i) fun u s2 ⟨y,t,n,d,g⟩=>
  thn (j pins s2 σ t x y v u _ n f d g) fun c S ⟨z,p,m,R,k,e,q⟩=>?_) hm
 subst e;cases R;exact bx ⟨p,m,q⟩
def zrx(r r':R2)(T tb t:TE):TE:=fun σ H Q=>T σ H fun x H1=>tb σ H1 fun y H2=>r x y H2 fun z h=>∃k,z = .bl k ∧
 (if k=ae then t σ h fun w a=>r' y w a Q else Q (.bl ai) h)
theorem zqH{o:CmpOp}(A:OpR X (aB op) r)(f:OpR X (aB o) r')(ha:PE X a ta)(C:PE X b tb)(B:PE X c tc)(hm:autoParam (lastMarks [op,o] [b,c]=ai) AutoP.a4._auto_1):PE X (.Compare a [op,o] [b,c] pos) (zrx r r' ta tb tc):=by
 intro pins s σ H Q I h;refine Compare_chain (thn (ha pins s σ H _ I h) fun v s1 ⟨x,K,F,m,t⟩=>chain_link (thn (C pins s1 σ K _ F t) fun u s2 ⟨y,J,E,R,p⟩=>
  thn (A pins s2 σ J x y v u _ E m R p) fun d S ⟨z,g,i,l,k,e,q⟩=>?_)) hm
 subst e;cases l;refine bx ?_;cases k with
 |false=>exact ite_ff ⟨.bl ai,g,i,rfl,q⟩|true=>exact ite_tt (chain_last (thn (B pins S σ g _ i q) fun w s4 ⟨Z,G,D,j,n⟩=>f pins s4 σ G y Z u w Q D R j n))
theorem zi7:(sizeLine:Nat)<2^63:=by rw[bo];decide
theorem zmo:OpR X (aL .Add) (fun x y H Q=>∃i j,x = .str i/\y = .str j/\i.length+j.length<=sizeLine/\Q (.str (i++j)) H):=by
 intro pins s σ H x y v u Q I R r h;obtain⟨i,j,rfl,rfl,a,q⟩:=h;obtain⟨t,rfl⟩:=R;obtain⟨t',rfl⟩:=r;exact add_str (fun t' T=>⟨.str (i++j),H,I.tok _,⟨_,rfl⟩,q⟩) a
theorem zcA{x:V}(r:Vals [x] us):∃u,us=[u]/\RelV x u:=by
 cases r with
 |cons a R=>cases R;exact⟨_,rfl,a⟩
theorem zhB{x:V}(r:Vals [x,y] us):∃u w',us=[u,w']/\RelV x u/\RelV y w':=by
 cases r with
 |cons c b=>
  cases b with
  |cons a R=>cases R;exact⟨_,_,rfl,c,a⟩
theorem zeK(b:X.calm=ae):CallR X (.builtin "max") (fun xs H Q=>∃i j,xs=[.int i,.int j]/\Q (.int (if j>i then j else i)) H):=by
 intro pins s σ H xs us Q I r h;obtain⟨i,j,rfl,q⟩:=h;obtain⟨u,w,rfl,⟨t,rfl⟩,⟨t',rfl⟩⟩:=zhB r;refine max_two_ints (I.ok.hd b) fun h' T k=>⟨_,H,I.kept k,?_,q⟩;by_cases a:j>i
 ·rw[if_pos a,if_pos a];exact⟨_,rfl⟩
 ·rw[if_neg a,if_neg a];exact⟨_,rfl⟩
theorem zbL(b:X.calm=ae):CallR X (.builtin "min") (fun xs H Q=>∃i j,xs=[.int i,.int j]/\Q (.int (if j<i then j else i)) H):=by
 intro pins s σ H xs us Q I r h;obtain⟨i,j,rfl,q⟩:=h;obtain⟨u,w,rfl,⟨t,rfl⟩,⟨t',rfl⟩⟩:=zhB r;refine min_two_ints (I.ok.hd b) fun h' T k=>⟨_,H,I.kept k,?_,q⟩;by_cases a:j<i
 ·rw[if_pos a,if_pos a];exact⟨_,rfl⟩
 ·rw[if_neg a,if_neg a];exact⟨_,rfl⟩
theorem zpK:CallR X (.type "int") (fun xs H Q=>(∃i,xs=[.int i]/\Q (.int i) H)∨∃k,xs=[.bl k]/\Q (.int (if k then 1 else 0)) H):=by
 intro pins s σ H xs us Q I r h;rcases h with⟨i,rfl,q⟩|⟨k,rfl,q⟩
 ·obtain⟨u,rfl,t,rfl⟩:=zcA r;exact call_int_int ⟨.int i,H,I,⟨_,rfl⟩,q⟩
 ·obtain⟨u,rfl,R⟩:=zcA r;cases R;exact call_int_bool ⟨.int (if k then 1 else 0),H,I.tok _,⟨_,rfl⟩,q⟩
theorem zfq:CallR X (.type "str") (fun xs H Q=>∃i,xs=[.int i]/\i.natAbs.log2<1920/\Q (.str (toString i)) H):=by
 intro pins s σ H xs us Q I r h;obtain⟨i,rfl,a,q⟩:=h;obtain⟨u,rfl,t,rfl⟩:=zcA r;exact PySem.P.str_of_int a ⟨.str _,H,I.tok _,⟨_,rfl⟩,q⟩
end
structure ObjM(h:au)(x dx C:ac)(mA:af->Option ag):Prop where
 obj:h.get? x=aa (yaM C dx)
 ns:h.Ns1 dx mA
 ne:dx≠x
variable{dx:ac}{mA:af->Option ag}
theorem zoF(n:h.Ns1 dx mA):∃od,h.get? dx=aa od/\∀name,ybL name od=aa (mA name):=by
 obtain⟨o,es,E,c,hd,d,_,hm⟩:=n;refine⟨o,c,fun name=>?_⟩;have e:=hm name;unfold nsFind findBy at e;rw[<- Array.find?_toList]at e;unfold ybL;rw[hd];dsimp only;split
 ·rename_i y q;rw[q]at e;exact congrArg aa e
 ·rename_i q;rw[q]at e;have a:es.toList.any (·.refKey)=ai:=by
   rw[List.any_eq_false];intro y b;obtain⟨z,t,H⟩:=d y (Array.mem_toList_iff.mp b);simp[DictEntry.refKey,H]
  have A : ¬ es.toList.any (·.refKey)=ae:=by rw[a];exact yH
  rw[if_neg A];exact congrArg aa e
variable{C:ac}
theorem ObjM.look{x:ac}(I:ObjM h x dx C mA):∃od,yba h x (yaM C dx) C (aa od)/\∀name,ybL name od=aa (mA name) :=
 let ⟨od,ho,hl⟩:=zoF I.ns
 ⟨od,⟨I.obj,rfl,rfl,ho⟩,hl⟩
variable{prog:ar}{name:af}{pl:Sem Bool}{kw:List (af×ag)}
section
variable{w:al}{x f:ac}{v:ag}
theorem zty{e:Bool}(X:K.In s.heap)(I:ObjM s.heap x dx C mA)(c:ybo K C name=ae)(b:ybM K C=ae)
  (ha:yU K (.ref C) name=aa none) (a:mA name=aa v) (H:ydi v=ae) (h:Q v { s with toks:=s.toks+1 }) :
  wpAny (ao prog w) A (getAttr (.ref x) name e) Q E s:=by
 obtain⟨od,J,hl⟩:=I.look;exact PySem.W.get_value X J (ycm c).1 (PySem.W.findObj_own b ha rfl (by rw[hl,a])) H h
theorem zra{Q:ag×List ag->ak->Prop}(X:K.In s.heap)(I:ObjM s.heap x dx C mA)(H:ybo K C name=ae)(c:yU K (.ref C) name=aa (aa (.ref f)))(b:yad K (.ref f)=ae)(a:mA name=none)(h:Q (.ref f,[.ref x]) s) : wpAny (ao prog w) A (getMethod (.ref x) name pl) Q E s:=by
 obtain⟨od,J,hl⟩:=I.look;exact PySem.W.method_fn X J (ycm H).1 (ycm H).2 c (beq_iff_eq.mp b) (by show (ybL name od).map (·.isSome)=aa ai;rw[hl,a];rfl) h
theorem zsp{ns:List af}{Q:Unit->ak->Prop}(X:K.In s.heap)(I:ObjM s.heap x dx C mA)
  (hs:yU K (.ref C) "__setattr__" = aa (aa (.builtin "object.__setattr__"))) (l:ycn K C=ae) (k:yco K C name=aa none) (m:ybM K C=ae)
  (j:ycf mA ns) (hsz:ns.length<=sizeLine)
  (h:∀h',ObjM h' x dx C (fun y=>if y=name then aa v else mA y)->yas dx s.heap h'->Q () { s with heap:=h',toks:=s.toks+2 }) :
  wpAny (ao prog w) A (setAttr (.ref x) name v) Q E s:=by
 obtain⟨od,J,hl⟩:=I.look;refine PySem.W.set_plain X J hs (PySem.W.osa_open (s:={ s with toks:=s.toks+1 }) (r:=none) X J l k fun b=>?_);obtain⟨q,n,f⟩:=PySem.W.any_some m;have i:s.heap.get? x=aa ⟨.ref C,aa dx,.plain,#[]⟩:=I.obj;refine aj (aw (aj (aj (cx i (aj (PySem.W.Looks.here (s:={ s with toks:=s.toks+1 }) (PySem.W.looks_clsIn X n) ?_))))));rw[f];refine aw (a:=aa dx) (aj (aw (aj ?_)));refine wpAny_nsSet1 (s:={ s with toks:=s.toks+1 }) I.ns fun h' c H=>?_;obtain⟨O,o,p,d,e,g⟩:=c.count (PySem.Within.cons name v j);refine aj (wpAny_lookBehind d (by rw[e];exact pastItsLine_dict (yM g (by rw[yx];omega))) ?_);exact aw (h _ ⟨(H.2 _ (Ne.symm I.ne)).trans I.obj,c,I.ne⟩ H)
theorem zqT{R:bB->ak->Prop}{vs:List ag}(X:K.In s.heap)(hm:ycp K C=ae)
  (hi:yU K (.ref C) "__init__" = aa (aa (.ref f))) (H:ycq K (.ref f)=aa (.type "function"))
  (h:codeAny (ao prog w) (A.under (.builtin "type.__call__" ⟨.ref C::vs,kw⟩)) (.call (.ref f) ⟨.ref (s.heap.objs.size+1)::vs,kw⟩) (PySem.W.InitBack (s.heap.objs.size+1) R)
   { s with heap:=(s.heap.push yaC).push (yaM C s.heap.objs.size) }) :
  codeAny (ao prog w) A (.call (.ref C) ⟨vs,kw⟩) R s:=by
 obtain⟨a,g,d,t,os⟩:=s;exact PySem.W.make_core (PySem.W.makes_of X hm) (ydj X hi) (fun self=>PySem.W.bind_fn X self H) (.inl rfl) h
end
def zgN(f:af)(v:V):List (af×V)->List (af×V)
 |[]=>[(f,v)]| (g,x)::r=>if g=f then (g,v)::r else (g,x)::zgN f v r
theorem zge(f g:af)(v:V):∀fs:List (af×V),(zgN f v fs).lookup g=if g=f then aa v else fs.lookup g
 |[]=>by
  show yaW g [(f,v)]=_;by_cases h:g=f
  ·have H:(g==f)=ae:=beq_iff_eq.mpr h;simp only[yaW,H,if_pos h]
  ·have H:(g==f)=ai:=beq_eq_false_iff_ne.mpr h;simp only[yaW,H,if_neg h]
 | (k,x)::r=>by
  have i:=zge f g v r;rw[show zgN f v ((k,x)::r)=(if k=f then (k,v)::r else (k,x)::zgN f v r) from rfl];by_cases a:k=f
  ·rw[if_pos a];by_cases h:g=k
   ·have H:(g==k)=ae:=beq_iff_eq.mpr h;simp only[yaW,H,if_pos (h.trans a)]
   ·have H:(g==k)=ai:=beq_eq_false_iff_ne.mpr h;simp only[yaW,H,if_neg (fun e:g=f=>h (e.trans a.symm))]
  ·rw[if_neg a];by_cases h:g=k
   ·have H:(g==k)=ae:=beq_iff_eq.mpr h;simp only[yaW,H,if_neg (fun e:g=f=>a (h.symm.trans e))]
   ·have H:(g==k)=ai:=beq_eq_false_iff_ne.mpr h;simp only[yaW,H];exact i
theorem zgg(f:af)(v:V):∀fs:List (af×V),f∈(zgN f v fs).map (·.1)/\∀g,g∈fs.map (·.1)->g∈(zgN f v fs).map (·.1)
 |[]=>⟨by simp[zgN],fun g h=>by simp at h⟩| (k,x)::r=>by
  obtain⟨i1,i2⟩:=zgg f v r;rw[show zgN f v ((k,x)::r)=(if k=f then (k,v)::r else (k,x)::zgN f v r) from rfl];by_cases H:k=f
  ·rw[if_pos H];subst H;exact⟨by simp,fun g h=>by simpa using h⟩
  ·rw[if_neg H];refine⟨?_,fun g h=>?_⟩
   ·rw[yy];exact yY _ i1
   ·rw[yy]at h ⊢;rcases yA.mp h with e|e
    ·exact yA.mpr (.inl e)
    ·exact yY _ (i2 g e)
theorem zgf(f:af)(v:V):∀fs:List (af×V),(zgN f v fs).length<=fs.length+1
 |[]=>by simp[zgN]| (k,x)::r=>by
  have i:=zgf f v r;rw[show zgN f v ((k,x)::r)=(if k=f then (k,v)::r else (k,x)::zgN f v r) from rfl];by_cases h:k=f
  ·rw[if_pos h,yx,yx];omega
  ·rw[if_neg h,yx,yx];omega
theorem RelO.some_of{o:Option ag}(r:RelO (aa v) o):∃u,o=aa u/\RelV v u:=by
 cases o with
 |none=>exact(show False from r).elim|some u=>exact⟨u,rfl,r⟩
theorem RelO.none_of{o:Option ag}(r:RelO none o):o=none:=by
 cases o with
 |none=>rfl|some u=>exact(show False from r).elim
theorem zo1(r:RelV v u):ydi u=ae:=by
 cases v with
 |non=>cases (show u=yab from r);rfl|bl b=>cases (show u=ybm b from r);rfl|int i=>obtain⟨t,e⟩:=(show ∃t,u=ybk i t from r);cases e;rfl
 |str x=>obtain⟨t,e⟩:=(show ∃t,u=ybl x t from r);cases e;rfl
 |byt b=>obtain⟨t,e⟩:=(show ∃t,u=Value.bytes b t from r);cases e;rfl
 |flt b=>obtain⟨t,e⟩:=(show ∃t,u=yce b t from r);cases e;rfl
 |ref a=>cases (show u=yn a from r);rfl|ty n=>cases (show u=yah n from r);rfl
section
variable{w:al}{fs fs':List (af×V)}
theorem zib(hok:HOk P w H h)(e:H a=aa (.ins C dx fs)):∃mA,ObjM h a dx C mA/\(∀f,RelO (fs.lookup f) (mA f))/\ycf mA (fs.map (·.1))/\fs.length<=1000/\H dx=aa (.own a):=by
 obtain⟨d,z,ne,ob,mA,n,r,q⟩:=(show ObjOk P w H h a (.ins C dx fs) from hok a _ e);exact⟨mA,⟨ob,n,ne⟩,r,q,z,d⟩
end
structure Cls(K:ya)(C:ac):Prop where
 pg:ybo K C Str.empty=ae
 hd:ybM K C=ae
 po:ycn K C=ae
 sa:yU K (.ref C) "__setattr__" = aa (aa (.builtin "object.__setattr__"))
theorem Cls.get(c:Cls K C)(f:af):ybo K C f=ae:=c.pg
def NoAttr(K:ya)(C:ac)(f:af):Prop:=yU K (.ref C) f=aa none
theorem NoAttr.taker{f:af}(n:NoAttr K C f):yco K C f=aa none:=by
 unfold yco;rw[show yU K (.ref C) f=aa none from n];rfl
structure Meth(K:ya)(C:ac)(m:af)(f:ac):Prop where
 at_:yU K (.ref C) m=aa (aa (.ref f))
 fn:yad K (.ref f)=ae
 kp:yaD K (.ref f)=ae
variable{m:af}
section
variable{fs:List (af×V)}{f:af}
theorem zmQ{b:Bool}(I:Inv X pins σ H s)(e:H a=aa (.ins C dx fs))(c:Cls X.K C)(n:NoAttr X.K C f)(l:fs.lookup f=aa v)(h:∀u s',Inv X pins σ H s'->RelV v u->Q u s'):wpAny (ao X.prog X.w) A (getAttr (.ref a) f b) Q E s:=by
 obtain⟨mA,O,r,_,_,_⟩:=zib I.hok e;obtain⟨u,d,R⟩:=RelO.some_of (v:=v) (o:=mA f) (by rw[<- l];exact r f);exact zty I.kIn O (c.get f) c.hd n d (zo1 R) (h u _ (I.tok _) R)
theorem ze9{g:ac}{Q:ag×List ag->ak->Prop}(I:Inv X pins σ H s)(e:H a=aa (.ins C dx fs))(c:Cls X.K C)(k:Meth X.K C m g)(l:fs.lookup m=none)(h:Q (.ref g,[.ref a]) s):wpAny (ao X.prog X.w) A (getMethod (.ref a) m pl) Q E s:=by
 obtain⟨mA,O,r,_,_,_⟩:=zib I.hok e;have hn:mA m=none:=RelO.none_of (by rw[<- l];exact r m);exact zra I.kIn O (c.get m) k.at_ k.fn hn h
theorem zmf{Q:Unit->ak->Prop}(I:Inv X pins σ H s)(e:H a=aa (.ins C dx fs))(c:Cls X.K C)(n:NoAttr X.K C f)(hl:fs.length<1000)(R:RelV y u)(h:∀s',Inv X pins σ (upd H a (.ins C dx (zgN f y fs))) s'->Q () s'):wpAny (ao X.prog X.w) A (setAttr (.ref a) f u) Q E s:=by
 obtain⟨mA,O,r,w,_,i⟩:=zib I.hok e;have j:(fs.map (·.1)).length<=sizeLine:=by rw[yd,bo];omega
 refine zsp I.kIn O c.sa c.po n.taker c.hd w j fun h' d S=>h _ ?_;have hd:∃o,h'.get? dx=aa o:=let ⟨o,_,_,e',_⟩:=d.ns;⟨o,e'⟩;refine I.write (x:=a) (e:=dx) (by rw[e];exact True.intro) (.inr i) (fun b q l z=>(S.2 b l).trans z) hd ?_;refine⟨by rw[zax O.ne];exact i,?_,O.ne,d.obj,_,d.ns,fun g=>?_,fun g k=>?_⟩
 ·have:=zgf f y fs;omega
 ·show RelO ((zgN f y fs).lookup g) (if g=f then aa u else mA g);rw[zge];by_cases q:g=f
  ·rw[if_pos q,if_pos q];exact R
  ·rw[if_neg q,if_neg q];exact r g
 ·by_cases q:g=f
  ·rw[q];exact(zgg f y fs).1
  ·refine(zgg f y fs).2 g (w g fun z=>k ?_);show (if g=f then aa u else mA g)=none;rw[if_neg q];exact z
theorem Inv.made(I:Inv X pins σ H s):Inv X pins σ (upd (upd H s.heap.objs.size (.own (s.heap.objs.size+1))) (s.heap.objs.size+1) (.ins C s.heap.objs.size [])) { s with heap:=(s.heap.push yaC).push (yaM C s.heap.objs.size) }:=by
 have E:(s.heap.push yaC).get? s.heap.objs.size=aa yaC:=yw s.heap rfl;have f:((s.heap.push yaC).push (yaM C s.heap.objs.size)).get? (s.heap.objs.size+1)=aa (yaM C s.heap.objs.size):=by
  have:=yw (s.heap.push yaC) (o:=yaM C s.heap.objs.size) rfl
  rwa [yQ]at this
 have d:(s.heap.push yaC).Ns s.heap.objs.size (fun _=>none):=⟨yaC,#[],_,E,rfl,(fun e c=>absurd c (by simp)),fun _=>rfl⟩;have i:=I.laid (a:=s.heap.objs.size) (o := .own (s.heap.objs.size+1)) (h':=s.heap.push yaC) (t':=s.toks) (fun b u q=>ye _ q) (yb _) ⟨_,E⟩;refine i.laid (a:=s.heap.objs.size+1) (o := .ins C s.heap.objs.size []) (t':=s.toks) (fun b u q=>ye _ q) (ybp (yQ _ _)) ?_;have ne:s.heap.objs.size≠s.heap.objs.size+1:=yB (yaX _);refine⟨by rw[zax ne,zaF],yat _,ne,f,fun _=>none,(Heap.Ns1.of_empty d).at fun o q=>ye _ q,fun _=>True.intro,fun y h=>absurd rfl h⟩
theorem ztM{w:al}{env:aH}{e:am}{f:af}(H:bc e f env (eval e env)=eval e env)(h:wpAny (ao prog w) A (eval e env) (fun o S=>wpAny (ao prog w) A (getAttr o f ae) Q E S) E s):wpAny (ao prog w) A (eval (.Attribute e f pos) env) Q E s :=
 Attribute_any_ h (by rw[arm_eval_Attribute,H])
end
def tFld(K:ya)(t:TE)(f:af):TE:=fun σ H Q=>t σ H fun x H1=>∃a C dx fs v,x = .ref a/\H1 a=aa (.ins C dx fs)/\Cls K C/\NoAttr K C f/\fs.lookup f=aa v/\Q v H1
def sFld(K:ya)(T t:TE)(f:af):TS:=fun D σ H=>t σ H fun y H1=>T σ H1 fun x H2=>∃a C dx fs,x = .ref a/\H2 a=aa (.ins C dx fs)/\Cls K C/\NoAttr K C f/\fs.length<1000 ∧
 D.nx σ (upd H2 a (.ins C dx (zgN f y fs)))
section
variable{o e value:am}{f:af}{tpos:ax}{tv:TE}
theorem pe_fld(b:PE X e ta)(d:bc e f X.env (eval e X.env)=eval e X.env):PE X (.Attribute e f pos) (tFld X.K ta f):=by
 intro pins s σ H Q I h;refine ztM d (thn (b pins s σ H _ I h) ?_);rintro u s1 ⟨x,j,g,r,a,C,dx,fs,v,ex,E,c,n,l,q⟩;subst ex;obtain rfl:u=yn a:=r;exact zmQ g E c n l fun U s2 i R=>⟨v,j,i,R,q⟩
theorem ps_fld(ha:PE X o ta)(b:PE X value tv)(hs:aQ value (aa (.Attribute o f pos')) pos.line X.env=pure ai):PS X (.Assign [.Attribute o f pos'] value pos) (sFld X.K ta tv f):=by
 intro pins s σ H D I h;refine plainObj_wpAny_Assign_Attribute (thn (b pins s σ H _ I h) fun u s1 ⟨y,j,g,r,q⟩=>thn (ha pins s1 σ j _ g q) fun O s2 ⟨x,k,d,R,a,C,dx,fs,ex,e,c,n,l,Q⟩=>?_) hs;subst ex;obtain rfl:O=yn a:=R;exact zmf d e c n l r fun S i=>⟨σ,_,i,Q⟩
end
section
variable{c:ag}{b:Bool}
inductive TyOf(K:ya)(H:Hp):V->ag->Prop where
 |non:TyOf K H .non (.type "NoneType")
 |bl (x:Bool):TyOf K H (.bl x) (.type "bool")
 |int (i:Int):TyOf K H (.int i) (.type "int")
 |str (x:af):TyOf K H (.str x) (.type "str")
 |flt (x:UInt64):TyOf K H (.flt x) (.type "float")
 |lst {a:ac} {xs:List V} (e:H a=aa (.lst xs)):TyOf K H (.ref a) (.type "list")
 |frz {a:ac} {o:av} {xs:List V} (e:H a=aa (.frz o (.lst xs))):TyOf K H (.ref a) (.type "list")
 |tup {a:ac} {xs:List V} (e:H a=aa (.tup xs)):TyOf K H (.ref a) (.type "tuple")
 |dK {a:ac} {kvs:List (Key×V)} (e:H a=aa (.dK kvs)):TyOf K H (.ref a) (.type "dict")
 |dT {a:ac} {kvs:List (List Key×V)} (e:H a=aa (.dT kvs)):TyOf K H (.ref a) (.type "dict")
 |ins {a C dx:ac} {fs:List (af×V)} (e:H a=aa (.ins C dx fs)) (cl:Cls K C) (ha:yU K (.ref C) "__class__" = aa (aa (.builtin "object.__class__")))
   (hn:ydk K (.builtin "object.__class__") "__get__" = aa (aa (.builtin "getset_descriptor.__get__"))) (htk:ydl K (.builtin "object.__class__")=aa ae)
   (hm:ybq K C (.type "object")=aa ae):TyOf K H (.ref a) (.ref C)
theorem zgj{x:V}{t:ag}(I:Inv X pins σ H s)(r:RelV x u)(ty:TyOf X.K H x t)(e:yau X.K t c=aa b)(h:∀tk,Q (.bool b) { s with toks:=tk }) :
  wpAny (ao X.prog X.w) A (call (.builtin "isinstance") [u,c]) Q E s:=by
 cases ty with
 |non=>cases (show u=yab from r);exact yae ydm I.kIn True.intro e (fun z=>nomatch z) h|bl y=>cases (show u=ybm y from r);exact yae PySem.W.kitx_bool I.kIn True.intro e (fun z=>nomatch z) h|int i=>obtain⟨t,q⟩:=(show ∃t,u=ybk i t from r);cases q;exact yae PySem.W.kitx_int I.kIn True.intro e (fun z=>nomatch z) h
 |str y=>obtain⟨t,q⟩:=(show ∃t,u=ybl y t from r);cases q;exact yae PySem.W.kitx_str I.kIn True.intro e (fun z=>nomatch z) h
 |flt y=>obtain⟨t,q⟩:=(show ∃t,u=yce y t from r);cases q;exact yae PySem.W.kitx_float I.kIn True.intro e (fun z=>nomatch z) h
 |@lst a xs d=>
  cases (show u=yn a from r);obtain⟨_,_,n,_,f⟩:=(show ObjOk X.prog X.w H s.heap a (.lst xs) from I.hok a _ d);exact yae ydn I.kIn ⟨_,f,rfl⟩ e (fun z=>nomatch z) h
 |@frz a ob xs d=>
  cases (show u=yn a from r);obtain⟨_,_,_,n,_,f⟩:=(show ObjOk X.prog X.w H s.heap a (.frz ob (.lst xs)) from I.hok a _ d);exact yae ydn I.kIn ⟨_,f,rfl⟩ e (fun z=>nomatch z) h
 |@tup a xs d=>
  cases (show u=yn a from r);obtain⟨_,_,_,p,_⟩:=(show ObjOk X.prog X.w H s.heap a (.tup xs) from I.hok a _ d);obtain⟨o,f,g,_⟩:=p;exact yae ydo I.kIn ⟨o,f,g⟩ e (fun z=>nomatch z) h
 |@dK a kvs d=>
  cases (show u=yn a from r);obtain⟨_,_,vs,_,p⟩:=(show ObjOk X.prog X.w H s.heap a (.dK kvs) from I.hok a _ d);obtain⟨o,es,j,f,g,_⟩:=p;exact yae ydp I.kIn ⟨o,f,g.1⟩ e (fun z=>nomatch z) h
 |@dT a kvs d=>
  cases (show u=yn a from r);obtain⟨_,_,xs,_,o,es,j,f,g,_⟩:=(show ObjOk X.prog X.w H s.heap a (.dT kvs) from I.hok a _ d);exact yae ydp I.kIn ⟨o,f,g.1⟩ e (fun z=>nomatch z) h
 |@ins a C dx fs d cl ha hn htk hm=>
  cases (show u=yn a from r);obtain⟨mA,O,_⟩:=zib I.hok d;obtain⟨od,J,_⟩:=O.look;exact yae (PySem.W.kitx_own (cl.get _) cl.hd ha hn htk hm) I.kIn J e (fun z=>nomatch z) h
end
structure Room(k:Nat)(A:az):Prop where
 hd:A.handled=none
 dp:A.depth+3*k+5<recursionLimit
 un:A.units+16*k+200<aM
 gd:A.guards=aa []
theorem Room.mono{k:Nat}(r:Room k A)(h:j<=k):Room j A:=⟨r.hd,by have:=r.dp;omega,by have:=r.un;omega,r.gd⟩
theorem Room.deeper{k:Nat}(r:Room (k+1) A)(env:aH):Room k (A.deeper env) :=
 ⟨r.hd,by have:=r.dp;show A.depth+1+3*k+5<_;omega,by have:=r.un;show A.units+3+16*k+200<_;omega,r.gd⟩
theorem zmL:(A.under (.builtin "type.__call__" ⟨.ref C::us,kw⟩)).depth=A.depth+1:=by
 first | rfl | simp[ycr,Code.weight,Code.isCreation,Code.isGuard,Code.isCaller,Code.frames,Code.isFrame,guardIds]
theorem zmK:(A.under (.builtin "type.__call__" ⟨.ref C::us,kw⟩)).units=A.units+1:=by
 first | rfl | simp[ycr,Code.cUnits,Code.frames,Code.isFrame]
theorem Room.make{k:Nat}(r:Room (k+1) A)(C:ac)(us:List ag)(kw:List (af×ag)):Room k (A.under (.builtin "type.__call__" ⟨.ref C::us,kw⟩)) :=
 ⟨r.hd,by have:=r.dp;rw[zmL];omega,by have:=r.un;rw[zmK];omega,r.gd⟩
theorem Room.depth{k:Nat}(r:Room k A):A.depth<recursionLimit:=by have:=r.dp;omega
theorem Room.units{k:Nat}(r:Room k A):A.units+64<aM:=by have:=r.un;omega
def tNil:TA:=fun _ H Q=>Q [] H
def tCons(t:TE)(tr:TA):TA:=fun σ H Q=>t σ H fun x H1=>tr σ H1 fun xs H2=>Q (x::xs) H2
variable{t:TA}
section
variable{e:am}
theorem zda:PA X [] tNil:=fun _ _ _ _ H Q I h=>ycs ⟨[],H,I,.nil,h⟩
theorem za2(ha:PE X e te)(hr:PA X es t)(hs:autoParam (ap (e::es) X.env=(ai,eval e X.env)::ap es X.env) AutoP.a3._auto_1):PA X (e::es) (tCons te t):=by
 intro pos pins s σ H Q I h;rw[hs];show wpAny _ _ (spliced ((ai,eval e X.env)::aC pos (ap es X.env))) _ _ s;refine yct (thn (ha pins s σ H _ I h) ?_);rintro u s1 ⟨x,d,b,R,a⟩;refine thn (hr pos pins s1 σ d _ b a) ?_;rintro us s2 ⟨xs,c,i,r,q⟩;exact⟨x::xs,c,i,.cons R r,q⟩
def tTup(t:TA):TE:=fun σ H Q=>t σ H fun xs H1=>xs.length<=sizeLine/\∀p,H1 p=none->Q (.ref p) (upd H1 p (.tup xs))
def tLst(t:TA):TE:=fun σ H Q=>t σ H fun xs H1=>xs.length<=sizeLine/\∀p,H1 p=none->Q (.ref p) (upd H1 p (.lst xs))
theorem zrF {x1} (h:PA X es t):PE X (.Tuple es x1 pos) (tTup t):=by
 intro pins s σ H Q I c;refine wpAny_Tuple_spliced (thn (h pos pins s σ H _ I c) fun us s1 ⟨xs,a,i,r,z,q⟩=>⟨by rw[<- r.length];exact z,?_⟩);have d:a s1.heap.objs.size=none:=i.hok.fresh (yb _);refine⟨.ref s1.heap.objs.size,upd a s1.heap.objs.size (.tup xs),i.laid (t':=s1.toks) (fun b u e=>ye _ e) (yb _) ?_,rfl,q _ d⟩;exact⟨z,us,r,⟨_,yw _ rfl,rfl,_,rfl⟩,_,yw _ rfl,rfl⟩
theorem zrH(h:PA X es t):PE X (.List es pos) (tLst t):=by
 intro pins s σ H Q I c;refine wpAny_List_spliced (thn (h pos pins s σ H _ I c) fun us s1 ⟨xs,a,i,r,z,q⟩=>⟨by rw[<- r.length];exact z,?_⟩);have d:a s1.heap.objs.size=none:=i.hok.fresh (yb _);refine⟨.ref s1.heap.objs.size,upd a s1.heap.objs.size (.lst xs),i.laid (t':=s1.toks) (fun b u e=>ye _ e) (yb _) ?_,rfl,q _ d⟩;exact⟨z,us,0,r,yw _ rfl⟩
end
abbrev Sp:=List V->Hp->VK->XK->Prop
abbrev CXT:=List aH->Hp->ak->XK->ag->ak->Prop
structure Env0(P:ar)(w:al)(K:ya)(mg:af->Option ag)(base:au)(A:az)(outer:List aH)(s:ak)(H:Hp):Prop where
 frames:A.frames=aa outer
 mod:Mod K mg base
 bs:∀b o,base.get? b=aa o->s.heap.get? b=aa o/\H b=none
 bsz:base.objs.size<=s.heap.objs.size
 funs:s.heap.FunFrames base outer
 frf:∀b∈frs outer,H b=none
 hok:HOk P w H s.heap
 bare:aU s.gens
def CE(outer:List aH)(P:ar)(w:al)(H:Hp)(s:ak)(Q:VK)(u:ag)(s':ak):Prop :=
 ∃v H',s'.os=s.os/\aU s'.gens/\Un (frs outer) [] H H' s.heap s'.heap/\HOk P w H' s'.heap/\RelV v u/\Q v H'
def CR(CX:CXT)(outer:List aH)(P:ar)(w:al)(H:Hp)(s:ak)(Q:VK)(E:XK)(r:bB)(s':ak):Prop :=
 match r with
 |.ok (.ret u)=>CE outer P w H s Q u s'|.ok _=>False|.error e=>CX outer H s E e s'
structure FnOk(P:ar)(w:al)(K:ya)(mg:af->Option ag)(base:au)(CX:CXT)(k:Nat)(f:ac)(fd:aJ)(ps:List af)(sp:Sp):Prop where
 len:∀vs H Q E,sp vs H Q E->vs.length=ps.length
 run:∀(A:az)(outer:List aH)(s:ak)(H:Hp)(args:Args)(us:List ag)(vs:List V)(Q:VK)(E:XK),Room k A->Env0 P w K mg base A outer s H->bD s fd args (ps.zip us)->Vals vs us->sp vs H Q E →
  codeAny (ao P w) A (.call (.ref f) args) (CR CX outer P w H s Q E) s
variable{mg:af->Option ag}{base:au}{CX:CXT}{fd:aJ}{ps:List af}{sp:Sp}
theorem FnOk.imp{w:al}{k:Nat}{f:ac}{S:Sp}(F:FnOk P w K mg base CX k f fd ps sp)(h:∀vs H Q E,S vs H Q E->sp vs H Q E):FnOk P w K mg base CX k f fd ps S :=
 ⟨fun vs H Q E q=>F.len vs H Q E (h _ _ _ _ q),fun A outer s H args us vs Q E hr b c a hs=>F.run A outer s H args us vs Q E hr b c a (h _ _ _ _ hs)⟩
variable{outer:List aH}
theorem Env0.make{w:al}(e:Env0 P w K mg base A outer s H)(C:ac)(us:List ag)(kw:List (af×ag)) :
  Env0 P w K mg base (A.under (.builtin "type.__call__" ⟨.ref C::us,kw⟩)) outer s H:=⟨by first | exact e.frames | (simpa [ycr,Code.envs,Code.isFrame,pushEnvs] using e.frames),e.mod,e.bs,e.bsz,e.funs,e.frf,e.hok,e.bare⟩
section
theorem Inv.env0(I:Inv X pins σ H s):Env0 X.prog X.w X.K X.mg X.base X.A X.stack s H :=
 ⟨I.ok.frames,I.ok.mod,I.bs,yM I.ok.bsz I.sz,I.stack,I.stkFree,I.hok,I.bare⟩
theorem Inv.after{Q:VK}(I:Inv X pins σ H s)(h:CE X.stack X.prog X.w H s Q u s'):EP X pins σ Q u s':=by
 obtain⟨v,H',os,bare,un,hok,r,q⟩:=h;obtain⟨a,g,d,t,o⟩:=s';obtain rfl:o=s.os:=os;exact⟨v,H',I.call (h':=a) (g':=g) (d':=d) (t':=t) (ch:=[]) un hok bare (fun b z=>absurd z (by simp)),r,q⟩
end
def tCall(sp:Sp)(d:List V)(E:XK)(t:TA):TE:=fun σ H Q=>t σ H fun vs H1=>sp (vs++d) H1 Q E
def tMeth(C:ac)(m:af)(sp:Sp)(d:List V)(E:XK)(T:TE)(t:TA):TE:=fun σ H Q=>T σ H fun x H1=>∃a dx fs,x = .ref a/\H1 a=aa (.ins C dx fs)/\fs.lookup m=none ∧
 t σ H1 fun vs H2=>sp (x::(vs++d)) H2 Q E
def tMake(C:ac)(sp:Sp)(d:List V)(E:XK)(t:TA):TE:=fun σ H Q=>t σ H fun vs H1=>∀x dx,H1 x=none->H1 dx=none->dx≠x →
 sp (.ref x::(vs++d)) (upd (upd H1 dx (.own x)) x (.ins C dx [])) (fun v H2=>v = .non/\Q (.ref x) H2) E
def Binds(K:ya)(fd:aJ)(ps:List af)(ds:List ag):Prop :=
 ∀(s:ak)(us:List ag),K.In s.heap->(us++ds).length=ps.length->bD s fd ⟨us,[]⟩ (ps.zip (us++ds))
theorem Binds.all(h:∀us:List ag,us.length=ps.length->bindArgs fd ⟨us,[]⟩=pure (ps.zip us)):Binds K fd ps []:=fun s us _ hl=>by
 rw[yaf]at hl ⊢;exact .of_eq (h us hl)
def zgH(CX:CXT)(X:Cx)(E:XK):Prop:=∀(pins:List (ac×av))(σ : St)(H:Hp)(s:ak)(e:ag)(s':ak),Inv X pins σ H s->CX X.stack H s E e s'->X.xe e s'
variable{vs:List V}
section
variable{k:Nat}{f:ac}{dvs:List V}{ds:List ag}{E:XK}{apos:ax}{e o:am}
theorem znG{Q:VK}(F:FnOk X.prog X.w X.K X.mg X.base CX k f fd ps sp)(hr:Room k X.A)(c:Binds X.K fd ps ds)(hd:Vals dvs ds)(b:zgH CX X E)(I:Inv X pins σ H s)(r:Vals vs us)(h:sp (vs++dvs) H Q E):wpAny (ao X.prog X.w) X.A (call (.ref f) us) (EP X pins σ Q) X.xe s:=by
 have R:Vals (vs++dvs) (us++ds):=r.append hd;have hl:(us++ds).length=ps.length:=by rw[<- R.length];exact F.len _ _ _ _ h
 refine bX (bO (F.run X.A X.stack s H ⟨us,[]⟩ (us++ds) (vs++dvs) Q E hr I.env0 (c s us I.kIn hl) R h) fun r s' a=>?_);cases r with
 |error e=>exact b pins σ H s e s' I a|ok d=>
  cases d with
  |ret u=>exact I.after a|next=>exact False.elim a|brk=>exact False.elim a|cont=>exact False.elim a
theorem zs3(F:FnOk X.prog X.w X.K X.mg X.base CX k f fd ps sp)(hr:Room k X.A)(g:Gl X x)(hm:X.mg x=aa (.ref f))(d:yaD X.K (.ref f)=ae)(l:Binds X.K fd ps ds)(hd:Vals dvs ds)(c:zgH CX X E)(ha:PA X (e::es) t)(b:autoParam ((x==("__debug__" : af))=ai) AutoP.a1._auto_1)(j:autoParam (ap (e::es) X.env=(ai,eval e X.env)::ap es X.env) AutoP.a3._auto_1)(a:autoParam ((aC pos (ap es X.env)).any (·.1)=ai) AutoP.a3._auto_1) : PE X (.Call (.Name x p) (e::es) [] pos) (tCall sp dvs E t):=by
 intro pins s σ H Q I h;refine bE (ze6 I g hm ?_ b);refine ybr (h₀ := X.base) I.ok.mod.kin d (thn (ha pos pins s σ H _ I h) fun us s1 ⟨vs,m,i,r,q⟩=>⟨i.kIn,?_⟩) j a;exact znG F hr l hd c i r q
theorem zsZ(v:PE X o ta)(c:Cls X.K C)(hm:Meth X.K C m f)(F:FnOk X.prog X.w X.K X.mg X.base CX k f fd ps sp)(hr:Room k X.A)(w:Binds X.K fd ps ds)(hd:Vals dvs ds)(n:zgH CX X E)(ha:PA X (e::es) t)
  (b:autoParam (ap (e::es) X.env=(ai,eval e X.env)::ap es X.env) AutoP.a3._auto_1) (d:autoParam ((aC pos (ap es X.env)).any (·.1)=ai) AutoP.a3._auto_1)
  (p:autoParam (eval (.Call (.Attribute o m apos) (e::es) [] pos) X.env=(do
   let O <- eval o X.env
   bv apos.atName
   let (f,first) <- holding [O] (getMethod O m pl)
   bY pos f first (aC pos (ap (e::es) X.env)) (bd pos (be [] X.env)))) AutoP.a3._auto_1) :
  PE X (.Call (.Attribute o m apos) (e::es) [] pos) (tMeth C m sp dvs E ta t):=by
 intro pins s σ H Q I h
 refine ycu (pl:=pl) (thn (v pins s σ H _ I h) fun u s1 ⟨x,z,g,R,a,dx,fs,ex,y,l,q⟩=>?_) p
 subst ex
 obtain rfl:u=yn a:=R
 refine ze9 g y c hm l ?_
 refine ybr (first:=[.ref a]) (h₀ := X.base) I.ok.mod.kin hm.kp (thn (ha pos pins s1 σ z _ g q) fun us s2 ⟨vs,A,i,r,j⟩=>⟨i.kIn,?_⟩) b d
 exact znG (us := .ref a::us) (vs := .ref a::vs) F hr w hd n i (.cons rfl r) j
theorem zqF(e:PE X o ta)(c:Cls X.K C)(hm:Meth X.K C m f)(F:FnOk X.prog X.w X.K X.mg X.base CX k f fd ps sp)(hr:Room k X.A)(g:Binds X.K fd ps ds)(hd:Vals dvs ds)(b:zgH CX X E)
  (d:autoParam (eval (.Call (.Attribute o m apos) [] [] pos) X.env=(do
   let O <- eval o X.env
   bv apos.atName
   let (f,first) <- holding [O] (getMethod O m pl)
   bY pos f first (aC pos (ap [] X.env)) (bd pos (be [] X.env)))) AutoP.a3._auto_1) :
  PE X (.Call (.Attribute o m apos) [] [] pos) (tMeth C m sp dvs E ta tNil):=by
 intro pins s σ H Q I h
 refine ycu (pl:=pl) (thn (e pins s σ H _ I h) fun u s1 ⟨x,n,i,r,a,dx,fs,ex,j,l,q⟩=>?_) d
 subst ex
 obtain rfl:u=yn a:=r
 refine ze9 i j c hm l ?_
 exact PySem.W.callWith_K0 (first:=[.ref a]) i.kIn hm.kp (znG (us:=[.ref a]) (vs:=[.ref a]) F hr g hd b i (.cons rfl .nil) q)
structure Mk(K:ya)(C f:ac):Prop where
 makes:ycp K C=ae
 init:yU K (.ref C) "__init__" = aa (aa (.ref f))
 fn:yad K (.ref f)=ae
 kp:yaD K (.ref C)=ae
theorem zqo{Q:VK}(M:Mk X.K C f)(F:FnOk X.prog X.w X.K X.mg X.base CX k f fd ps sp)(hr:Room (k+1) X.A)(g:Binds X.K fd ps ds)(hd:Vals dvs ds)(d:zgH CX X E)(I:Inv X pins σ H s)(r:Vals vs us)(h:∀x dx,H x=none->H dx=none->dx≠x->sp (.ref x::(vs++dvs)) (upd (upd H dx (.own x)) x (.ins C dx [])) (fun v H2=>v = .non/\Q (.ref x) H2) E) : wpAny (ao X.prog X.w) X.A (call (.ref C) us) (EP X pins σ Q) X.xe s:=by
 have b:=h (s.heap.objs.size+1) s.heap.objs.size (I.hok.fresh (ybb _)) (I.hok.fresh (yb _)) (yB (yaX _));have i:=Inv.made (C:=C) I;have R:Vals (V.ref (s.heap.objs.size+1)::(vs++dvs)) (yn (s.heap.objs.size+1)::(us++ds)) := .cons rfl (r.append hd);have hl:(yn (s.heap.objs.size+1)::us++ds).length=ps.length:=by
  have e:=R.length;rw[F.len _ _ _ _ b]at e;exact e.symm
 refine bX (zqT (f:=f) I.kIn M.makes M.init (beq_iff_eq.mp M.fn) (bO (F.run _ X.stack _ _ ⟨yn (s.heap.objs.size+1)::us,[]⟩ (yn (s.heap.objs.size+1)::(us++ds)) _ _ E (hr.make C us [])
  (i.env0.make C us []) (g _ (yn (s.heap.objs.size+1)::us) i.kIn hl) R b) fun r s' a=>?_))
 cases r with
 |error e=>exact d pins σ _ _ e s' i a|ok j=>
  cases j with
  |ret u=>
   obtain⟨v,H',m,c,l,q⟩:=i.after a;subst l;exact⟨c,⟨V.ref (s.heap.objs.size+1),H',m,rfl,q⟩⟩
  |next=>exact False.elim a|brk=>exact False.elim a|cont=>exact False.elim a
theorem zs0(M:Mk X.K C f)(F:FnOk X.prog X.w X.K X.mg X.base CX k f fd ps sp)(hr:Room (k+1) X.A)(d:Gl X x)(hm:X.mg x=aa (.ref C))(j:Binds X.K fd ps ds)(hd:Vals dvs ds)(c:zgH CX X E)(ha:PA X (e::es) t)(b:autoParam ((x==("__debug__" : af))=ai) AutoP.a1._auto_1)(g:autoParam (ap (e::es) X.env=(ai,eval e X.env)::ap es X.env) AutoP.a3._auto_1)(a:autoParam ((aC pos (ap es X.env)).any (·.1)=ai) AutoP.a3._auto_1) : PE X (.Call (.Name x p) (e::es) [] pos) (tMake C sp dvs E t):=by
 intro pins s σ H Q I h;refine bE (ze6 I d hm ?_ b);refine ybr (h₀ := X.base) I.ok.mod.kin M.kp (thn (ha pos pins s σ H _ I h) fun us s1 ⟨vs,l,i,r,q⟩=>⟨i.kIn,?_⟩) g a;exact zqo M F hr j hd c i r q
end
structure FnScope(N P:List af)(sc:aO):Prop where
 kind:sc.kind = .function
 co:sc.isCoroutine=ai
 gen:sc.isGenerator=ai
 nd:N.Nodup
 pre:N.take P.length=P
 par:∀x∈P,sc.names.lookup x=aa .local∨sc.names.lookup x=aa .cell
 nofree:∀y∈sc.names,y.2 ≠ .free
theorem zjK{kindOf:af->Option bG}{x:af}:∀{binds:List (af×ag)}{m:af->Option ag},(∀v,(x,v)∉binds)->bindL kindOf binds m x=m x
 |[],_,_=>rfl| (n,v)::r,m,h=>by
  unfold bindL;rw[zjK fun w H=>h w (yY _ H)];split
  ·have:x≠n:=by rintro rfl;exact h v yaN
   simp[this]
  ·rfl
theorem zjM{kindOf:af->Option bG}{x:af}:∀{binds:List (af×ag)}{m:af->Option ag},(∀v,(x,v)∉binds)->bindC kindOf binds m x=m x
 |[],_,_=>rfl| (n,v)::r,m,h=>by
  unfold bindC;rw[zjM fun w H=>h w (yY _ H)];split
  ·rfl
  ·have:x≠n:=by rintro rfl;exact h v yaN
   simp[this]
theorem zjL{kindOf:af->Option bG}{x:af}{v:ag}:∀{P:List af}{vs:List ag}{i:Nat}{m:af->Option ag},P.Nodup->P[i]?=aa x->vs[i]?=aa v->kindOf x=aa .local →
  bindL kindOf (P.zip vs) m x=aa v
 |[],_,_,_,_,h,_,_=>by simp at h|_::_,[],_,_,_,_,h,_=>by simp at h|p::P,w::vs,0,m,nd,h1,h2,H=>by
  simp at h1 h2;subst h1;subst h2;show bindL kindOf ((p,w)::P.zip vs) m p=_;unfold bindL;rw[zjK fun v a=>(ybN.mp nd).1 (ycv a).1,if_pos H];simp
 |p::P,w::vs,i+1,m,nd,h1,h2,H=>by
  show bindL kindOf ((p,w)::P.zip vs) m x=_;unfold bindL;exact zjL (i:=i) (ybN.mp nd).2 (by simpa using h1) (by simpa using h2) H
theorem zjN{kindOf:af->Option bG}{x:af}{v:ag}:∀{P:List af}{vs:List ag}{i:Nat}{m:af->Option ag},P.Nodup->P[i]?=aa x->vs[i]?=aa v->kindOf x≠aa .local →
  bindC kindOf (P.zip vs) m x=aa v
 |[],_,_,_,_,h,_,_=>by simp at h|_::_,[],_,_,_,_,h,_=>by simp at h|p::P,w::vs,0,m,nd,h1,h2,H=>by
  simp at h1 h2;subst h1;subst h2;show bindC kindOf ((p,w)::P.zip vs) m p=_;unfold bindC;rw[zjM fun v a=>(ybN.mp nd).1 (ycv a).1,if_neg H];simp
 |p::P,w::vs,i+1,m,nd,h1,h2,H=>by
  show bindC kindOf ((p,w)::P.zip vs) m x=_;unfold bindC;exact zjN (i:=i) (ybN.mp nd).2 (by simpa using h1) (by simpa using h2) H
def start(N:List af)(vs:List V):St:=vs.map aa++yp (N.length-vs.length) none
def zkN(CX:CXT)(P:ar)(w:al)(K:ya)(mg:af->Option ag)(base:au)(N:List af)(qual:af)(scope:aO)(f:ac)(c:ag)(A:az)(outer:List aH)(s:ak)(H:Hp)(E:XK):Cx where
 prog:=P
 w:=w
 K:=K
 mg:=mg
 base:=base
 A:=A.deeper (aN qual scope s.heap.objs.size f c)
 N:=N
 s₀ := s
 H₀ := H
 env:=aN qual scope s.heap.objs.size f c
 outer:=outer
 stack:=aN qual scope s.heap.objs.size f c::outer
 ex:=[]
 calm:=ae
 fn:=fun _=>ae
 pn:=[]
 xe:=fun e s'=>wpAny (ao P w) (A.deeper (aN qual scope s.heap.objs.size f c)) (leaving (aN qual scope s.heap.objs.size f c) e) (fun _ S=>CX outer H s E e S) (fun a S=>CX outer H s E a S) s'
theorem zlZ{sc:aO}(h:sc.names.lookup x=aa .cell):∃c,(cellsFrom n sc.names []).lookup x=aa c:=by
 have q:=ydq sc.names n [] (.inl h);exact ycw.mp q
variable{qual:af}{scope:aO}
theorem zoX{w:al}{f:ac}{C:ag}{s1:ak}{E:XK}(S:FnScope N ps scope)(hd:A.handled=none)(g:Env0 P w K mg base A outer s H)(hl:vs.length=ps.length)(r:Vals vs us)(x:InCallC s s.heap.objs.size (bindL (aN qual scope s.heap.objs.size f C).kindOf (ps.zip us) fun _=>none) (cellsFrom (s.heap.objs.size+1) scope.names []) (bindC (aN qual scope s.heap.objs.size f C).kindOf (ps.zip us) fun _=>none) s1) : Inv (zkN CX P w K mg base N qual scope f C A outer s H E) [] (start N vs) H s1:=by
 have F:ps.length<=N.length:=by have:=congrArg yaY S.pre;rw[yaE]at this;omega
 obtain⟨t,T,rfl,D⟩:=x.done;have j:∀b:ac,b∉(zkN CX P w K mg base N qual scope f C A outer s H E).ex:=fun b z=>absurd (show b∈([]:List ac) from z) (by simp);refine⟨⟨g.mod,S.kind,rfl,rfl,yb _,fun y z c t d=>?_,fun y l=>?_,fun y c _ h=>?_,fun _=>hd,Around.frames_deeper g.frames,.inr ⟨rfl,rfl⟩,fun b z=>absurd z (j b),g.bs,g.bsz,fun b _ _=>j b,fun b z=>absurd z (j b),g.funs,g.frf⟩,
  rfl,g.bare,Un.kept D,⟨_,x.toInCall.ns,fun i y v t d G=>?_⟩,fun y c h=>⟨_,x.cell y c h⟩,g.hok.fresh (yb _),fun y c h=>?_,fun p o=>absurd (show p∈([]:List (ac×av)) from o) (by simp),g.hok.kept D,?_⟩
 ·exact name_of_addr x.apart (ybs t) (ybs d)
 ·have l:scope.names.lookup y=aa .cell∨scope.names.lookup y=aa .free:=l;rcases l with l|l
  ·exact zlZ l
  ·exact absurd rfl (S.nofree _ (ybs l))
 ·exact yam (x.above y c (ybs h))
 ·have hi:i<vs.length:=by
   unfold start at d;by_cases hi:i<vs.length
   ·exact hi
   ·rw[yaF (by simpa using hi)]at d;rw[ycx]at d;split at d <;> cases d
  have ha:vs[i]?=aa v:=by
   unfold start at d;rw[yO (by simpa using hi),yI]at d;cases e:vs[i]? with
   |none=>rw[e]at d;cases d|some a=>rw[e]at d;cases d;rfl
  obtain⟨u,B,R⟩:=r.get ha;have o:ps[i]?=aa y:=by
   rw[<- S.pre,ydr (by omega)];exact t
  have m:ps.Nodup:=by rw[<- S.pre];exact S.nd.sublist (List.take_sublist _ _)
  refine⟨u,R,?_⟩;rcases S.par y (yW o) with k|k
  ·exact .inl ⟨k,zjL m o B k⟩
  ·obtain⟨c,e⟩:=zlZ (n:=s.heap.objs.size+1) k;refine .inr ⟨.inl k,c,e,?_⟩;have q:=x.cell y c e;rw[zjN m o B (by show scope.names.lookup y≠_;rw[k];decide)]at q;exact q
 ·exact g.hok.fresh (yam (x.above y c (ybs h)))
 ·unfold start;show _=N.length;rw[yD,yd,ybt];omega
theorem fn_of{w:al}{k:Nat}{f:ac}{p:Arguments}{D kV doc pm cdv ct oc:ag}{an od:Option ac}
  {osl:Array (Option ag)} (L:K.lookup f=aa ⟨oc,od,.func (ybc name qual p body scope D kV doc pm an cdv ct),osl⟩) (i:ycy K cdv qual=ae) (S:FnScope N ps scope)
  (len:∀vs H Q E,sp vs H Q E->vs.length=ps.length)
  (c:∀(A:az)(outer:List aH)(s:ak)(H:Hp)(vs:List V)(Q:VK)(E:XK),Room k (A.deeper (aN qual scope s.heap.objs.size f cdv))->sp vs H Q E →
   ∃t,PSs (zkN CX P w K mg base N qual scope f cdv A outer s H E) body t/\t { nx:=fun _ H'=>Q .non H',rt:=Q } (start N vs) H) :
  FnOk P w K mg base CX (k+1) f (ybc name qual p body scope D kV doc pm an cdv ct) ps sp:=by
 refine⟨len,fun A outer s H args us vs Q E hr g G r d=>?_⟩;have hl:=len _ _ _ _ d;have j:K.In s.heap:=g.mod.kin.keeps fun b o e=>(g.bs b o e).1;have l:s.heap.NoLimit:=g.mod.nolimit.keeps fun b o e=>(g.bs b o e).1;have h:∀y∈ps.zip us,scope.names.lookup y.1=aa .local∨(scope.names.lookup y.1=aa .cell/\((cellsFrom (s.heap.objs.size+1) scope.names []).lookup y.1).isSome=ae):=fun⟨n,v⟩ m=>by
  rcases S.par n (ycv m).1 with q|q
  ·exact .inl q
  ·exact .inr ⟨q,ydq _ _ _ (.inl q)⟩
 refine codeAny_call_function hr.depth (j _ _ L) rfl S.co S.gen rfl (PySem.W.codeRec_of j i) (G _ _ _ _ ?_);refine wpAny_newFunctionEnv_cells S.kind h fun env C s1 x=>?_;subst C;refine⟨l.keeps x.toInCall.keep,codeAny_func ?_⟩;obtain⟨t,z,B⟩:=c A outer s H vs Q E (hr.deeper _) d;have I:Inv (zkN CX P w K mg base N qual scope f cdv A outer s H E) [] (start N vs) H s1:=zoX S hr.hd g hl r x;refine aA (z [] s1 (start N vs) H _ I B) (fun M s' hs=>?_) fun e s' hs=>hs;have F:∀{a:St}{H':Hp}{v:V}{u:ag},Inv (zkN CX P w K mg base N qual scope f cdv A outer s H E) [] a H' s'->RelV v u->Q v H'->CE outer P w H s Q u s' :=
  fun {a H' v u} J R q=>⟨v,H',J.os,J.bare,J.base,J.hok,R,q⟩
 cases M with
 |ret u=>
  obtain⟨v,a,H',J,R,q⟩:=hs;exact F J R q
 |next=>
  obtain⟨a,H',J,q⟩:=hs;exact F (v:=V.non) (u:=yab) J rfl q
 |brk=>
  obtain⟨_,_,_,q⟩:=hs;exact False.elim q
 |cont=>
  obtain⟨_,_,_,q⟩:=hs;exact False.elim q
section
variable{e:am}{id T:String}{r:List V->Hp->VK->Prop}
def tCB(r:List V->Hp->VK->Prop)(t:TA):TE:=fun σ H Q=>t σ H fun vs H1=>r vs H1 Q
theorem zeq(g:CallR X (.builtin id) r)(d:Gl X x)(hm:X.mg x=none)(c:aT x=aa (.builtin id))(ha:PA X (e::es) t)(hn:autoParam (x ≠ "__name__") AutoP.a1._auto_1)(b:autoParam ((x==("__debug__" : af))=ai) AutoP.a1._auto_1)(f:autoParam (ap (e::es) X.env=(ai,eval e X.env)::ap es X.env) AutoP.a3._auto_1)(a:autoParam ((aC pos (ap es X.env)).any (·.1)=ai) AutoP.a3._auto_1):PE X (.Call (.Name x p) (e::es) [] pos) (tCB r t):=by
 intro pins s σ H Q I h;refine bE (zcJ I d hm c ?_ hn b);exact PyProof.Rows.callWith_builtin1 (thn (ha pos pins s σ H _ I h) fun us s1 ⟨vs,j,i,R,q⟩=>g pins s1 σ j vs us Q i R q) f a
theorem ziN(g:CallR X (.type T) r)(d:Gl X x)(hm:X.mg x=none)(c:aT x=aa (.type T))(ha:PA X (e::es) t)(hn:autoParam (x ≠ "__name__") AutoP.a1._auto_1)(b:autoParam ((x==("__debug__" : af))=ai) AutoP.a1._auto_1)(f:autoParam (ap (e::es) X.env=(ai,eval e X.env)::ap es X.env) AutoP.a3._auto_1)(a:autoParam ((aC pos (ap es X.env)).any (·.1)=ai) AutoP.a3._auto_1):PE X (.Call (.Name x p) (e::es) [] pos) (tCB r t):=by
 intro pins s σ H Q I h;refine bE (zcJ I d hm c ?_ hn b);exact PyProof.Rows.callWith_type1 (thn (ha pos pins s σ H _ I h) fun us s1 ⟨vs,j,i,R,q⟩=>g pins s1 σ j vs us Q i R q) f a
end
end L2
namespace HT
open PySem PyProof.Rows
section
open PySem.SeqAt
open PySem.AutoSeq1 (wpAny_loadPart')
open PySem.MeetsSeq PySem.MeetsSeq2 PySem.MeetsSeq3
end
variable{t:ac}{Q:ag->ak->Prop}{sl:ac}{vl vu:ag}{hi:Option Int}
section
variable{prog:ar}{w:al}{A:az}{E:ag->ak->Prop}{s:ak}
theorem cat_tup{b:ac}{vs ws:List ag}(j:IsTup s.heap t vs.toArray)(k:IsTup s.heap b ws.toArray)(g:vs≠[])
  (m:ws=[]->Q (.ref t) s) (l:ws≠[]->Q (.ref s.heap.objs.size) { s with heap:=s.heap.push { cls := .type "tuple", data := .seq (vs++ws).toArray } })
  (hsz:vs.length+ws.length<=sizeLine):wpAny (ao prog w) A (aL .Add (.ref t) (.ref b)) Q E s:=by
 obtain⟨⟨cls,dd,data,sl⟩,f,i,n,hd⟩:=id j;obtain⟨⟨C,d,data2,S⟩,h,a,N,H⟩:=id k;simp only at i hd a H;subst i hd a H;have e:vs.toArray++ws.toArray=(vs++ws).toArray:=by simp
 by_cases c:ws=[]
 ·exact concat_meets ⟨_,f,rfl⟩ ⟨_,h,rfl⟩ cy cA ycz ycA (ycB _ _)
   (tuple_addW1 t b vs.toArray ws.toArray n N dd d sl S (by simpa using g) (by simp[c])) ⟨f,h,m c⟩
 ·refine concat_meets ⟨_,f,rfl⟩ ⟨_,h,rfl⟩ cy cA ycz ycA (ycB _ _)
   (tuple_addW2 t b vs.toArray ws.toArray n N dd d sl S (by simpa using g) (by simpa using c) (by rw[yG,yG];exact hsz)) ⟨f,h,?_⟩
  rw[e];exact l c
def sIx(n d:Nat):Option Int->Nat
 |none=>d|some v=>if v<0 then (v+(n:Int)).toNat else min v.toNat n
theorem sIx_le(n d:Nat)(hd:d<=n)(o:Option Int):sIx n d o<=n:=by
 cases o with
 |none=>exact hd|some v=>
  show (if v<0 then (v+(n:Int)).toNat else min v.toNat n)<=n;by_cases h:v<0
  ·rw[if_pos h];omega
  ·rw[if_neg h];exact Nat.min_le_right _ _
theorem zpB(v:Int)(n d:Nat):(if v<0 then max (v+(n:Int)) 0 else min v (n:Int))=((sIx n d (aa v):Nat):Int):=by
 show (if v<0 then max (v+(n:Int)) 0 else min v (n:Int))=(((if v<0 then (v+(n:Int)).toNat else min v.toNat n):Nat):Int);by_cases h:v<0
 ·simp only[if_pos h];omega
 ·simp only[if_neg h];omega
theorem zmZ(lo hi:Option Int)(n:Nat):ycC lo hi 1 (n:Int)=(((sIx n 0 lo:Nat):Int),((sIx n n hi:Nat):Int)):=by
 have h : ¬ ((1:Int)<0):=by omega
 unfold ycC;simp only[h,if_false];refine Prod.ext ?_ ?_
 ·cases lo with
  |none=>rfl|some v=>exact zpB v n 0
 ·cases hi with
  |none=>rfl|some v=>exact zpB v n n
theorem zmk(i j:Nat):ybO (i:Int) (j:Int) 1=j-i:=by
 unfold ybO;have h:(1:Int)>0:=by omega
 simp only[h,if_true,ycD];split <;> omega
theorem zg1{v:ag}{o:Option Int}{Q:Option Int->ak->Prop}(p:bf v o)(h:Q o s):wpAny (ao prog w) A (Builtin.Slice.slicePartIndex v) Q E s:=by
 cases p with
 |none=>exact slicePart_none h|int i t=>exact slicePart_int h
theorem zft{lo:Option Int}{n:Nat}{Q:Int×Int×Nat->ak->Prop}(hs:s.heap.IsSliceOf sl vl vu .none)(pl:bf vl lo)(pu:bf vu hi)(h:Q (((sIx n 0 lo:Nat):Int),1,sIx n n hi-sIx n 0 lo) s):wpAny (ao prog w) A (yds (.ref sl) (pure (n:Int))) Q E s:=by
 obtain⟨os,H,b,a⟩:=id hs;unfold yds Builtin.Slice.sliceFields;refine aj (aj (aE H a (x:=vl) rfl (aj (aE H a (x:=vu) rfl (aj (aE H a (x := .none) rfl (aw ?_)))))));refine aj (slicePart_none ?_);show wpAny _ _ (if ((1:Int)==0)=ae then _ else _) _ _ s;rw[if_neg (by decide)];refine aj (zg1 pl (aj (zg1 pu (aj (aw ?_)))));show wpAny _ _ (match ycC lo hi 1 (n:Int) with | (lo,hi)=>pure (lo,(1:Int),ybO lo hi 1)) _ _ s;rw[zmZ lo hi n];show wpAny _ _ (pure (((sIx n 0 lo:Nat):Int),(1:Int),ybO ((sIx n 0 lo:Nat):Int) ((sIx n n hi:Nat):Int) 1)) _ _ s;rw[zmk];exact aw h
theorem zqA(xs:Array ag)(i k:Nat):((yC k).filterMap fun(m:Nat)=>xs[((i:Int)+(m:Int)*1).toNat]?).toArray=((xs.toList.drop i).take k).toArray:=by
 have e:(fun(m:Nat)=>xs[((i:Int)+(m:Int)*1).toNat]?)=fun m=>xs[i+m]?:=by
  funext m;have:((i:Int)+(m:Int)*1).toNat=i+m:=by omega
  rw[this]
 rw[e];have:=pick_run xs i k;rw[List.filterMap_map]at this;have E:((fun x=>xs[x]?)∘fun x=>i+x)=fun m=>xs[i+m]?:=rfl;rw[E]at this;rw[this]
theorem getItem_tuple_cut{items:Array ag}{lo:Option Int}(a:IsTup s.heap t items)(hs:s.heap.IsSliceOf sl vl vu .none)(pl:bf vl lo)(pu:bf vu hi)
  (f : ¬ (sIx items.size 0 lo=0/\sIx items.size items.size hi=items.size))
  (h:Q (.ref s.heap.objs.size) { s with heap:=s.heap.push { cls := .type "tuple", data := .seq ((items.toList.drop (sIx items.size 0 lo)).take (sIx items.size items.size hi-sIx items.size 0 lo)).toArray } })
  (hsz:items.size<=sizeLine):wpAny (ao prog w) A (bP (.ref t) (.ref sl)) Q E s:=by
 have H:sizeOk (.seq ((items.toList.drop (sIx items.size 0 lo)).take (sIx items.size items.size hi-sIx items.size 0 lo)).toArray):=by
  show ((items.toList.drop (sIx items.size 0 lo)).take (sIx items.size items.size hi-sIx items.size 0 lo)).toArray.size<=sizeLine;rw[yG,yaE,ycE,yci];omega
 have k:sIx items.size items.size hi<=items.size:=sIx_le _ _ (yb _) hi;obtain⟨os,b,d,g⟩:=id hs;have e:s.TypeIs (.ref sl) "slice" := ⟨os,b,d⟩;unfold bP;try with_reducible refine ci ?_
 first | refine aj (aw ?_) | skip
 refine aj (wpAny_sequenceKey a.typeIs (by decide) ?_);refine aj (bH (name:=yE "__getitem__") a.typeIs PyProof.Rows.slot_tuple_getitem
  (bp PyProof.Rows.slot_tuple_getitem a.typeIs entry_tuple_getitem ?_ (args_tuple_getitem _ _)))
 show wpAny _ _ (ydt (.ref t) >>= _) _ _ s;refine aj (tupleItemsOf_ a ?_);refine aj (wpAny_typeOf e ?_);rw[if_pos (by decide)];refine aj (zft hs pl pu ?_);have c : ¬ ((((sIx items.size 0 lo:Nat):Int)==0&&(1:Int)==1&&(sIx items.size items.size hi-sIx items.size 0 lo)==items.size)=ae):=by
  intro q;rw[yL,yL]at q;have j:((sIx items.size 0 lo:Nat):Int)=0:=eq_of_beq q.1.1;have i:sIx items.size items.size hi-sIx items.size 0 lo=items.size:=eq_of_beq q.2;exact f ⟨by omega,by omega⟩
 show wpAny _ _ (if (((sIx items.size 0 lo:Nat):Int)==0&&(1:Int)==1&&(sIx items.size items.size hi-sIx items.size 0 lo)==items.size)=ae then _ else _) _ _ s;rw[if_neg c,zqA]
 first
  |exact aj (m:=ybu _) (aR (aw ⟨_,rfl,aw h⟩) H)
  |exact aj (m:=ybu _) (aR (aj (aw (aw ⟨_,rfl,aw h⟩))) H)
  |exact aj (aj (m:=ybu _) (aR (aw (aw ⟨_,rfl,aw h⟩)) H))
  |exact aj (aj (m:=ybu _) (aR (aw ⟨_,rfl,aw h⟩) H))
end
end HT
namespace L2
open PySem PySem.Spec PyProof.Rows
abbrev TO:=St->Hp->(Option Int->Hp->Prop)->Prop
def PO(X:Cx)(e:Option am)(t:TO):Prop :=
 ∀(pins:List (ac×av))(s:ak)(σ : St)(H:Hp)(Q:Option Int->Hp->Prop),Inv X pins σ H s->t σ H Q →
  wpAny (ao X.prog X.w) X.A (evalPart e X.env) (fun u s'=>∃o H',Inv X pins σ H' s'/\bf u o/\Q o H') X.xe s
def zsi:TO:=fun _ H Q=>Q none H
def tPart(t:TE):TO:=fun σ H Q=>t σ H fun x H1=>∃i,x = .int i/\Q (aa i) H1
variable{X:Cx}{pos:ax}{r:V->Option Int->Option Int->Hp->VK->Prop}{xs:List V}
section
variable{e:am}{te:TE}{lo hi:Option am}{tl th:TO}{p2:ax}
theorem zsV:PO X none zsi:=by
 intro pins s σ H Q I h;rw[evalPart_none];exact aw ⟨none,H,I,.none,h⟩
theorem zsU(h:PE X e te):PO X (aa e) (tPart te):=by
 intro pins s σ H Q I b;rw[evalPart_some];refine thn (h pins s σ H _ I b) ?_;rintro u s1 ⟨x,d,c,r,a⟩;obtain⟨i,rfl,q⟩:=a;obtain⟨t,rfl⟩:=r;exact⟨aa i,d,c,.int i t,q⟩
def SlR(X:Cx)(r:V->Option Int->Option Int->Hp->VK->Prop):Prop :=
 ∀(pins:List (ac×av))(s:ak)(σ : St)(H:Hp)(x:V)(v vl vu:ag)(lo hi:Option Int)(sl:ac)(Q:VK),Inv X pins σ H s->RelV x v->s.heap.IsSliceOf sl vl vu .none->bf vl lo->bf vu hi->r x lo hi H Q →
  ∃T id,typeLookup (.type T) "__getitem__" = pure (aa (.builtin id))/\s.TypeIs v T/\wpAny (ao X.prog X.w) X.A (bP v (.ref sl)) (EP X pins σ Q) X.xe s
theorem SlR.or{r':V->Option Int->Option Int->Hp->VK->Prop}(h:SlR X r)(h':SlR X r'):SlR X (fun x lo hi H Q=>r x lo hi H Q∨r' x lo hi H Q):=by
 intro pins s σ H x v b a lo hi sl Q I R hs pl pu q;rcases q with q|q
 ·exact h pins s σ H x v b a lo hi sl Q I R hs pl pu q
 ·exact h' pins s σ H x v b a lo hi sl Q I R hs pl pu q
def tSl(r:V->Option Int->Option Int->Hp->VK->Prop)(te:TE)(t T:TO):TE:=fun σ H Q=>te σ H fun x H1=>t σ H1 fun l H2=>T σ H2 fun u h=>r x l u h Q
theorem zqE(hr:SlR X r)(m:PE X e te)(hl:PO X lo tl)(i:PO X hi th):PE X (.Subscript e (.Slice lo hi none p2) pos) (tSl r te tl th):=by
 intro pins s σ H Q I h;refine Subscript_ (thn (m pins s σ H _ I h) ?_);rintro v s1 ⟨x,z,w,R,g⟩;refine wpAny_Slice (thn (hl pins s1 σ z _ w g) fun a s2 ⟨l,y,t,pl,f⟩=>thn (i pins s2 σ y _ t f) ?_);rintro V S ⟨u,c,p,pu,d⟩;rw[evalPart_none];refine aw ?_;have o:Inv X pins σ c { S with heap:=S.heap.push { cls := .type "slice", data := .fields #[a,V,.none] } }:=p.kept (t':=S.toks) fun b ob q=>ye _ q;obtain⟨T,id,n,j,k⟩:=hr pins { S with heap:=S.heap.push { cls := .type "slice", data := .fields #[a,V,.none] } } σ c x v a V l u S.heap.objs.size Q o R (Heap.IsSliceOf.new ..) pl pu d;show wpAny (ao X.prog X.w) X.A (cB e (.Slice lo hi none p2) v (.ref S.heap.objs.size)) (EP X pins σ Q) X.xe { S with heap:=S.heap.push { cls := .type "slice", data := .fields #[a,V,.none] } };exact tail_any (ops:=[.ref S.heap.objs.size,v]) j n k (by with_unfolding_all rfl)
def zr2(xs:List V)(lo hi:Option Int):List V:=(xs.drop (HT.sIx xs.length 0 lo)).take (HT.sIx xs.length xs.length hi-HT.sIx xs.length 0 lo)
theorem zgD(xs:List V)(lo hi:Option Int):(zr2 xs lo hi).length<=xs.length:=by
 unfold zr2;rw[yaE,ycE];omega
def rSlT(K:ya):V->Option Int->Option Int->Hp->VK->Prop:=fun x lo hi H Q=>∃a xs,x = .ref a/\SqT K H a xs ∧
 ¬ (HT.sIx xs.length 0 lo=0/\HT.sIx xs.length xs.length hi=xs.length)/\∀p,H p=none->Q (.ref p) (upd H p (.tup (zr2 xs lo hi)))
theorem sl_tup:SlR X (rSlT X.K):=by
 intro pins s σ H x v i V lo hi sl Q I R hs pl pu h;obtain⟨a,xs,rfl,f,g,q⟩:=h;cases R;obtain⟨its,r,e,d⟩:=I.tuple f;have c:its.toArray.size=xs.length:=by rw[yG];exact r.length.symm
 refine⟨"tuple", _,PyProof.Rows.slot_tuple_getitem.lookup,e.typeIs,?_⟩;refine HT.getItem_tuple_cut e hs pl pu (by rw[c];exact g) ?_ (by rw[c];exact d);rw[c];refine⟨.ref s.heap.objs.size,_,I.laid (t':=s.toks) (o := .tup (zr2 xs lo hi)) (fun b ob q=>ye _ q) (yb _) ?_,rfl,q _ (I.hok.fresh (yb _))⟩;exact⟨yM (zgD xs lo hi) d,_,(r.drop (HT.sIx xs.length 0 lo)).take (HT.sIx xs.length xs.length hi-HT.sIx xs.length 0 lo),IsTup.new _ _,_,yw _ rfl,rfl⟩
def rCatT(K:ya):R2:=fun x y H Q=>∃a b xs ys,x = .ref a/\y = .ref b/\SqT K H a xs/\SqT K H b ys/\xs≠[]/\xs.length+ys.length<=sizeLine ∧
 (ys=[]->Q (.ref a) H)/\(ys≠[]->∀p,H p=none->Q (.ref p) (upd H p (.tup (xs++ys))))
theorem Vals.nil_iff{us:List ag}(r:Vals xs us):us=[]↔xs=[]:=by
 cases r with
 |nil=>simp|cons _ _=>simp
theorem zs6:OpR X (aL .Add) (rCatT X.K):=by
 intro pins s σ H x y v u Q I e d h;obtain⟨a,b,xs,ys,rfl,rfl,ha,k,j,c,g,f⟩:=h;cases e;cases d;obtain⟨its,R,p,_⟩:=I.tuple ha;obtain⟨i,r,p2,_⟩:=I.tuple k;refine HT.cat_tup p p2 (fun z=>j (R.nil_iff.mp z)) (fun z=>⟨.ref a,H,I,rfl,g (r.nil_iff.mp z)⟩) (fun z=>?_) (by rw[<- R.length,<- r.length];exact c);refine⟨.ref s.heap.objs.size,_,I.laid (t':=s.toks) (o := .tup (xs++ys)) (fun b ob q=>ye _ q) (yb _) ?_,rfl,f (fun w=>z (r.nil_iff.mpr w)) _ (I.hok.fresh (yb _))⟩;exact⟨by rw[yD];exact c,_,R.append r,IsTup.new _ _,_,yw _ rfl,rfl⟩
end
def ixN(n:Nat)(i:Int):Option Nat:=if 0<=i then (if i<n then aa i.toNat else none) else if -(n:Int)<=i then aa (i+n).toNat else none
variable{α : Type}
def atI(xs:List α)(i:Int):Option α := (ixN xs.length i).bind fun j=>xs[j]?
variable{n:Nat}{i:Int}
theorem ztq{j:Nat}(h:ixN n i=aa j):bQ i n=aa j/\j<n /\ -(n:Int)<=i/\i<n:=by
 unfold ixN at h;by_cases a:0<=i
 ·rw[if_pos a]at h;by_cases H:i<n
  ·rw[if_pos H]at h;have e:i.toNat=j:=yP h;exact⟨by rw[seqIndex_of a H,e],by omega,by omega,H⟩
  ·rw[if_neg H]at h;cases h
 ·rw[if_neg a]at h;by_cases H : -(n:Int)<=i
  ·rw[if_pos H]at h;have e:(i+n).toNat=j:=yP h;exact⟨by rw[seqIndex_neg (by omega) H,e],by omega,H,by omega⟩
  ·rw[if_neg H]at h;cases h
theorem zkV{xs:List α}{v:α}(h:atI xs i=aa v):∃j,bQ i xs.length=aa j/\xs[j]?=aa v/\j<xs.length /\ -(xs.length:Int)<=i/\i<xs.length:=by
 unfold atI at h;cases e:ixN xs.length i with
 |none=>rw[e]at h;cases h|some j=>
  rw[e]at h;obtain⟨c,b,a,H⟩:=ztq e;exact⟨j,c,h,b,a,H⟩
def zkY(b:am):Prop:=∀o i,subscripted b ai o i=operate [o,i] (bP o i)
def IxR(X:Cx)(r:R2):Prop :=
 ∀(value S:am)(pins:List (ac×av))(s:ak)(σ : St)(H:Hp)(x y:V)(v u:ag)(Q:VK),Inv X pins σ H s->RelV x v->RelV y u->r x y H Q →
  subscripted S ai v u=operate [v,u] (bP v u)->wpAny (ao X.prog X.w) X.A (cB value S v u) (EP X pins σ Q) X.xe s
def MtR(X:Cx)(id:String)(r:V->List V->Hp->VK->Prop):Prop :=
 ∀(pins:List (ac×av))(s:ak)(σ : St)(H:Hp)(x:V)(xs:List V)(v:ag)(us:List ag)(Q:VK),Inv X pins σ H s->RelV x v->Vals xs us->r x xs H Q →
  wpAny (ao X.prog X.w) X.A (call (.builtin id) (v::us)) (EP X pins σ Q) X.xe s
variable{s:ak}{y x:V}{u v:ag}{pins:List (ac×av)}{σ : St}{H:Hp}{T:String}
section
variable{a b:am}{ta tb:TE}
theorem IxR.or{r r':R2}(h:IxR X r)(h':IxR X r'):IxR X (fun x y H Q=>r x y H Q∨r' x y H Q):=by
 intro value S pins s σ H x y v u Q I a R q hs;rcases q with q|q
 ·exact h value S pins s σ H x y v u Q I a R q hs
 ·exact h' value S pins s σ H x y v u Q I a R q hs
theorem pe_ix{r:R2}(hr:IxR X r)(ha:PE X a ta)(d:PE X b tb)(hs:zkY b):PE X (.Subscript a b pos) (tOp r ta tb):=by
 intro pins s σ H Q I h;exact Subscript_ (binT ha d I h fun v u s2 x y e i c R q=>hr a b pins s2 σ e x y v u Q i c R q (hs _ _))
def rIxL(K:ya):R2:=fun x y H Q=>∃p xs i v,x = .ref p/\y = .int i/\SqL K H p xs/\atI xs i=aa v/\Q v H
def rIxT(K:ya):R2:=fun x y H Q=>∃p xs i v,x = .ref p/\y = .int i/\SqT K H p xs/\atI xs i=aa v/\Q v H
def rIxS:R2:=fun x y H Q=>∃z i c,x = .str z/\y = .int i/\z.length<=sizeLine/\atI z.cps.toList i=aa c/\Q (.str ⟨#[c]⟩) H
theorem ix_list:IxR X (rIxL X.K):=by
 intro value S pins s σ H x y v u Q I g d h hs;obtain⟨p,xs,i,z,rfl,rfl,k,l,q⟩:=h;cases g;obtain⟨t,rfl⟩:=d;obtain⟨its,r,pl,A⟩:=I.list k;obtain⟨j,a,o,B,n,m⟩:=zkV l;obtain⟨w,e,R⟩:=r.get o;have hl:=r.length;have hn:=zi7;have f:EP X pins σ Q w s:=⟨z,H,I,R,q⟩;by_cases c:0<=i
 ·have b:i.toNat=j:=by
   rw[seqIndex_of c m]at a;exact yP a
  exact item_listR pl.isList c (by omega) (by rw[b];simpa using e) f hs
 ·have b:(i+(its.toArray.size:Int)).toNat=j:=by
   rw[seqIndex_neg (by omega) n]at a;rw[yG,<- hl];exact yP a
  exact subscriptTail_builtinR (x:=w) pl.isList.typeIs slot_list_getitem.lookup
   (wpAny_getItem_list_neg (Q:=fun r s'=>r=w/\EP X pins σ Q r s') pl.isList (by omega) (by rw[yG] <;> omega) (by omega) (by rw[b];simpa using e) ⟨rfl,f⟩) hs
theorem ix_tup:IxR X (rIxT X.K):=by
 intro value S pins s σ H x y v u Q I b a h hs;obtain⟨p,xs,i,z,rfl,rfl,c,d,q⟩:=h;cases b;obtain⟨t,rfl⟩:=a;obtain⟨its,r,pl,k⟩:=I.tuple c;obtain⟨j,g,e,n,m,l⟩:=zkV d;obtain⟨w,E,R⟩:=r.get e;have hl:=r.length;have hn:=zi7;have f:EP X pins σ Q w s:=⟨z,H,I,R,q⟩;exact subscriptTail_builtinR (x:=w) pl.typeIs slot_tuple_getitem.lookup
  (getItem_tuple (j:=j) (Q:=fun r s'=>r=w/\EP X pins σ Q r s') pl (by omega) (by omega) (by rw[yG,<- hl];exact g) (by simpa using E) ⟨rfl,f⟩) hs
theorem ix_str:IxR X rIxS:=by
 intro value S pins s σ H x y v u Q I R r h hs;obtain⟨z,i,c,rfl,rfl,k,b,q⟩:=h;obtain⟨t,rfl⟩:=R;obtain⟨t',rfl⟩:=r;obtain⟨j,a,f,l,e,d⟩:=zkV b;have hl:z.cps.toList.length=z.length:=by simp[Str.length]
 rw[hl]at a e d;have hn:=zi7;exact tail_any (typeIs_str s z t) slot_str_getitem.lookup (getItem_str (c:=c) (by
  have g:decide (i < -(2^63:Int))=ai:=decide_eq_false (by omega);have E:decide (i ≥ 2^63)=ai:=decide_eq_false (by omega);rw[g,E,Bool.or_false]) (by rw[a];simpa using f) ⟨.str ⟨#[c]⟩,H,I.tok _,⟨_,rfl⟩,q⟩) hs
def rIx(K:ya):R2:=fun x y H Q=>rIxL K x y H Q∨rIxT K x y H Q∨rIxS x y H Q
theorem ix_seq:IxR X (rIx X.K):=ix_list.or (ix_tup.or ix_str)
theorem ziu(lo hi:Option Int)(n:Nat):(bI lo hi none n).1=((HT.sIx n 0 lo:Nat):Int)/\(bI lo hi none n).2.1=((HT.sIx n n hi:Nat):Int)/\(bI lo hi none n).2.2=1:=by
 refine⟨?_,?_,rfl⟩
 ·cases lo with
  |none=>simp[bI,HT.sIx]|some i=>
   simp only[bI,HT.sIx,ydu,show (1:Int)>0 by decide,if_true];by_cases h:i<0
   ·simp only[h,if_true] <;> omega
   ·simp only[h,if_false] <;> omega
 ·cases hi with
  |none=>simp[bI,HT.sIx]|some i=>
   simp only[bI,HT.sIx,ydu,show (1:Int)>0 by decide,if_true];by_cases h:i<0
   ·simp only[h,if_true] <;> omega
   ·simp only[h,if_false] <;> omega
theorem zhF(its:List ag)(lo hi:Option Int):slicePick its.toArray lo hi none=((its.drop (HT.sIx its.length 0 lo)).take (HT.sIx its.length its.length hi-HT.sIx its.length 0 lo)).toArray:=by
 obtain⟨a,H,h⟩:=ziu lo hi its.toArray.size;unfold slicePick;rw[a,H,h];simp only[sliceRange_one,pick_run,yG] <;> rfl
def rSlL(K:ya):V->Option Int->Option Int->Hp->VK->Prop:=fun x lo hi H Q=>∃a xs,x = .ref a/\SqL K H a xs/\∀p,H p=none->Q (.ref p) (upd H p (.lst (zr2 xs lo hi)))
theorem zso:SlR X (rSlL X.K):=by
 intro pins s σ H x v g V lo hi sl Q I R hs pl pu h;obtain⟨a,xs,rfl,f,q⟩:=h;cases R;obtain⟨its,r,d,e⟩:=I.list f;have c:=r.length;refine⟨"list", _,slot_list_getitem.lookup,d.isList.typeIs,?_⟩;refine wpAny_getItem_list_slice d.isList hs pl pu .none (by simp) ?_ (by rw[yG] <;> omega);rw[zhF,<- c];refine⟨.ref s.heap.objs.size,_,I.laid (t':=s.toks) (o := .lst (zr2 xs lo hi)) (fun b ob q=>ye _ q) (yb _) ?_,rfl,q _ (I.hok.fresh (yb _))⟩;exact⟨yM (zgD xs lo hi) e,_,0,(r.drop (HT.sIx xs.length 0 lo)).take (HT.sIx xs.length xs.length hi-HT.sIx xs.length 0 lo),yw _ rfl⟩
def zjv:V->Bool
 |.non=>ae|.bl _=>ae|.int _=>ae|.str _=>ae|_=>ai
def eqV:V->V->Bool
 |.non,.non=>ae|.bl a,.bl b=>a==b|.bl a,.int b=>(if a then 1 else 0)==b|.int a,.bl b=>a==(if b then 1 else 0)|.int a,.int b=>a==b|.str a,.str b=>a==b|_,_=>ai
theorem eqAt_V{A:az}(R:RelV y u)(r:RelV x v)(F:zjv y=ae)(f:zjv x=ae):SeqAt.EqAt A s u v (eqV y x):=by
 cases y with
 |non=>
  cases R;cases x with
  |non=>cases r;exact SeqAt.EqAt.same _|bl b=>cases r;exact SeqAt.EqAt.none_bool b|int b=>obtain⟨t,rfl⟩:=r;exact SeqAt.EqAt.none_int b t
  |str b=>obtain⟨t,rfl⟩:=r;exact SeqAt.EqAt.none_str b t
  |_=>exact absurd (show ai=ae from f) yH
 |bl a=>
  cases R;cases x with
  |non=>cases r;exact SeqAt.EqAt.bool_none a|bl b=>cases r;exact SeqAt.EqAt.bool_bool a b|int b=>obtain⟨t,rfl⟩:=r;exact SeqAt.EqAt.bool_int a b t
  |str b=>obtain⟨t,rfl⟩:=r;exact SeqAt.EqAt.bool_str a b t
  |_=>exact absurd (show ai=ae from f) yH
 |int a=>
  obtain⟨t',rfl⟩:=R;cases x with
  |non=>cases r;exact SeqAt.EqAt.int_none a t'|bl b=>cases r;exact SeqAt.EqAt.int_bool a t' b|int b=>obtain⟨t,rfl⟩:=r;exact SeqAt.EqAt.int_int a t' b t
  |str b=>obtain⟨t,rfl⟩:=r;exact SeqAt.EqAt.int_str a t' b t
  |_=>exact absurd (show ai=ae from f) yH
 |str a=>
  obtain⟨t',rfl⟩:=R;cases x with
  |non=>cases r;exact SeqAt.EqAt.str_none a t'|bl b=>cases r;exact SeqAt.EqAt.str_bool a t' b|int b=>obtain⟨t,rfl⟩:=r;exact SeqAt.EqAt.str_int a t' b t
  |str b=>obtain⟨t,rfl⟩:=r;exact SeqAt.EqAt.str_str a t' b t
  |_=>exact absurd (show ai=ae from f) yH
 |_=>exact absurd (show ai=ae from F) yH
def eqU(x:V)(u:ag):Bool:=match u with
 |.none=>eqV .non x|.bool b=>eqV (.bl b) x|.int i _=>eqV (.int i) x|.str z _=>eqV (.str z) x|_=>ai
theorem eqU_of(r:RelV y u)(f:zjv y=ae):eqU x u=eqV y x:=by
 cases y with
 |non=>cases r;rfl|bl b=>cases r;rfl|int i=>obtain⟨t,rfl⟩:=r;rfl
 |str z=>obtain⟨t,rfl⟩:=r;rfl
 |_=>exact absurd (show ai=ae from f) yH
theorem zlp{A:az}{s:ak}{x:V}{v:ag}(R:RelV x v)(F:zjv x=ae):∀{xs:List V}{us:List ag},Vals xs us->xs.all zjv=ae->∀u∈us,SeqAt.EqAt A s u v (eqU x u)
 |_,_,.nil,_=>fun u h=>by cases h|y::xs,u::us,.cons r t,f=>fun U h=>by
  rw[ybP,yL]at f;rcases yA.mp h with rfl|h
  ·rw[eqU_of r f.1];exact eqAt_V r R f.1 F
  ·exact zlp R F t f.2 U h
theorem zjI:CallR X (.builtin "len") (fun xs H Q=>∃p ys,xs=[.ref p]/\(SqL X.K H p ys∨SqT X.K H p ys)/\Q (.int ys.length) H):=by
 intro pins s σ H xs us Q I r h;obtain⟨p,ys,rfl,b,q⟩:=h;obtain⟨u,rfl,R⟩:=zcA r;cases R;have hn:=zi7;rcases b with b|b
 ·obtain⟨its,r',pl,c⟩:=I.list b;have a:=r'.length;exact Calls.call_len_list pl.isList (by simp only[yG] <;> omega) ⟨.int ys.length,H,I.tok _,⟨s.toks+1,by rw[yG,a]⟩,q⟩
 ·obtain⟨its,r',pl,c⟩:=I.tuple b;have a:=r'.length;exact len_tuple pl (by simp only[yG] <;> omega) ⟨.int ys.length,H,I.tok _,⟨s.toks+1,by rw[yG,a]⟩,q⟩
theorem zjH:CallR X (.builtin "len") (fun xs H Q=>∃z,xs=[.str z]/\z.length<=sizeLine/\Q (.int z.length) H):=by
 intro pins s σ H xs us Q I r h;obtain⟨z,rfl,a,q⟩:=h;obtain⟨u,rfl,t,rfl⟩:=zcA r;have hn:=zi7;exact len_str (by omega) ⟨.int z.length,H,I.tok _,⟨_,rfl⟩,q⟩
theorem CallR.or{f:ag}{r r':List V->Hp->VK->Prop}(h:CallR X f r)(h':CallR X f r'):CallR X f (fun xs H Q=>r xs H Q∨r' xs H Q):=by
 intro pins s σ H xs us Q I rs q;rcases q with q|q
 ·exact h pins s σ H xs us Q I rs q
 ·exact h' pins s σ H xs us Q I rs q
theorem zig:CallR X (.type "tuple") (fun xs H Q=>∃p ys,xs=[.ref p]/\((SqL X.K H p ys/\∀l,H l=none->Q (.ref l) (upd H l (.tup ys)))∨(SqT X.K H p ys/\Q (.ref p) H))):=by
 intro pins s σ H xs us Q I r h;obtain⟨p,ys,rfl,h⟩:=h;obtain⟨u,rfl,R⟩:=zcA r;cases R;rcases h with⟨a,q⟩|⟨a,q⟩
 ·obtain⟨its,r',pl,c⟩:=I.list a;have d:=r'.length;refine call_tuple_list pl.isList (fun h' kp=>?_) (by simp only[yG] <;> omega);have i:Inv X pins σ H { s with heap:=h' }:=I.kept (t':=s.toks) kp;have f:Inv X pins σ (upd H h'.objs.size (.tup ys)) { s with heap:=h'.push { cls := .type "tuple", data := .seq its.toArray } } :=
   i.laid (t':=s.toks) (fun b o e=>ye _ e) (yb _) (show ObjOk X.prog X.w _ _ _ (.tup ys) from ⟨c,its,r',IsTup.new _ _,_,yw _ rfl,rfl⟩)
  exact⟨.ref h'.objs.size,_,f,rfl,q _ (i.hok.fresh (yb _))⟩
 ·obtain⟨its,r',pl,c⟩:=I.tuple a;exact call_tuple_same pl ⟨.ref p,H,I,rfl,q⟩
def tyV(K:ya)(T:String)(x:V)(H:Hp):Prop:=match x with
 |.str _=>T = "str"|.int _=>T = "int"|.ref p=>(T = "list" /\ ∃xs,SqL K H p xs)∨(T = "tuple" /\ ∃o,K.lookup p=aa o/\o.cls = .type "tuple" /\ o.dict=none) ∨
   (T = "dict" /\ ((∃kvs,H p=aa (.dK kvs))∨∃kvs,H p=aa (.dT kvs)))∨(T = "set" /\ ∃S n,H p=aa (.set S n))
 |_=>False
theorem zrw(I:Inv X pins σ H s)(r:RelV x v)(ty:tyV X.K T x H) : s.TypeIs v T/\∀a,v = .ref a->∃ob,s.heap.get? a=aa ob/\ob.dict=none:=by
 cases x with
 |str z=>
  obtain⟨t,rfl⟩:=r;cases (show T = "str" from ty);exact⟨typeIs_str s z t,fun _ e=>nomatch e⟩
 |int i=>
  obtain⟨t,rfl⟩:=r;cases (show T = "int" from ty);exact⟨cj s i t,fun _ e=>nomatch e⟩
 |ref p=>
  cases r;rcases ty with⟨rfl,xs,b⟩|⟨rfl,o,h,d,hd⟩|⟨rfl,h⟩|⟨rfl,S,n,h⟩
  ·obtain⟨its,_,pl,_⟩:=I.list b;refine⟨pl.isList.typeIs,fun a e=>?_⟩;cases e;obtain⟨o,n,e,c,hd,_⟩:=pl;exact⟨o,e,hd⟩
  ·refine⟨⟨o,I.kIn p o h,d⟩,fun a e=>?_⟩;cases e;exact⟨o,I.kIn _ o h,hd⟩
  ·have z:∃o,s.heap.get? p=aa o/\o.ExactDict:=by
    rcases h with⟨kvs,h⟩|⟨kvs,h⟩
    ·obtain⟨_,_,_,_,o,_,_,e,ex,_⟩:=I.hok p _ h;exact⟨o,e,ex⟩
    ·obtain⟨_,_,_,_,o,_,_,e,ex,_⟩:=I.hok p _ h;exact⟨o,e,ex⟩
   obtain⟨o,e,ex⟩:=z;refine⟨⟨o,e,ex.1⟩,fun a E=>?_⟩;cases E;exact⟨o,e,ex.2.1⟩
  ·obtain⟨o,_,_,_,e,ex,_⟩:=I.hok p _ h;refine⟨⟨o,e,ex.1⟩,fun a E=>?_⟩;cases E;exact⟨o,e,ex.2.1⟩
 |_=>exact False.elim ty
def tBM0(K:ya)(T:String)(r:V->List V->Hp->VK->Prop)(t:TE):TE:=fun σ H Q=>t σ H fun x H1=>tyV K T x H1/\r x [] H1 Q
def tBM(K:ya)(T:String)(r:V->List V->Hp->VK->Prop)(a:TE)(t:TA):TE:=fun σ H Q=>a σ H fun x H1=>tyV K T x H1/\t σ H1 fun xs H2=>r x xs H2 Q
variable{o e:am}{es:List am}{to:TE}{t:TA}{name:af}{apos cpos:ax}{id:String}{r:V->List V->Hp->VK->Prop}
theorem pe_bm0(p:PlainAttrs T)(slot:Slot T name id)(c:typeOf (.builtin id)=pure (.type "method_descriptor"))(hm:MtR X id r)(d:PE X o to)(b:autoParam (bc o name X.env (eval o X.env)=eval o X.env) AutoP.a3._auto_1)(a:autoParam ((apos.endLine==cpos.line)=ae) AutoP.a3._auto_1):PE X (.Call (.Attribute o name apos) [] [] cpos) (tBM0 X.K T r to):=by
 intro pins s σ H Q I h;refine wpAny_Call_method0_late b a (thn (d pins s σ H _ I h) ?_);rintro v s1 ⟨x,g,i,R,ty,q⟩;obtain⟨f,e⟩:=zrw i R ty;exact⟨T,id,p,slot,c,f,e,ycF rfl (PySem.evalArgs_none (hm pins s1 σ g x [] v [] Q i R .nil q))⟩
theorem pe_bm(p:PlainAttrs T)(slot:Slot T name id)(f:typeOf (.builtin id)=pure (.type "method_descriptor"))(hm:MtR X id r)(l:PE X o to)(ha:PA X (e::es) t)(c:autoParam (bc o name X.env (eval o X.env)=eval o X.env) AutoP.a3._auto_1)(d:autoParam (((aC cpos (ap (e::es) X.env)).all (fun x=> !x.1)&&(bd cpos (be [] X.env)).all (fun x=>x.1.isSome)&&decide ((e::es).length+([]:List bq).length+(if ([]:List bq).isEmpty then 0 else 1)<30))=ae) AutoP.a3._auto_1)(b:autoParam ((apos.endLine==cpos.line)=ae) AutoP.a3._auto_1)(hs:autoParam (ap (e::es) X.env=(ai,eval e X.env)::ap es X.env) AutoP.a3._auto_1)(a:autoParam ((aC cpos (ap es X.env)).any (·.1)=ai) AutoP.a3._auto_1) : PE X (.Call (.Attribute o name apos) (e::es) [] cpos) (tBM X.K T r to t):=by
 intro pins s σ H Q I h;refine wpAny_Call_method_late c d b rfl (thn (l pins s σ H _ I h) ?_);rintro v s1 ⟨x,y,i,R,ty,k⟩;obtain⟨n,m⟩:=zrw i R ty;refine⟨T,id,p,slot,f,n,m,?_⟩;have g:=ha cpos pins s1 σ y _ i k;rw[hs]at g ⊢;refine ycF (by show (ai||(aC cpos (ap es X.env)).any (·.1))=ai;rw[a] <;> rfl) (ydv ?_);refine thn g ?_;rintro us s2 ⟨vs,w,u,j,q⟩;exact hm pins s2 σ w x vs v us Q u R j q
end
def MtM(X:Cx)(id:String)(r:V->List V->Hp->VK->Prop):Prop :=
 ∀(pins:List (ac×av))(s:ak)(σ : St)(H:Hp)(x:V)(xs:List V)(v:ag)(us:List ag)(Q:VK),Inv X pins σ H s->RelV x v->Vals xs us->r x xs H Q →
  wpAny (ao X.prog X.w) X.A (call (.builtin id) (v::us)) (EP X pins σ Q) X.xe s
theorem Vals.one:∀{x:V}{us:List ag},Vals [x] us->∃u,us=[u]/\RelV x u
 |_,_,.cons r .nil=>⟨_,rfl,r⟩
theorem Vals.eraseIdx:∀{xs:List V}{us:List ag}(i:Nat),Vals xs us->Vals (xs.eraseIdx i) (us.eraseIdx i)
 |_,_,_,.nil=>.nil|_,_,0,.cons _ t=>t|_,_,i+1,.cons r t=>.cons r (Vals.eraseIdx i t)
theorem zi9{α : Type}:∀(l:List α)(i:Nat),(l.eraseIdx i).length<=l.length
 |[],_=>yb _|_::_,0=>ybb _|_::r,i+1=>Nat.succ_le_succ (zi9 r i)
variable{its:List ag}{t':Nat}
section
variable{l b:ac}{ys zs:List V}
theorem Inv.lset{its':List ag}{f:Array ag->Array ag}(I:Inv X pins σ H s)(g:H l=aa (.lst xs))
  (e:s.heap.get? l=aa { cls := .type "list", data := .seq its.toArray n }) (c:f its.toArray=its'.toArray) (a:Vals ys its') (h:ys.length<=sizeLine) :
  Inv X pins σ (upd H l (.lst ys)) { s with heap:=s.heap.update l (yaw f),toks:=t' }:=by
 have q:=ycG e f;rw[c]at q;refine I.write (x:=l) (e:=l) (by rw[g];exact trivial) (.inl rfl) (fun B u d b=>(ybv s.heap (yaw f) (Ne.symm d)).trans b) ⟨_,q⟩ ?_;exact⟨h,its',_,a,q⟩
theorem Inv.lnew(I:Inv X pins σ H s)(a:Vals ys its)(h:ys.length<=sizeLine) : Inv X pins σ (upd H s.heap.objs.size (.lst ys)) { s with heap:=s.heap.push { cls := .type "list", data := .seq its.toArray },toks:=t' } :=
 I.laid (fun _ _ q=>ye _ q) (yb _) ⟨h,its,0,a,yw _ rfl⟩
theorem Inv.fresh(I:Inv X pins σ H s):H s.heap.objs.size=none:=I.hok.fresh (yb _)
theorem Inv.lstM(I:Inv X pins σ H s)(h:H l=aa (.lst xs)):xs.length<=sizeLine/\∃(its:List ag)(n:Nat),Vals xs its/\xs.length=its.length/\s.heap.get? l=aa { cls := .type "list", data := .seq its.toArray n }:=by
 obtain⟨z,its,n,r,e⟩:=I.hok l _ h;exact⟨z,its,n,r,r.length,e⟩
end
section
def znO:V->List V->Hp->VK->Prop:=fun x vs H Q=>∃l xs y,x = .ref l/\vs=[y]/\H l=aa (.lst xs)/\xs.length<sizeLine/\Q .non (upd H l (.lst (xs++[y])))
theorem zbf:MtM X "list.append" znO:=by
 intro pins s σ H x vs v us Q I R b h;obtain⟨l,xs,y,rfl,rfl,a,d,q⟩:=h;cases R;obtain⟨u,rfl,c⟩:=b.one;obtain⟨z,its,n,r,hl,e⟩:=I.lstM a;refine br ycH ⟨_,e,rfl⟩ ycI (ycJ _ _) (ycK l its.toArray n u (by rw[yG];omega)) ⟨e,?_⟩;refine⟨.non,_,I.lset (its':=its++[u]) a e (by simp) (r.append (.cons c .nil)) ?_,rfl,q⟩;rw[yD,ybQ];omega
def zrB:V->List V->Hp->VK->Prop:=fun x vs H Q=>∃l xs i k y,x = .ref l/\vs=[.int i]/\H l=aa (.lst xs) /\ -(2^63)<=i/\i<2^63/\bQ i xs.length=aa k/\xs[k]?=aa y/\Q y (upd H l (.lst (xs.eraseIdx k)))
theorem zqR:MtM X "list.pop" zrB:=by
 intro pins s σ H x vs v us Q I b c h;obtain⟨l,xs,i,k,y,rfl,rfl,a,o,m,j,f,q⟩:=h;cases b;obtain⟨u,rfl,d⟩:=c.one;obtain⟨t,rfl⟩:=d;obtain⟨z,its,n,r,hl,e⟩:=I.lstM a;obtain⟨w,g,R⟩:=r.get f;refine br F.slot_list_pop ⟨_,e,rfl⟩ F.entry_list_pop (F.args_list_pop_2 _ _)
  (MeetsSeq.list_pop_at l its.toArray n i t k w (fitsIndex_both o m) (by rw[yG,<- hl];exact j) (by rw[<- Array.getElem?_toList];exact g) (by rw[yG];omega)) ⟨e,?_⟩
 refine⟨y,_,I.lset (its':=its.eraseIdx k) a e ?_ (r.eraseIdx k) ?_,R,q⟩
 ·show its.toArray.eraseIdxIfInBounds k=(its.eraseIdx k).toArray;rw[List.eraseIdxIfInBounds_toArray]
 ·have:=zi9 xs k;omega
end
end L2
namespace Att
open PySem PySem.W PySem.Calls PyProof.Rows
variable{P:Params}{h:au}
theorem zgk:∀(ns:List Int)(vs:List ag),WellAll P h vs (ns.map WData.int)->IntsAre vs ns:=by
 intro ns;induction ns with
 |nil=>
  intro vs w;rw[yaZ]at w;cases w;exact .nil
 |cons n ns i=>
  intro vs w;rw[yy]at w;cases w with
  |cons a b=>
   cases a;exact .cons _ _ (i _ b)
variable{l:OpenLaw}{n:Nat}
theorem znu(hn:l.most=aa n){args:List WData}{v:List ag}(H:l.row.toRowW.claim.pre args=ae)(g:WellAll P h v args) : ∃a vs ns,v=[yn a]/\args=[WData.list (ns.map WData.int)]/\h.get? a=aa { cls := .type "list", data := .seq vs.toArray }/\IntsAre vs ns/\ns.length<=n:=by
 have i:WShape.hasAll [] args [.list .int]=ae:=(pre_splitW H).1;have j:l.pre.holds [] { args:=args }=ae:=(pre_splitW H).2;obtain⟨d,r,rfl,p,o⟩:=hasAllW_cons i;obtain rfl:=hasAllW_nil o;obtain⟨xs,rfl,m⟩:=hasW_list p;obtain⟨ns,rfl⟩:=items_int m;have b:ns.length<=n:=by
  unfold OpenLaw.pre at j;have f:(WTm.not (.lt (.lit (.int (n:Int))) (.len (.arg 0)))).holds [] { args:=[.list (ns.map .int)] }=ae:=by
   have f:=(holds_andW j).1;rw[hn]at f;exact f
  have e:=condW_of f (w_not (w_lt w_lit (w_len_list (w_arg rfl))));rw[yd]at e;refine ybR fun q=>?_;have Q:(n:Int)<((ns.length:Nat):Int):=by omega
  first
   | (rw[decide_eq_true Q]at e;exact absurd e (by decide))
   | (simp at e;omega)
 cases g with
 |cons w1 w=>
  cases w;cases w1 with
  |list k c=>exact⟨_,_,ns,rfl,rfl,k,zgk ns _ c,b⟩
theorem znR(l:OpenLaw)(args:List WData):l.row.toRowW.claim.post args (.bool ae) args=ae :=
 postW_of (r:=l.row.toRowW) (X:=(ae==ae))
  (show WShape.has [] (.bool ae) .bool=ae by first | rfl | decide | simp[WShape.has,WShape.arms,WShape.armsAll])
  (show (WTm.eq .res (.lit (.bool ae))).value [] { args:=args,res:=aa (.bool ae),after:=args }=aa (.bool (ae==ae)) from w_eq_bool (w_res rfl) w_lit) rfl
theorem attach_call{q:ar}{loose:List af}{XP:(af->Option ag)->au->Prop}{YP:al->au->Prop}{d:DefRec}
  (hn:l.most=aa n) (i:d.params.defaults=[])
  (call:∀(w:al)(s₀ s : ak)(mg mb:af->Option ag)(F:ac)(o:av)(pm C doc:ag)(a:ac)(vs:List ag)(ns:List Int),
   Ground q loose [] XP w s₀ mg mb s.heap->YP w s.heap →
   s.heap.get? F=aa o->o.data = .func (docDef d.name d.params d.body d.scope pm C doc)->s.heap.CodeRec C d.name->mg d.name=aa (.ref F) →
   s.heap.get? a=aa { cls := .type "list", data := .seq vs.toArray }->IntsAre vs ns->ns.length<=n->s.gens = #[] →
   codeAny (ao l.prog w) bg (.call (.ref F) ⟨[.ref a],[]⟩) (fun r s'=>r = .ok (.ret (.bool ae))/\OldK s.heap s'.heap/\s'.os=s.os/\aU s'.gens) s) :
  WalkO q loose XP YP l.row.toRowW d [] (fun f vs=>ybS f vs):=by
 intro w s₀ s mg mb G Y F o pm C doc D kV u hd j m g y args v as H k p e x;obtain rfl:D = .none:=Dflts.none m i;obtain rfl:kV = .none:=Dflts.noKw m;obtain⟨a,vs,ns,rfl,rfl,b,h,c⟩:=znu hn H e;refine enter_call (bO (call w s₀ s mg mb F o pm C doc a vs ns G Y u (fd_plain hd) j g b h c y) fun r s' t=>?_);obtain⟨rfl,B,A,z⟩:=t;exact⟨.inl ⟨.bool ae,.bool ae,[],rfl,fun _=>rfl,.bool ae,znR l _,fun _=>⟨List.Pairwise.nil,fun _ hm=>(nomatch hm)⟩⟩,B,A,z⟩
section
variable{prog:ar}{w:al}{A:az}{E:ag->ak->Prop}{s:ak}{K:Frag}
end
end Att
namespace L2
open PySem PySem.Spec PyProof.Rows
theorem ziq:∀{vs:List ag}{ns:List Int},IntsAre vs ns->Vals (ns.map V.int) vs
 |_,_,.nil=>.nil|_,_,.cons n t h=>.cons ⟨t,rfl⟩ (ziq h)
def Only(H:Hp):Prop:=∀b,H b=none∨∃o xs,H b=aa (.frz o (.lst xs))
variable{CX:CXT}{x:af}
theorem zqW{P:ar}{w:al}{K:ya}{mg mb:af->Option ag}{k:Nat}{I a:ac}{fd:aJ}{sp:Sp}{S : ak}{vs:List ag}{ns:List Int}
  (Q:K.In S.heap) (i:S.heap.Ns aF mg) (c:S.heap.Ns cd mb) (D:∀x:af,x ≠ "__name__" -> mb x=aT x) (j:S.heap.NoLimit) (W:S.gens = #[])
  (ha:S.heap.get? a=aa { cls := .type "list", data := .seq vs.toArray }) (hi:IntsAre vs ns) (hl:ns.length<=sizeLine) (hr:Room k bg)
  (F:∀base:au,K.In base->base.Ns aF mg->FnOk P w K mg base CX k I fd [x] sp) (f:∀(s:ak)(u:ag),bD s fd ⟨[u],[]⟩ [(x,u)])
  (y:∀H:Hp,Only H->SqL K H a (ns.map V.int)->sp [.ref a] H (fun v _=>v = .bl ae) fun _ _ _=>False)
  (G:∀H e s',CX [] H S (fun _ _ _=>False) e s'->False) :
  codeAny (ao P w) bg (.call (.ref I) ⟨[.ref a],[]⟩) (fun r s'=>r = .ok (.ret (.bool ae))/\OldK S.heap s'.heap/\s'.os=S.os/\aU s'.gens) S := by
 have R:=ziq hi;have l:=hi.length;have C:∀H:Hp,Only H->SqL K H a (ns.map V.int)->HOk P w H S.heap->(∀b,H b≠none->b=a)->(H a≠none->K.lookup a=none) →
   codeAny (ao P w) bg (.call (.ref I) ⟨[.ref a],[]⟩) (fun r s'=>r = .ok (.ret (.bool ae))/\OldK S.heap s'.heap/\s'.os=S.os/\aU s'.gens) S := by
  intro H L X hok M hK;have B:∀{b:ac}{o:av},S.heap.get? b=aa o->H b=none->(zq5 S.heap H).get? b=aa o:=fun e n=>zq4 e n;have t:∀{b:ac}{o:av}{es:Array DictEntry}{E:Nat},S.heap.get? b=aa o->o.data = .dict es E->H b=none:=fun {b o es E} e d=>by
   cases q:H b with
   |none=>rfl|some u=>
    have J:b=a:=M b (by rw[q];simp);subst J;rw[ha]at e;cases e;have d':Data.seq vs.toArray _=Data.dict es E:=d;cases d'
  have N:∀{b:ac}{m:af->Option ag},S.heap.Ns b m->(zq5 S.heap H).Ns b m:=fun {b m} ⟨o,es,E,e,d,r⟩=>⟨o,es,E,B e (t e d),d,r⟩;have p:K.In (zq5 S.heap H):=fun b o e=>B (Q b o e) (by
   cases q:H b with
   |none=>rfl|some u=>
    have J:b=a:=M b (by rw[q];simp);subst J;rw[hK (by rw[q];simp)]at e;cases e)
  have Y:Mod K mg (zq5 S.heap H):=⟨p,N i,⟨mb,N c,D⟩,let ⟨mc,h1,h2⟩:=j;⟨mc,N h1,h2⟩⟩;have e0:Env0 P w K mg (zq5 S.heap H) bg [] S H:=⟨rfl,Y,fun b o e=>ztb e,ybp (zo0 _ _),trivial,fun b c=>absurd (show b∈([]:List ac) from c) (by simp),hok,.of_eq W⟩;refine bO ((F _ p (N i)).run bg [] S H ⟨[.ref a],[]⟩ [.ref a] [.ref a] _ _ hr e0 (f S (.ref a)) (.cons rfl .nil) (y H L X)) fun r s' h=>?_;cases r with
  |error e=>exact(G H e s' h).elim|ok fl=>
   cases fl with
   |next=>exact False.elim h|brk=>exact False.elim h|cont=>exact False.elim h|ret u=>
    obtain⟨v,H',os,bare,un,g,r',q⟩:=h;have U:v = .bl ae:=q;subst U;obtain rfl:u=ybm ae:=r';refine⟨rfl,OldK.of_keep fun b o e=>?_,os,bare⟩;cases q:H b with
    |none=>exact un.keep b o e q (by intro z;exact absurd (show b∈([]:List ac) from z) (by simp)) (by simp)|some u=>
     rcases L b with z|⟨ob,xs,z⟩
     ·rw[q]at z;cases z
     ·have T:=un.frzs b ob _ z;obtain⟨O,_⟩:=hok b _ z;obtain⟨e2,_⟩:=g b _ T;rw[e]at O;cases O;exact e2
 cases A:K.lookup a with
 |some o=>
  have e:=Q a o A;rw[ha]at e;cases e;refine C (fun _=>none) (fun _=>.inl rfl) (.inr ⟨_,vs.toArray,_,A,rfl,rfl,rfl,by rw[yG,l];exact hl,by simpa using R⟩) (fun b u z=>by have Z:(none:Option HO)=aa u:=z;cases Z) (fun b z=>absurd rfl z) fun z=>absurd rfl z
 |none=>
  refine C (fun b=>if b=a then aa (.frz { cls := .type "list", data := .seq vs.toArray } (.lst (ns.map V.int))) else none) (fun b=>?_) (.inl (.inr ⟨{ cls := .type "list", data := .seq vs.toArray },if_pos rfl⟩)) (fun b u z=>?_) (fun b z=>?_) fun _=>A
  ·by_cases c:b=a
   ·exact .inr ⟨_,_,if_pos c⟩
   ·exact .inl (if_neg c)
  ·by_cases c:b=a
   ·have Z:=(if_pos c).symm.trans z;cases Z;subst c;exact⟨ha,by rw[yd];exact hl,vs,_,R,ha⟩
   ·have Z:=(if_neg c).symm.trans z;cases Z
  ·by_cases c:b=a
   ·exact c
   ·exact absurd (if_neg c) z
variable{l:ycL}{n:Nat}{q:ar}{loose:List af}{YP:al->au->Prop}{d:DefRec}{K:Params->ya}
theorem zsd{k:Nat}{XP:(af->Option ag)->au->Prop}{CX:al->CXT}{sp:al->Sp}(hn:l.most=aa n)(m:n<=sizeLine)(r:d.params.defaults=[])(hr:Room k bg)(C:∀(w:al)(h:au),YP w h->(K w.params).In h)(F:∀(w:al)(mg:af->Option ag)(i:ac)(h:au),(K w.params).In h->h.Ns aF mg->mg d.name=aa (.ref i)->∃fd:aJ,(∀(s:ak)(u:ag),bD s fd ⟨[u],[]⟩ [(x,u)])∧∀base:au,(K w.params).In base->base.Ns aF mg->FnOk l.prog w (K w.params) mg base (CX w) k i fd [x] (sp w))(j:∀(w:al)(H:Hp)(a:ac)(ns:List Int),ns.length<=n->Only H->SqL (K w.params) H a (ns.map V.int)->sp w [.ref a] H (fun v _=>v = .bl ae) fun _ _ _=>False)(t:∀(w:al)(H:Hp)(s:ak)(e:ag)(s':ak),CX w [] H s (fun _ _ _=>False) e s'->False) : ydw q loose XP YP l.row.toRowW d [] (fun f vs=>ybS f vs):=by
 refine Att.attach_call hn r fun w s₀ S mg mb i o pm L doc a vs ns G Y J hd A p g c b z=>?_;have y:=C w _ Y;obtain⟨fd,B,I⟩:=F w mg i _ y G.T.g p;exact zqW y G.T.g G.T.b G.T.builtins G.T.nolimit z g c (yM b m) hr I B (fun H E D=>j w H a ns b E D) fun H e s'=>t w H S e s'
theorem walk_ofK{k:Nat}{XP:(af->Option ag)->au->Prop}{sp:ya->Sp}(hn:l.most=aa n)(c:n<=sizeLine)(g:d.params.defaults=[])(hr:Room k bg)(m:∀(w:al)(h:au),YP w h->(K w.params).In h)(F:∀(w:al)(mg:af->Option ag)(j:ac)(h:au),(K w.params).In h->h.Ns aF mg->mg d.name=aa (.ref j)->∃fd:aJ,(∀(s:ak)(u:ag),bD s fd ⟨[u],[]⟩ [(x,u)])∧∀base:au,(K w.params).In base->base.Ns aF mg->FnOk l.prog w (K w.params) mg base CX k j fd [x] (sp (K w.params)))(b:∀(K:ya)(H:Hp)(a:ac)(ns:List Int),ns.length<=n->Only H->SqL K H a (ns.map V.int)->sp K [.ref a] H (fun v _=>v = .bl ae) fun _ _ _=>False)(i:∀(H:Hp)(s:ak)(e:ag)(s':ak),CX [] H s (fun _ _ _=>False) e s'->False) : ydw q loose XP YP l.row.toRowW d [] (fun f vs=>ybS f vs) :=
 zsd (K:=K) (CX:=fun _=>CX) (sp:=fun w=>sp (K w.params)) hn c g hr m F (fun w H a ns r p o=>b (K w.params) H a ns r p o) fun _ H s e s'=>i H s e s'
end L2
namespace L2
open PySem PySem.Spec PyProof.Rows
def za3(s:aq)(j:Nat):aq:=match s with
 |.ClassDef _ _ _ body _ _ _ _ _ _ _=>body.getD j (.Pass ⟨0,0,0,0⟩)|_=>.Pass ⟨0,0,0,0⟩
def zfc(s:aq):Arguments:=match s with
 |.FunctionDef _ a _ _ _ _ _ _ _ _=>a|_=>{ posonlyargs:=[],args:=[],vararg:=none,kwonlyargs:=[],kw_defaults:=[],kwarg:=none,defaults:=[] }
def zbs(s:aq):List aq:=match s with
 |.FunctionDef _ _ b _ _ _ _ _ _ _=>b|_=>[]
def zai(s:aq):aO:=match s with
 |.FunctionDef _ _ _ _ _ _ sc _ _ _=>sc|_=>{ kind := .function,names:=[],isGenerator:=ai,isCoroutine:=ai }
abbrev CX0:CXT:=fun _ _ _ _ _ _=>False
abbrev E0:XK:=fun _ _ _=>False
theorem zqI{X:Cx}:zgH CX0 X E0:=fun _ _ _ _ _ _ _ h=>h.elim
structure Fun(K:ya)(x qual:af)(st:aq)(f:ac)(fd:aJ):Prop where
 ex:∃(oc:ag)(od:Option ac)(kV doc pm:ag)(an:Option ac)(cdv ct:ag)(osl:Array (Option ag)),
  fd=ybc x qual (zfc st) (zbs st) (zai st) .none kV doc pm an cdv ct/\K.lookup f=aa ⟨oc,od,.func fd,osl⟩/\ycy K cdv qual=ae
 kp:yaD K (.ref f)=ae
variable{x qual:af}{st:aq}{f:ac}{fd:aJ}{ps:List af}
section
variable{P:ar}{w:al}{K:ya}{mg:af->Option ag}{base:au}
theorem Fun.ok{N:List af}{k:Nat}{sp:Sp}(F:Fun K x qual st f fd)(S:FnScope N ps (zai st))(len:∀vs H Q E,sp vs H Q E->vs.length=ps.length)(a:∀(cdv:ag)(A:az)(outer:List aH)(s:ak)(H:Hp)(vs:List V)(Q:VK)(E:XK),Room k (A.deeper (aN qual (zai st) s.heap.objs.size f cdv))->sp vs H Q E->∃t,PSs (zkN CX0 P w K mg base N qual (zai st) f cdv A outer s H E).nox (zbs st) t/\t { nx:=fun _ H'=>Q .non H',rt:=Q } (start N vs) H):FnOk P w K mg base CX0 (k+1) f fd ps sp:=by
 obtain⟨oc,od,kV,doc,pm,an,cdv,ct,osl,rfl,l,c⟩:=F.ex;refine fn_of l c S len fun A outer s H vs Q E hr b=>?_;obtain⟨t,h,q⟩:=a cdv A outer s H vs Q E hr b;exact⟨t,h.nox,q⟩
theorem Fun.binds(F:Fun K x qual st f fd)(h:∀(kV doc pm:ag)(an:Option ac)(cdv ct:ag)(us:List ag),us.length=ps.length->bindArgs (ybc x qual (zfc st) (zbs st) (zai st) .none kV doc pm an cdv ct) ⟨us,[]⟩=pure (ps.zip us)):Binds K fd ps []:=by
 obtain⟨oc,od,kV,doc,pm,an,cdv,ct,osl,rfl,l,H⟩:=F.ex;exact .all (h kV doc pm an cdv ct)
end
theorem zmP{A:az}{k:Nat}(hr:Room k A):A.units+1<aM:=ydx (ydy (by decide:1<=64) _) hr.units
def Same(H H':Hp):Prop:=∀b o,H b=aa o->H' b=aa o
theorem Same.refl(H:Hp):Same H H:=fun _ _ h=>h
end L2
namespace MD
open PySem PySem.Spec PyProof.Rows L2
def Kof(n:Nat)(h:au):ya:=(yC n).filterMap fun a=>(h.get? a).map fun o=>(a,o)
abbrev FnT:=Option (af×af×Arguments×List aq×aO)
def zne(v:ag):Bool:=match v with
 |.none=>ae|_=>ai
def fnV(K:ya)(f:ac):FnT×Bool:=match K.lookup f with
 |some ⟨_,_,.func ⟨x,q,ps,.stmts b,sc,g,[],d,_,_,_,_,c,_,bl⟩,_⟩=>(aa (x,q,ps,b,sc),Nat.beq g aF&&Nat.beq bl cd&&zne d&&ycy K c q)|_=>(none,ai)
def viewOf(keep:List Nat)(p:ar):ar:={ p with main:={ p.main with body:=keep.filterMap fun i=>p.main.body[i]? } }
def isX(c d:af):Bool:=c==d||d == "HeadError" || d == "ValueError"
def bmV:List ag:=[.type "ValueError", .type "Exception", .type "BaseException", .type "object"]
def ztO(K:ya)(C:ac):Bool:=yU K (.ref C) "__getattribute__" == aa (aa (.builtin "BaseException.__getattribute__"))&&yU K (.ref C) "__getattr__" == aa none&&ybd K (.ref C) (.type "BaseException")==aa ae&&ybq K C (.type "object")==aa ae&&(ya0 K C).isSome&&yU K (.ref C) "__class__" == aa (aa (.builtin "object.__class__"))&&ydk K (.builtin "object.__class__") "__get__" == aa (aa (.builtin "getset_descriptor.__get__"))&&ydl K (.builtin "object.__class__")==aa ae&&ycq K (.ref C)==aa (.type "type")
def zrW(K:ya)(es:List af):Bool:=es.all fun c=>match yai K aF c with
 |some (aa (.ref C))=>ztO K C&&yau K (.ref C) (.type "ValueError")==aa ae&&yau K (.type "NoneType") (.ref C)==aa ai&&es.all fun d=>match yai K aF d with
  |some (aa (.ref D))=>yau K (.ref C) (.ref D)==aa (isX c d)&&ybd K (.ref C) (.ref D)==aa (isX c d)|_=>ai
 |_=>ai
def zrX(K:ya)(rs:List af):Bool:=rs.all fun c=>match yai K aF c with
 |some (aa (.ref C))=>ybw K C bmV "ValueError.__new__"|_=>ai
end MD
namespace MD
open PySem PySem.W
def topT(tb:String->Option aK)(p:ar)(w:al)(N : Nat)(a:Option ag):Nat->aX->Thread->Option aX
 |0,_,_=>none|n+1,s,t=>match through t with
  |true=>aa s|false=>match stepOk N a t with
   |false=>none|true=>match stepT (denote tb) p w s t with
    |some (s',t')=>topT tb p w N a n s' t'|none=>none
theorem zni{tb:String->Option aK}{p:ar}{w:al}{N : Nat}{a:Option ag}:∀{n:Nat}{s s':aX}{t:Thread},topT tb p w N a n s t=aa s'->topRun tb p w N a n s.abs t=aa s'.abs
 |0,_,_,_,h=>by cases h|n+1,s,s',t,h=>by
  unfold topT at h;unfold topRun;cases b:through t with
  |true=>rw[b]at h;cases h;rfl|false=>
   rw[b]at h;cases H:stepOk N a t with
   |false=>rw[H]at h;cases h|true=>
    rw[H]at h;cases hs:stepT (denote tb) p w s t with
    |none=>rw[hs]at h;cases h|some r=>obtain⟨S,T⟩:=r;rw[hs]at h;dsimp only;rw[stepT_spec hs];exact zni h
def zk8:List av->Nat->BT->Option BT
 |[],_,T=>aa T|o::r,n,T=>match ((T.ins n o).get n).isSome with
  |true=>zk8 r (n+1) (T.ins n o)|false=>none
theorem zg0{life:Life}:∀{l:List av}{n:Nat}{T t:BT},zk8 l n T=aa t->bJ t (n+l.length) life=⟨(bJ T n life).objs++l.toArray,life⟩
 |[],n,T,t,h=>by
  cases h;show bJ T n life=_;simp only[Array.append_empty,List.toArray];rfl
 |o::r,n,T,t,h=>by
  unfold zk8 at h;cases q:((T.ins n o).get n).isSome with
  |false=>rw[q]at h;cases h|true=>
   rw[q]at h;have z:=zg0 (life:=life) h;rw[yx,show n+(r.length+1)=n+1+r.length by omega,z,absHeap_ins q];show Heap.mk (((bJ T n life).objs.push o)++r.toArray) life=_;congr 1;apply ybT;simp
def zsg(p:ar)(w:al)(N:Nat)(s₀ : ak):Option aX :=
 match s₀.heap.isNs aF&&s₀.gens.size==0 with
 |true=>(zk8 s₀.heap.objs.toList 0 .nil).bind fun T=>(topT bZ p w s₀.heap.objs.size (s₀.heap.nsMap aF "__annotations__") N ⟨T,s₀.heap.objs.toList.length,s₀.heap.life,s₀.gens,s₀.drawn,s₀.toks,s₀.os⟩ (topStub p)).bind fun s=>
   match staticsOk (ck p.main.body) s₀.heap s.abs.heap&&namesBound p s.abs.heap&&gensDone s.abs&&laidKept s₀.heap s.abs.heap with
   |true=>aa s|false=>none
 |false=>none
variable{p:ar}{N:Nat}{s:aX}
theorem zp6{w:al}{s₀ : ak}(h:zsg p w N s₀ = aa s):topFrom bZ p w N s₀ = aa s.abs:=by
 unfold zsg at h;unfold topFrom;cases q:s₀.heap.isNs aF&&s₀.gens.size==0 with
 |false=>rw[q]at h;cases h|true=>
  rw[q]at h;obtain⟨T,H,h⟩:=yax.mp h;obtain⟨S,a,h⟩:=yax.mp h;have e:=zg0 (life:=s₀.heap.life) H;have ab:(⟨T,s₀.heap.objs.toList.length,s₀.heap.life,s₀.gens,s₀.drawn,s₀.toks,s₀.os⟩:aX).abs=s₀ := by
   rw[yh]at e;show Shared.mk (bJ T _ _) _ _ _ _=_;rw[e];obtain⟨⟨objs,life⟩,gens,drawn,t,os⟩:=s₀;simp[bJ,BT.list]
  have r:=zni a;rw[ab]at r;dsimp only;rw[r];show (match _ with | true=>aa S.abs | false=>none)=_;cases g:staticsOk (ck p.main.body) s₀.heap S.abs.heap&&namesBound p S.abs.heap&&gensDone S.abs&&laidKept s₀.heap S.abs.heap with
  |false=>rw[g]at h;cases h|true=>rw[g]at h;cases h;rfl
def endsT(p:ar)(w:al)(N:Nat):Option aX:=(fencedOpening bZ p w N).bind (zsg p w N)
theorem zrl{w:al}(h:endsT p w N=aa s):openEnds bZ p w N=aa s.abs:=by
 obtain⟨s₀,a,H⟩:=yax.mp h;exact yax.mpr ⟨s₀,a,zp6 H⟩
def getT(s:aX)(a:Nat):Option av:=match Nat.blt a s.n with
 |true=>alive ((s.tree.get a).getD default)|false=>none
theorem ztz(s:aX)(a:Nat):s.abs.heap.get? a=getT s a:=by
 show (bJ s.tree s.n s.life).get? a=getT s a;unfold Heap.get? getT;rw[absHeap_at];cases h:Nat.blt a s.n with
 |false=>rw[if_neg (fun z=>by rw[(Nat.blt_eq).mpr z]at h;cases h)]|true=>
  rw[if_pos ((Nat.blt_eq).mp h)];generalize (s.tree.get a).getD default=o;obtain⟨c,d,D,sl⟩:=o;cases D <;> rfl
def zpU(n:Nat)(s:aX):ya:=(yC n).filterMap fun a=>(getT s a).map fun o=>(a,o)
theorem ztT(n:Nat)(s:aX):zpU n s=Kof n s.abs.heap:=by
 unfold zpU Kof;congr 1;funext a;rw[ztz]
theorem zpi{w:al}{n:Nat}{α β : Type}{f:ak->α}{g:ya -> β}{a:α × β}(h:(endsT p w N).map (fun s=>(f s.abs,g (zpU n s)))=aa a):(openEnds bZ p w N).map (fun s=>(f s,g (Kof n s.heap)))=aa a:=by
 obtain⟨s,b,H⟩:=yag.mp h;rw[zrl b];refine congrArg aa ?_;rw[<- H,ztT]
end MD
namespace K48
open PySem PyProof.Rows L2 MD
abbrev pw:ar:=PySem.Challenge.pw_shorthead_k48_costs
def zbm(P:ar)(i:Nat):aq:=P.main.body.getD i (.Pass ⟨0,0,0,0⟩)
def top:Nat->aq:=zbm pw
abbrev zka:aq:=top 2
abbrev zfU:aq:=top 3
abbrev zeV:aq:=top 4
abbrev zfT:aq:=top 5
abbrev zhU:aq:=top 19
abbrev ze0:aq:=top 20
abbrev zhV:aq:=top 21
abbrev znC:aq:=top 22
abbrev zj0:aq:=top 25
abbrev zfS:aq:=top 26
abbrev zkb:aq:=top 27
abbrev zf1:aq:=top 29
abbrev zj7:aq:=top 30
abbrev zf0:aq:=top 31
abbrev zjY:aq:=top 32
abbrev zhW:aq:=top 33
abbrev zhJ:aq:=top 35
abbrev zjX:aq:=top 36
abbrev zj1:aq:=top 37
abbrev zjZ:aq:=top 38
abbrev zj2:aq:=top 39
abbrev zeT:aq:=top 40
abbrev zj8:aq:=top 42
abbrev zeU:aq:=top 43
abbrev zd7:aq:=top 44
abbrev zd3:aq:=top 45
abbrev zfV:aq:=top 46
abbrev znD:aq:=top 48
abbrev zd6:aq:=top 49
abbrev zdq:aq:=top 51
abbrev zdo:aq:=za3 (top 52) 0
abbrev zc1:aq:=za3 (top 52) 1
abbrev zdn:aq:=za3 (top 52) 3
abbrev zce:aq:=za3 (top 52) 5
abbrev zcf:aq:=za3 (top 52) 8
abbrev zbQ:aq:=za3 (top 52) 9
abbrev zbZ:aq:=za3 (top 52) 11
abbrev zbH:aq:=za3 (top 52) 12
abbrev zb0:aq:=za3 (top 52) 13
abbrev zbP:aq:=za3 (top 52) 14
abbrev znE:aq:=top 54
abbrev zj5:aq:=top 56
abbrev zhM:aq:=top 57
abbrev zhO:aq:=top 58
abbrev zfZ:aq:=top 59
abbrev zfX:aq:=top 60
abbrev zhP:aq:=top 61
abbrev zdp:aq:=top 62
abbrev zhQ:aq:=top 63
abbrev zj4:aq:=top 64
abbrev zj3:aq:=top 65
abbrev zhS:aq:=top 66
abbrev zhT:aq:=top 67
abbrev zfW:aq:=top 68
abbrev zeW:aq:=top 69
abbrev zeY:aq:=top 70
abbrev zeX:aq:=top 71
abbrev zd4:aq:=top 72
abbrev zeZ:aq:=top 73
abbrev zd5:aq:=top 74
abbrev zfG:aq:=top 75
abbrev zhL:aq:=top 76
abbrev zhR:aq:=top 77
abbrev zfY:aq:=top 78
abbrev zhN:aq:=top 79
abbrev zj6:aq:=top 80
abbrev zhK:aq:=top 81
abbrev sLaw:aq:=top 82
def nms:List af:=(["bits_of", "number_of", "numbers_of", "width_for", "is_whole", "is_between", "is_value", "is_row", "rest_of", "windowed", "around", "breadths", "is_head", "expected", "turned", "check_of", "width_of", "widths", "pieces", "size_of", "opened", "value_told", "form_at", "sort_width", "check_width", "letter_size", "letter_by", "doubt", "first_other", "former_heads"]:List (af))++(["costs", "_law_pot", "_law_pick", "_law_kind", "_law_shape", "_law_value", "_law_head", "_law_expected", "_law_gone", "_law_row", "_law_way", "_law_form", "_law_bits", "_law_width", "_law_pieces", "_law_number", "_law_opened", "_law_offsets", "_law_fitted", "_law_formers", "_law_same", "_law_sort", "_law_goes", "_law_sizes", "_law_pact", "_law_due", "_law_told", "law", "Presser", "HeadError"]:List (af))++(["NoHead", "NoLetter", "NoWord", "NoMore", "NoDeed", "NoPlace", "Beyond", "NoStream", "NoLine", "NoText", "ValueError", "all", "sum", "enumerate", "len", "tuple", "int", "range", "zip", "isinstance", "str", "min", "any", "max", "bool", "reversed"]:List (af))
def nmsE:List (Option (Option ag)):=([aa (aa (.ref 26)),aa (aa (.ref 33)),aa (aa (.ref 40)),aa (aa (.ref 47)),aa (aa (.ref 194)),aa (aa (.ref 201)),aa (aa (.ref 208)),aa (aa (.ref 215)),aa (aa (.ref 229)),aa (aa (.ref 236)),aa (aa (.ref 243)),aa (aa (.ref 248)),aa (aa (.ref 253)),aa (aa (.ref 260)),aa (aa (.ref 267)),aa (aa (.ref 272)),aa (aa (.ref 279)),aa (aa (.ref 284)),aa (aa (.ref 289)),aa (aa (.ref 296)),aa (aa (.ref 303)),aa (aa (.ref 310)),aa (aa (.ref 317)),aa (aa (.ref 324)),aa (aa (.ref 331)),aa (aa (.ref 338)),aa (aa (.ref 345)),aa (aa (.ref 352)),aa (aa (.ref 359)),aa (aa (.ref 364))]:List (Option (Option ag)))++([aa (aa (.ref 486)),aa (aa (.ref 493)),aa (aa (.ref 500)),aa (aa (.ref 505)),aa (aa (.ref 512)),aa (aa (.ref 519)),aa (aa (.ref 524)),aa (aa (.ref 531)),aa (aa (.ref 538)),aa (aa (.ref 545)),aa (aa (.ref 552)),aa (aa (.ref 557)),aa (aa (.ref 564)),aa (aa (.ref 571)),aa (aa (.ref 578)),aa (aa (.ref 585)),aa (aa (.ref 592)),aa (aa (.ref 599)),aa (aa (.ref 606)),aa (aa (.ref 611)),aa (aa (.ref 616)),aa (aa (.ref 623)),aa (aa (.ref 628)),aa (aa (.ref 633)),aa (aa (.ref 640)),aa (aa (.ref 645)),aa (aa (.ref 652)),aa (aa (.ref 659)),aa (aa (.ref 477)),aa (aa (.ref 57))]:List (Option (Option ag)))++([aa (aa (.ref 70)),aa (aa (.ref 82)),aa (aa (.ref 94)),aa (aa (.ref 106)),aa (aa (.ref 118)),aa (aa (.ref 130)),aa (aa (.ref 142)),aa (aa (.ref 154)),aa (aa (.ref 166)),aa (aa (.ref 185)),aa none,aa none,aa none,aa none,aa none,aa none,aa none,aa none,aa none,aa none,aa none,aa none,aa none,aa none,aa none,aa none]:List (Option (Option ag)))
def fnd:List (ac×af):=[(477, "__setattr__"),(477, "base"),(477, "fresh"),(477, "had"),(477, "pact"),(477, "pressed"),(477, "__init__"),(477, "press"),(477, "sent"),(477, "formers"),(477, "ask_head"),(477, "hindrance"),(477, "shortest"),(477, "is_told_anew"),(477, "is_shared"),(477, "is_counted")]
def fndE:List (Option (Option ag)):=[aa (aa (.builtin "object.__setattr__")),aa none,aa none,aa none,aa none,aa none,aa (aa (.ref 378)),aa (aa (.ref 385)),aa (aa (.ref 399)),aa (aa (.ref 413)),aa (aa (.ref 434)),aa (aa (.ref 441)),aa (aa (.ref 455)),aa (aa (.ref 462)),aa (aa (.ref 467)),aa (aa (.ref 474))]
def fnsa:List ac:=[26,33,40,47,194,201,208,215,229,236,243,248]
def fnsb:List ac:=[253,260,267,272,279,284,289,296,303,310,317,324]
def fnsc:List ac:=[331,338,345,352,359,364,378,385,399,413,434,441]
def fnsd:List ac:=[455,462,467,474,486,493,500,505,512,519,524,531]
def fnse:List ac:=[538,545,552,557,564,571,578,585,592,599,606,611]
def fnsf:List ac:=[616,623,628,633,640,645,652,659]
def fns:List ac:=fnsa++fnsb++fnsc++fnsd++fnse++fnsf
def fnE(x q:af)(st:aq):FnT×Bool:=(aa (x,q,zfc st,zbs st,zai st),ae)
def fnsaZ(P:ar):List (FnT×Bool):=[fnE "bits_of" "bits_of" (zbm P 2),fnE "number_of" "number_of" (zbm P 3),fnE "numbers_of" "numbers_of" (zbm P 4),fnE "width_for" "width_for" (zbm P 5),fnE "is_whole" "is_whole" (zbm P 19),fnE "is_between" "is_between" (zbm P 20),fnE "is_value" "is_value" (zbm P 21),fnE "is_row" "is_row" (zbm P 22),fnE "rest_of" "rest_of" (zbm P 25),fnE "windowed" "windowed" (zbm P 26),fnE "around" "around" (zbm P 27),fnE "breadths" "breadths" (zbm P 29)]
def fnsaE:List (FnT×Bool):=fnsaZ pw
def fnsbZ(P:ar):List (FnT×Bool):=[fnE "is_head" "is_head" (zbm P 30),fnE "expected" "expected" (zbm P 31),fnE "turned" "turned" (zbm P 32),fnE "check_of" "check_of" (zbm P 33),fnE "width_of" "width_of" (zbm P 35),fnE "widths" "widths" (zbm P 36),fnE "pieces" "pieces" (zbm P 37),fnE "size_of" "size_of" (zbm P 38),fnE "opened" "opened" (zbm P 39),fnE "value_told" "value_told" (zbm P 40),fnE "form_at" "form_at" (zbm P 42),fnE "sort_width" "sort_width" (zbm P 43)]
def fnsbE:List (FnT×Bool):=fnsbZ pw
def fnscZ(P:ar):List (FnT×Bool):=[fnE "check_width" "check_width" (zbm P 44),fnE "letter_size" "letter_size" (zbm P 45),fnE "letter_by" "letter_by" (zbm P 46),fnE "doubt" "doubt" (zbm P 48),fnE "first_other" "first_other" (zbm P 49),fnE "former_heads" "former_heads" (zbm P 51),fnE "__init__" "Presser.__init__" (za3 (zbm P 52) 0),fnE "press" "Presser.press" (za3 (zbm P 52) 1),fnE "sent" "Presser.sent" (za3 (zbm P 52) 3),fnE "formers" "Presser.formers" (za3 (zbm P 52) 5),fnE "ask_head" "Presser.ask_head" (za3 (zbm P 52) 8),fnE "hindrance" "Presser.hindrance" (za3 (zbm P 52) 9)]
def fnscE:List (FnT×Bool):=fnscZ pw
def fnsdZ(P:ar):List (FnT×Bool):=[fnE "shortest" "Presser.shortest" (za3 (zbm P 52) 11),fnE "is_told_anew" "Presser.is_told_anew" (za3 (zbm P 52) 12),fnE "is_shared" "Presser.is_shared" (za3 (zbm P 52) 13),fnE "is_counted" "Presser.is_counted" (za3 (zbm P 52) 14),fnE "costs" "costs" (zbm P 54),fnE "_law_pot" "_law_pot" (zbm P 56),fnE "_law_pick" "_law_pick" (zbm P 57),fnE "_law_kind" "_law_kind" (zbm P 58),fnE "_law_shape" "_law_shape" (zbm P 59),fnE "_law_value" "_law_value" (zbm P 60),fnE "_law_head" "_law_head" (zbm P 61),fnE "_law_expected" "_law_expected" (zbm P 62)]
def fnsdE:List (FnT×Bool):=fnsdZ pw
def fnseZ(P:ar):List (FnT×Bool):=[fnE "_law_gone" "_law_gone" (zbm P 63),fnE "_law_row" "_law_row" (zbm P 64),fnE "_law_way" "_law_way" (zbm P 65),fnE "_law_form" "_law_form" (zbm P 66),fnE "_law_bits" "_law_bits" (zbm P 67),fnE "_law_width" "_law_width" (zbm P 68),fnE "_law_pieces" "_law_pieces" (zbm P 69),fnE "_law_number" "_law_number" (zbm P 70),fnE "_law_opened" "_law_opened" (zbm P 71),fnE "_law_offsets" "_law_offsets" (zbm P 72),fnE "_law_fitted" "_law_fitted" (zbm P 73),fnE "_law_formers" "_law_formers" (zbm P 74)]
def fnseE:List (FnT×Bool):=fnseZ pw
def fnsfZ(P:ar):List (FnT×Bool):=[fnE "_law_same" "_law_same" (zbm P 75),fnE "_law_sort" "_law_sort" (zbm P 76),fnE "_law_goes" "_law_goes" (zbm P 77),fnE "_law_sizes" "_law_sizes" (zbm P 78),fnE "_law_pact" "_law_pact" (zbm P 79),fnE "_law_due" "_law_due" (zbm P 80),fnE "_law_told" "_law_told" (zbm P 81),fnE "law" "law" (zbm P 82)]
def fnsfE:List (FnT×Bool):=fnsfZ pw
def fnsE:List (FnT×Bool):=fnsaE++fnsbE++fnscE++fnsdE++fnseE++fnsfE
def bls(K:ya):List Bool:=[ybo K 477 Str.empty&&ybM K 477&&ycn K 477&&ycp K 477&&yaD K (.ref 477),yad K (.ref 378),yad K (.ref 385),yad K (.ref 399),yad K (.ref 413),yad K (.ref 434),yad K (.ref 441),yad K (.ref 455),yad K (.ref 462),yad K (.ref 467),yad K (.ref 474),zrW K ["HeadError", "NoHead", "NoLetter", "NoWord", "NoMore", "NoDeed", "NoPlace", "Beyond", "NoStream", "NoLine", "NoText"],zrX K ["NoMore", "NoHead"]]
def blsE:List Bool:=yp 13 ae
def obs(K:ya):List (Option (Option ag))×List (Option (Option ag))×List (FnT×Bool)×List Bool:=(nms.map (yai K aF),fnd.map (fun p=>yU K (.ref p.1) p.2),fns.map (fnV K),bls K)
def expd:List (Option (Option ag))×List (Option (Option ag))×List (FnT×Bool)×List Bool:=(nmsE,fndE,fnsE,blsE)
def vwP(P:ar):ar:=viewOf (([0,2,3,4,5,7,8,9,10,11,12,13,14,15,16,17,19,20,21,22,23,25,26,27,29,30,31,32,33,35]:List (Nat))++([36,37,38,39,40,42,43,44,45,46,48,49,51,52,54,56,57,58,59,60,61,62,63,64,65,66,67,68,69,70]:List (Nat))++([71,72,73,74,75,76,77,78,79,80,81,82]:List (Nat))) P
abbrev vw:ar:=vwP pw
def xtP(R:yJ)(P:ar)(s:ak):Bool:=PySem.W.xlAt (vwP P) [] s&&PySem.W.recOk (PySem.W.RowW.records R) s
abbrev rw0:yJ:=ybU.row.toRowW
abbrev xt:ak->Bool:=xtP rw0 pw
def zO(R:yJ)(P:ar)(s:PySem.W.SharedT):=ydz (vwP P) [] (ck P.main.body) (xtP R P) ae s.abs
def zG(P:ar):=PySem.W.openGood (vwP P) []
def zE(P:ar)(w:al):=MD.endsT P w 10114
def hl0(R:yJ)(P:ar)(w:al):=(zE P w).map fun s=>(zO R P s).1.defs.take 36
def hr0(R:yJ)(P:ar)(_:al):=aa ((zG P).1.defs.take 36)
def hl1(R:yJ)(P:ar)(w:al):=(zE P w).map fun s=>(zO R P s).1.defs.drop 36
def hr1(R:yJ)(P:ar)(_:al):=aa ((zG P).1.defs.drop 36)
def hl2(R:yJ)(P:ar)(w:al):=(zE P w).map fun s=>(zO R P s).1.ownsOk
def hr2(R:yJ)(P:ar)(_:al):=aa ((zG P).1.ownsOk)
def hl3(R:yJ)(P:ar)(w:al):=(zE P w).map fun s=>(zO R P s).1.names
def hr3(R:yJ)(P:ar)(_:al):=aa ((zG P).1.names)
def hl4(R:yJ)(P:ar)(w:al):=(zE P w).map fun s=>((zO R P s).1.globalsOk,(zO R P s).1.builtinsOk,(zO R P s).1.noLimit,(zO R P s).1.gens)
def hr4(R:yJ)(P:ar)(_:al):=aa (((zG P).1.globalsOk,(zG P).1.builtinsOk,(zG P).1.noLimit,(zG P).1.gens))
def hl5(R:yJ)(P:ar)(w:al):=(zE P w).map fun s=>(zO R P s).2.1
def hr5(R:yJ)(P:ar)(_:al):=aa ((zG P).2.1)
def hl6(R:yJ)(P:ar)(w:al):=(zE P w).map fun s=>(zO R P s).2.2.1
def hr6(R:yJ)(P:ar)(_:al):=aa ((zG P).2.2.1)
def hl7(R:yJ)(P:ar)(w:al):=(zE P w).map fun s=>(zO R P s).2.2.2
def hr7(R:yJ)(P:ar)(_:al):=aa ((zG P).2.2.2)
def hl8(N:List af)(P:ar)(w:al):=(zE P w).map fun s=>N.map (yai (zpU 660 s) aF)
def hr8(N:List af)(P:ar)(_:al):=aa (nmsE)
def f9(K:ya):List (Option (Option ag))×List Bool:=(fnd.map (fun p=>yU K (.ref p.1) p.2),bls K)
def hl9(F:ya->List (Option (Option ag))×List Bool)(P:ar)(w:al):=(zE P w).map fun s=>F (zpU 660 s)
def hr9(F:ya->List (Option (Option ag))×List Bool)(P:ar)(_:al):=aa ((fndE,blsE))
def hl10(R:yJ)(P:ar)(w:al):=(zE P w).map fun s=>fnsa.map (fnV (zpU 660 s))
def hr10(R:yJ)(P:ar)(_:al):=aa ((fnsaZ P))
def hl11(R:yJ)(P:ar)(w:al):=(zE P w).map fun s=>fnsb.map (fnV (zpU 660 s))
def hr11(R:yJ)(P:ar)(_:al):=aa ((fnsbZ P))
def hl12(R:yJ)(P:ar)(w:al):=(zE P w).map fun s=>fnsc.map (fnV (zpU 660 s))
def hr12(R:yJ)(P:ar)(_:al):=aa ((fnscZ P))
def hl13(R:yJ)(P:ar)(w:al):=(zE P w).map fun s=>fnsd.map (fnV (zpU 660 s))
def hr13(R:yJ)(P:ar)(_:al):=aa ((fnsdZ P))
def hl14(R:yJ)(P:ar)(w:al):=(zE P w).map fun s=>fnse.map (fnV (zpU 660 s))
def hr14(R:yJ)(P:ar)(_:al):=aa ((fnseZ P))
def hl15(R:yJ)(P:ar)(w:al):=(zE P w).map fun s=>fnsf.map (fnV (zpU 660 s))
def hr15(R:yJ)(P:ar)(_:al):=aa ((fnsfZ P))
end K48
namespace PySem.W.Fast
lay_quick K48.hl0 K48.hr0 K48.hl1 K48.hr1 K48.hl2 K48.hr2 K48.hl3 K48.hr3 K48.hl4 K48.hr4 K48.hl5 K48.hr5 K48.hl6 K48.hr6 K48.hl7 K48.hr7 K48.hl8 K48.hl9 K48.hl10 K48.hl11 K48.hl12 K48.hl13 K48.hl14 K48.hl15
end PySem.W.Fast
namespace K48
open PySem PyProof.Rows L2 MD PySem.W.Fast
theorem hlq0(w:al):tw15972106659706883642 rw0 pw w=tw1759917152560474235 rw0 pw w:=by kernel_rfl
theorem hlq1(w:al):tw4018909147390813421 rw0 pw w=tw3117126202212790879 rw0 pw w:=by kernel_rfl
theorem hlq2(w:al):tw3737024888275814692 rw0 pw w=tw3344903964588143236 rw0 pw w:=by kernel_rfl
theorem hlq3(w:al):tw11590234499327196972 rw0 pw w=tw1179667655779189211 rw0 pw w:=by kernel_rfl
theorem hlq4(w:al):tw8565351476707980253 rw0 pw w=tw13849074547926388132 rw0 pw w:=by kernel_rfl
theorem hlq5(w:al):tw1983792736165121276 rw0 pw w=tw4636072084986117971 rw0 pw w:=by kernel_rfl
theorem hlq6(w:al):tw5293812566991966714 rw0 pw w=tw8773258209857769652 rw0 pw w:=by kernel_rfl
theorem hlq7(w:al):tw11923885797106658670 rw0 pw w=tw13124224013052962597 rw0 pw w:=by kernel_rfl
theorem hlq8(w:al):tw9288774510078476877 nms pw w=hr8 nms pw w:=by kernel_rfl
theorem hlq9(w:al):tw3119653436408845909 f9 pw w=hr9 f9 pw w:=by kernel_rfl
theorem hlq10(w:al):tw15721896831082035706 rw0 pw w=hr10 rw0 pw w:=by kernel_rfl
theorem hlq11(w:al):tw4254349494386934204 rw0 pw w=hr11 rw0 pw w:=by kernel_rfl
theorem hlq12(w:al):tw8163218484197486485 rw0 pw w=hr12 rw0 pw w:=by kernel_rfl
theorem hlq13(w:al):tw874879850619119698 rw0 pw w=hr13 rw0 pw w:=by kernel_rfl
theorem hlq14(w:al):tw16876041482627181997 rw0 pw w=hr14 rw0 pw w:=by kernel_rfl
theorem hlq15(w:al):tw16866104489541749007 rw0 pw w=hr15 rw0 pw w:=by kernel_rfl
end K48
namespace L2
open PySem PySem.Spec PyProof.Rows
variable{X:Cx}
section
theorem zmn:OpR X (aL .Mult) (fun x y H Q=>∃z n,x = .str z/\y = .int n/\MulOk z n/\Q (.str (Txt.mul z n)) H):=by
 intro pins s σ H x y v u Q I R r h;obtain⟨z,n,rfl,rfl,a,q⟩:=h;obtain⟨t,rfl⟩:=R;obtain⟨t',rfl⟩:=r;exact SB.mul a fun t' T=>⟨.str _,H,I.tok _,⟨_,rfl⟩,q⟩
theorem zjJ:CallR X (.type "int") (fun xs H Q=>∃z n,xs=[.str z]/\yaO z=aa n/\z.length<=640/\Q (.int n) H):=by
 intro pins s σ H xs us Q I r h;obtain⟨z,n,rfl,hn,hl,q⟩:=h;obtain⟨u,rfl,t,rfl⟩:=zcA r;exact PySem.W.KIN.call_text hn hl ⟨.int n,H,I.tok _,⟨_,rfl⟩,q⟩
theorem zhY:OpR X (aL .FloorDiv) (rI (fun _ j=>0<j/\j<2^64) fun i j=>.int (i/j)):=opI fun i j _ _ _ _ _ h q=>by
 have c:(0:Int)<j:=h.1;have b:j<2^64:=h.2;refine floordiv_int (by omega) (by rw[ydh i (by omega)];exact q) (.inl (PyProof.noPylong_of_log2 ?_));have H:j.natAbs<2^64:=by omega
 have a:j.natAbs.log2<64:=(Nat.log2_lt (by omega)).mpr H;omega
end
theorem zq1:yaO (("1" : af)++Txt.mul "0" 300)=aa (10^300):=by decide +kernel
theorem huge:∃N:Int,0<N/\yaO (("1" : af)++Txt.mul "0" 300)=aa N:=⟨_,by decide +kernel,zq1⟩
theorem huge_len:(("1" : af)++Txt.mul "0" 300).length<=640:=by decide +kernel
def clSub:List (af×ac)->List (af×ac)->Prop
 |[],_=>True| (n,a)::r,cells=>cells.lookup n=aa a/\clSub r cells
theorem clSub.at:∀{cl cells:List (af×ac)}{x:af}{c:ac},clSub cl cells->cl.lookup x=aa c->cells.lookup x=aa c
 |[],_,_,_,_,e=>by simp at e| (n,a)::r,cells,x,c,h,e=>by
  rw[yaP]at e;cases H:x==n with
  |true=>
   rw[H]at e;cases e;have q:x=n:=by simpa using H
   rw[q];exact h.1
  |false=>
   rw[H]at e;exact clSub.at h.2 e
structure CompOk(X:Cx)(N0:List af)(scope:aO)(xs:List af)(cl:List (af×ac)):Prop where
 clos:closureFor scope X.env=pure cl
 kind:scope.kind = .function
 nocell:(scope.names.all fun y=>decide (y.2 ≠ .cell))=ae
 locs:(scope.names.all fun y=>decide (y.2 ≠ .local)||(decide (scope.names.lookup y.1=aa .local)&&decide (y.1∉N0)))=ae
 sub:clSub cl X.env.cells
 has:(scope.names.all fun y=>decide (y.2 ≠ .free)||((cl.lookup y.1).isSome&&(decide (X.env.kindOf y.1=aa .cell)||decide (X.env.kindOf y.1=aa .free))))=ae
 hid:N0=X.N∨(N0.length=X.N.length/\((N0.zip X.N).all fun p=>decide (p.1=p.2)||(scope.names.lookup p.1).isNone)=ae)
def Cx.comp(X:Cx)(N0:List af)(scope:aO)(xs:List af)(cl:List (af×ac))(C:ac)(s:ak)(H:Hp)(fp:List ac):Cx :=
 { X with N:=N0++xs,s₀ := s,H₀ := H,env:=b6 scope cl C X.env,outer:=X.stack,stack:=X.stack,ex:=fp,fn:=fun _=>ai,pn:=[] }
theorem zcI{env:aH}:∀{names:List (af×bG)}{x:af}{k:bG},
  (names.map fun(n,k)=>if (k==NameKind.free&&env.scope.kind == .function&&env.kindOf n==aa .cell) then (n,NameKind.cell) else (n,k)).lookup x=aa k →
  ∃k',names.lookup x=aa k'/\(x,k')∈names/\(k'=k∨(k' = .free/\k = .cell))
 |[],_,_,h=>by simp at h| (n,q)::r,x,k,h=>by
  rw[yy]at h;cases H:x==n with
  |true=>
   have e:x=n:=by simpa using H
   subst e;refine⟨q,by simp[yaP],yaN,?_⟩;dsimp only at h;split at h
   ·rename_i a;simp[yaP]at h;have:q = .free:=by
     simp at a;exact a.1.1
    exact .inr ⟨this,h.symm⟩
   ·simp[yaP]at h;exact .inl h
  |false=>
   have h':(r.map fun(n,k)=>if (k==NameKind.free&&env.scope.kind == .function&&env.kindOf n==aa .cell) then (n,NameKind.cell) else (n,k)).lookup x=aa k:=by
    dsimp only at h;split at h <;> (simp only[yaP,H]at h;exact h)
   obtain⟨k',c,b,E⟩:=zcI h';exact⟨k',by simp only[yaP,H];exact c,yY _ b,E⟩
variable{N0:List af}{scope:aO}{xs:List af}{cl:List (af×ac)}{y:af×bG}{x:af}{i:Nat}
section
theorem CompOk.nc(S:CompOk X N0 scope xs cl):∀y∈scope.names,y.2 ≠ .cell:=fun y h=>of_decide_eq_true (ya1.mp S.nocell y h)
theorem CompOk.lo(S:CompOk X N0 scope xs cl)(H:y∈scope.names)(h:y.2 = .local):scope.names.lookup y.1=aa .local/\y.1∉N0:=by
 have q:=ya1.mp S.locs y H;rw[ycM,yL,decide_eq_true_eq,decide_eq_true_eq,decide_eq_true_eq]at q;rcases q with q|q
 ·exact absurd h q
 ·exact q
theorem CompOk.fr(S:CompOk X N0 scope xs cl)(H:y∈scope.names)(h:y.2 = .free):(∃c,cl.lookup y.1=aa c)/\(X.env.kindOf y.1=aa .cell∨X.env.kindOf y.1=aa .free):=by
 have q:=ya1.mp S.has y H;rw[ycM,yL,ycM,decide_eq_true_eq,decide_eq_true_eq,decide_eq_true_eq]at q;rcases q with q|q
 ·exact absurd h q
 ·exact⟨ycw.mp q.1,q.2⟩
theorem CompOk.vis(S:CompOk X N0 scope xs cl)(h:Vis (bh scope X.env) x)(H:x∈N0):∃c,cl.lookup x=aa c/\(X.env.kindOf x=aa .cell∨X.env.kindOf x=aa .free):=by
 have go:∀k,(bh scope X.env).names.lookup x=aa k->(k = .local∨k = .cell∨k = .free)->∃c,cl.lookup x=aa c/\(X.env.kindOf x=aa .cell∨X.env.kindOf x=aa .free):=fun k e b=>by
  obtain⟨k',_,a,E⟩:=zcI e;have d:k' = .free:=by
   rcases E with E|E
   ·subst E;rcases b with rfl|rfl|rfl
    ·exact absurd H (S.lo a rfl).2
    ·exact absurd rfl (S.nc _ a)
    ·rfl
   ·exact E.1
  obtain⟨⟨c,q⟩,r⟩:=S.fr a d;exact⟨c,q,r⟩
 rcases h with h|h|h
 ·exact go _ h (.inl rfl)
 ·exact go _ h (.inr (.inl rfl))
 ·exact go _ h (.inr (.inr rfl))
theorem CompOk.len(S:CompOk X N0 scope xs cl):N0.length=X.N.length:=S.hid.elim (fun h=>by rw[h]) fun h=>h.1
theorem CompOk.same(S:CompOk X N0 scope xs cl)(e:N0[i]?=aa x)(h:Vis (bh scope X.env) x):X.N[i]?=aa x:=by
 rcases S.hid with q|⟨b,Q⟩
 ·rw[<- q];exact e
 ·have hi:i<N0.length:=(yc.mp e).1;have H:∃k',scope.names.lookup x=aa k':=by
   rcases h with h|h|h <;> (obtain⟨k',z,_⟩:=zcI h;exact⟨k',z⟩)
  obtain⟨k',a⟩:=H;have E:=yf (show i<X.N.length by omega);have hm:(x,X.N[i]'(by omega))∈N0.zip X.N:=yW (i:=i) (by rw[List.getElem?_zip_eq_some];exact⟨e,E⟩);have:=ya1.mp Q _ hm;rw[a]at this;simp at this;rw[E,<- this]
theorem CompOk.hasC(S:CompOk X N0 scope xs cl)(h:(bh scope X.env).names.lookup x=aa .cell∨(bh scope X.env).names.lookup x=aa .free):∃c,cl.lookup x=aa c:=by
 have go:∀k,(bh scope X.env).names.lookup x=aa k->(k = .cell∨k = .free)->∃c,cl.lookup x=aa c:=fun k e H=>by
  obtain⟨k',_,a,E⟩:=zcI e;have b:k' = .free:=by
   rcases E with E|E
   ·subst E;rcases H with rfl|rfl
    ·exact absurd rfl (S.nc _ a)
    ·rfl
   ·exact E.1
  exact(S.fr a b).1
 rcases h with h|h
 ·exact go _ h (.inl rfl)
 ·exact go _ h (.inr rfl)
end
variable{pins:List (ac×av)}{σ : St}{H2:Hp}{s2:ak}{fp:List ac}{C:ac}{H':Hp}{h':au}{m':af->Option ag}{pins':List (ac×av)}{σ':St}{s':ak}{P:ar}{H:Hp}{h:au}{its:List ag}{n:Nat}
section
theorem ztK(I:Inv X pins σ H2 s2)(S:CompOk X N0 scope xs cl)(f2:∀b∈fp,zem X pins H2 b)(a:∀b∈fp,b<s2.heap.objs.size)(d:s2.heap.objs.size<=C):(X.comp N0 scope xs cl C s2 H2 fp).Ok where
 mod:=I.ok.mod
 kind:=S.kind
 glob:=I.ok.glob
 blt:=I.ok.blt
 above:=d
 inj:=fun x y c g f=>I.ok.inj x y c (S.sub.at g) (S.sub.at f)
 has:=fun x h=>S.hasC h
 cab:=fun _ _ h=>nomatch h
 hd:=I.ok.hd
 frames:=I.ok.frames
 stk := .inl rfl
 exf:=fun b H=>⟨yB (yF (a b H) d),fun x c e=>(f2 b H).2.2.2.2.1 x c (S.sub.at e)⟩
 bs:=I.bs
 bsz:=yM I.ok.bsz I.sz
 noex:=fun b o e H=>by
  rcases (f2 b H).2.2.2.1 with z|z
  ·exact I.ok.noex b o e z
  ·exact absurd (yF (yg e) (yM I.ok.bsz z)) (yac _)
 exfs:=fun b H z=>by
  rcases yA.mp (I.stkSub b z) with q|q
  ·exact(f2 b H).2.1 q
  ·exact(f2 b H).2.2.1 q
 funs:=I.stack
 frf:=I.stkFree
theorem zjD(I:Inv X pins σ H2 s2)(f2:∀b∈fp,zem X pins H2 b)(u:Un (frs X.stack) fp H2 H' s2.heap h'){c:ac}{v:Option ag}(e:X.env.cells.lookup x=aa c)(z:s2.heap.IsCell c v):h'.IsCell c v:=by
 obtain⟨o,h,hd⟩:=z;obtain⟨sl,q⟩:=u.any h (I.freeC x c e) fun H=>(f2 c H).2.2.2.2.1 x c e rfl;exact⟨_,q,hd⟩
theorem zlW(I:Inv X pins σ H2 s2)(S:CompOk X N0 scope xs cl)(f2:∀b∈fp,zem X pins H2 b)(u:Un (frs X.stack) fp H2 H' s2.heap h')(i:Nat)(x:af)(v:V)(d:(N0++xs)[i]?=aa x)(E:(σ ++ yp xs.length none)[i]?=aa (aa v))(e:Vis (bh scope X.env) x) : ∃w,RelV v w/\Look (b6 scope cl C X.env) h' m' x w:=by
 have hl:=I.len;have hl0:=S.len;by_cases hi:i < σ.length
 ·rw[yO (by omega)]at d;rw[yO hi]at E;obtain⟨c,f,h⟩:=S.vis e (yW d);obtain⟨m,_,H⟩:=I.loc;have g:Vis X.env.scope x := .inr h;obtain⟨w,r,l⟩:=H i x v (S.same d e) E g;have a:=S.sub.at f;refine⟨w,r,.inr ⟨?_,c,f,?_⟩⟩
  ·rcases e with e|e|e
   ·obtain⟨k',_,m2,m3⟩:=zcI e;rcases m3 with m3|m3
    ·exact absurd (yW d) (S.lo m2 m3).2
    ·exact nomatch m3.2
   ·exact .inl e
   ·exact .inr e
  ·rcases l with⟨q,_⟩|⟨_,j,q,z⟩
   ·rcases h with h|h
    ·rw[q]at h;cases h
    ·rw[q]at h;cases h
   ·rw[a]at q;cases q;exact zjD I f2 u a z
 ·rw[yaF (by omega),ycx]at E;split at E <;> cases E
theorem zdR(I:Inv X pins σ H2 s2)(S:CompOk X N0 scope xs cl)(f2:∀b∈fp,zem X pins H2 b)(J:Inv (X.comp N0 scope xs cl C s2 H2 fp) pins' σ' H' s') : Inv (X.comp N0 scope xs cl C s2 H2 fp) pins' (σ ++ yp xs.length none) H' s' :=
 ⟨J.ok,J.os,J.bare,J.base,let ⟨m,hn,_⟩:=J.loc;⟨m,hn,fun i x v a E e=>zlW I S f2 J.base i x v a E e⟩,J.cell,J.free,J.freeC,J.pin,J.hok,by
  rw[yD,ybt];show σ.length+xs.length=(N0++xs).length;rw[yD,I.len,S.len]⟩
theorem zhn{D:ac}{O:av}{s:ak}(I:Inv X pins σ H2 s2)(S:CompOk X N0 scope xs cl)(f2:∀b∈fp,zem X pins H2 b)(H:∀b∈fp,b<s2.heap.objs.size)(f:s2.heap.objs.size<=C)(d:s2.heap.objs.size<=D)(a:D≠C)(k:∀b o,s2.heap.get? b=aa o->s.heap.get? b=aa o)(j:s.os=s2.os)(l:aU s.gens)(hn:s.heap.Ns C m')(hd:s.heap.get? D=aa O)(h:∀v,O.data ≠ .cell v) : Inv (X.comp N0 scope xs cl C s2 H2 fp) [(D,O)] (σ ++ yp xs.length none) H2 s :=
 have u:Un (frs X.stack) fp H2 H2 s2.heap s.heap:=Un.kept k
 ⟨ztK I S f2 H f,j,l,u,⟨m',hn,fun i x v n m E=>zlW I S f2 u i x v n m E⟩,
  fun x c e=>by
   obtain⟨v,z⟩:=I.cell x c (S.sub.at e);exact⟨v,zjD I f2 u (S.sub.at e) z⟩,
  I.hok.fresh f,fun x c e=>I.freeC x c (S.sub.at e),
  fun p g=>by
   have e:p=(D,O):=yS.mp (show p∈[(D,O)] from g);subst e;refine⟨hd,I.hok.fresh d,a,fun z=>?_,h⟩;obtain⟨_,o,q,_⟩:=I.stack.mem z;exact absurd (yF (yg q) d) (yac _),
  I.hok.kept k,by
   rw[yD,ybt];show σ.length+xs.length=(N0++xs).length;rw[yD,I.len,S.len]⟩
theorem zgm{w:al}{a:ac}{o:HO}(x:HOk P w H h)(hn:H a=none)(new:ObjOk P w (upd H a o) h a o):HOk P w (upd H a o) h:=fun b u e=>by
 by_cases d:b=a
 ·subst d;rw[zaF]at e;cases e;exact new
 ·rw[zax d]at e;exact(x b u e).stay (fun _ _ _ q=>q) (fun c q=>by rw[zax (zar q hn)];exact q) fun c ys q=>by rw[zax (zar q hn)];exact q
theorem zlX{D:ac}{ys:List V}(I:Inv X pins σ H2 s2)(f2:∀b∈fp,zem X pins H2 b)(h:s2.heap.objs.size<=D)
  (J:Inv (X.comp N0 scope xs cl C s2 H2 fp) pins' σ' H' s') (hn:H' D=none) (e:s'.heap.get? D=aa { cls := .type "list", data := .seq its.toArray n }) (r:Vals ys its) (H:ys.length<=sizeLine) :
  Inv X pins σ (upd H' D (.lst ys)) s':=by
 have u:Un (frs X.stack) fp H2 H' s2.heap s'.heap:=J.base;have neD:∀b o,s2.heap.get? b=aa o->b≠D:=fun b o q=>yB (yF (yg q) h);have neT:∀b o,H2 b=aa o->b≠D:=fun b o q=>yB (yF (I.hok.lt q) h);refine I.call' (ch:=fp) J.os ⟨u.keep,u.slot,fun b o q m f=>?_,u.there,fun b z q=>?_,fun b o z q=>?_,fun b ps q=>?_⟩ (zgm J.hok hn ⟨H,its,n,r,e⟩) J.bare fun b g=>?_
 ·rw[zax (neD b o q)];exact u.free b o q m f
 ·rw[zax (neT b _ q)];exact u.tups b z q
 ·rw[zax (neT b _ q)];exact u.frzs b o z q
 ·rw[zax (neT b _ q)];exact u.tbls b ps q
 ·obtain⟨_,d,_,c,a,Z⟩:=f2 b g;exact⟨c,d,a,Z⟩
end
def PIf(X:Cx)(i:List am)(t:TT):Prop :=
 ∀(pins:List (ac×av))(s:ak)(σ : St)(H:Hp)(Q:Bool->Hp->Prop),Inv X pins σ H s->t σ H Q →
  wpAny (ao X.prog X.w) X.A (forIn i ae fun c r=>if r=ae then do let ok <- isTrue c X.env (eval c X.env);pure (ForInStep.yield ok) else pure (ForInStep.yield r)) (TP X pins σ Q) X.xe s
def tYes:TT:=fun _ H Q=>Q ae H
theorem zsX:PIf X [] tYes:=fun _ _ _ H _ I h=>wpAny_tests_nil ⟨H,I,h⟩
theorem zsW{c:am}{t:TT}(h:PT X c t):PIf X [c] t:=fun pins s σ H Q I a=>wpAny_tests_one (h pins s σ H Q I a)
def zhE(n:Nat)(w:TI)(g:TG)(tf:TT)(te:TE)(f:List V->Hp->Prop):St->Hp->Prop:=fun σ H=>w σ H fun J H1=>∃W:Nat->Nat->List V->Hp->Prop,(∃m,W 0 m [] H1)/\∀i m ys H,W i m ys H →
 ys.length<=sizeLine/\((J.stop i H/\f ys H)∨(J.go i H/\∃(Y:V->Hp->Prop)(Z:Hp->Prop),(∀y H4,Y y H4->ys.length<sizeLine/\∃m',m'<m/\W (i+1) m' (ys++[y]) H4)/\(∀h,Z h->∃m',m'<m/\W (i+1) m' ys h) ∧
  ∀x H',J.yld i H x H'->g x (σ ++ yp n none) H' fun a H2=>tf a H2 fun b h=>if b=ae then te a h Y else Z h))
variable{s:ak}{elt iter:am}{ifs:List am}{pos:ax}
theorem zmX{prog:ar}{w:al}{A:az}{R:bB->ak->Prop}{t:am}{it f:ag}{env:aH}(I:Nat->ak->Prop)
  (turn:∀n s,I n s->wpAny (ao prog w) A (bn it) (fun r a=>match r with
   |none=>R (.ok .next) a
   |some v=>wpAny (ao prog w) A (bV t it v) (fun _ T=>wpAny (ao prog w) A (aV t env v) (fun _ e=>
     wpAny (ao prog w) A (forIn ifs ae fun c r=>if r=ae then do let ok <- isTrue c env (eval c env);pure (ForInStep.yield ok) else pure (ForInStep.yield r)) (fun ok S=>
      if ok=ae then wpAny (ao prog w) A (eval elt env) (fun x d=>wpAny (ao prog w) A (call (.builtin "list.append") [f,x]) (fun _ b=> ∃m,m<n/\I m b) (fun _ _=>False) d) (fun _ _=>False) S
      else ∃m,m<n/\I m S) (fun _ _=>False) e) (fun _ _=>False) T) (fun _ _=>False) a) (fun _ _=>False) s)
  (n:Nat) (h:I n s):codeAny (ao prog w) A (.compLoop (.ListComp elt [⟨t,iter,ifs,0⟩] scope pos) 0 it f env) R s:=by
 refine codeAny_loop rfl I (fun n s l=>?_) n h
 show wpAny _ A (Sem.onRaise (compTurn _ 0 it f env) fun x=>do aS x env;theTreesLotGoes x) _ _ s
 refine wpAny_noted ?_
 rw[compTurn_list]
 refine aj (cg (aj (aA (turn n s l) (fun r a h₁=> ?_) fun _ _ z=>z.elim)))
 cases r with
 |none=>exact aw h₁
 |some v=>
  refine aj (aA h₁ (fun _ T k=> ?_) fun _ _ z=>z.elim)
  refine aj (aA k (fun _ e j=>aj (aA j (fun ok S H=> ?_) fun _ _ z=>z.elim)) fun _ _ z=>z.elim)
  cases ok with
  |false=>exact aw ⟨rfl,H⟩
  |true=>
   refine aj (aj (aA H (fun x d i=> ?_) fun _ _ z=>z.elim))
   exact aj (aA i (fun _ b g=>aw (aw ⟨rfl,g⟩)) fun _ _ z=>z.elim)
variable{tg:am}{tf:TT}{te:TE}{it:ac}{J:It}{fin:List V->Hp->Prop}
section
variable{wi:TI}{g:TG}
theorem zho{tn:Nat->au->Prop}{W:Nat->Nat->List V->Hp->Prop}{m0:Nat}{RR:ag->ac->bB->ak->Prop}(hc:X.calm=ae)(hx:X.xe=fun _ _=>False)(S:CompOk X N0 scope xs cl)(hg:∀C s H fp,PG (X.comp N0 scope xs cl C s H fp) tg g)(hf:∀C s H fp,PIf (X.comp N0 scope xs cl C s H fp) ifs tf)(he:∀C s H fp,PE (X.comp N0 scope xs cl C s H fp) elt te)(I:Inv X pins σ H2 s2)(T:Turn X.prog X.w X.K tg J fp it tn)(st2:tn 0 s2.heap)(f2:∀b∈fp,zem X pins H2 b)(w0:W 0 m0 [] H2)(turn:∀i m ys H,W i m ys H->ys.length<=sizeLine/\((J.stop i H/\fin ys H)∨(J.go i H/\∃(Y:V->Hp->Prop)(Z:Hp->Prop),(∀y H4,Y y H4->ys.length<sizeLine/\∃m',m'<m/\W (i+1) m' (ys++[y]) H4)/\(∀H3,Z H3->∃m',m'<m/\W (i+1) m' ys H3)∧∀x H',J.yld i H x H'->g x (σ ++ yp xs.length none) H' fun P H2=>tf P H2 fun b H3=>if b=ae then te P H3 Y else Z H3)))(hRR:∀(D C:ac)(s':ak)(ys:List V)(H':Hp)(m':af->Option ag),Inv X pins σ (upd H' D (.lst ys)) s'->H' D=none->s'.heap.Ns C m'->zem X pins (upd H' D (.lst ys)) C->fin ys H'->RR (.ref D) C (.ok .next) s') : wpAny (ao X.prog X.w) X.A (newList []) (fun acc s₃=>wpAny (ao X.prog X.w) X.A (newFunctionEnv scope X.env.globals cl [] X.env.qual none .none (aa X.env)) (fun B U=>codeAny (ao X.prog X.w) X.A (.compStart (.ListComp elt [⟨tg,iter,ifs,0⟩] scope pos) 0 (.ref it) acc { B with scope:=bh scope X.env }) (RR acc B.locals) U) X.xe s₃) X.xe s2:=by
 refine aR (wpAny_newFunctionEnv S.nc (by intro y hy;simp at hy) (fun h₁ j h=> ?_) S.kind);dsimp only at j h ⊢;generalize hG:s2.heap.push { cls := .type "list", dict:=none,data := .seq ([]:List ag).toArray }=G at j h ⊢;have szG:G.objs.size=s2.heap.objs.size+1:=by rw[<- hG,yQ]
 have M:s2.heap.objs.size≠G.objs.size:=by rw[szG];exact yB (yaX _)
 have hC:s2.heap.objs.size<=G.objs.size:=by rw[szG];exact ybb _
 have A:∀b∈fp,b<s2.heap.objs.size:=fun b f=>let ⟨_,e,_⟩:=T.obj 0 _ st2 b f;yg e;have old:∀b o,s2.heap.get? b=aa o->h₁.get? b=aa o:=fun b o e=>
  h.extBut b o (yB (yF (yg e) hC)) (ye _ (hG ▸ ye _ e))
 have hacc:h₁.get? s2.heap.objs.size=aa { cls := .type "list", data := .seq ([]:List ag).toArray 0 }:=h.extBut _ _ M (ye _ (hG ▸ yw _ rfl));have l : tn 0 h₁ := T.keep 0 _ _ st2 fun b _ o e=>old b o e;have I3:∀N,Inv (X.comp N0 scope xs cl G.objs.size s2 H2 fp) [(s2.heap.objs.size,{ cls := .type "list", data := .seq ([]:List ag).toArray 0 })] (σ ++ yp xs.length none) H2 { s2 with heap:=h₁,toks:=N }:=fun N=>
  zhn I S f2 A hC (yb _) M old rfl I.bare j hacc fun _ z=>nomatch z
 have w:∀{H':Hp}{o:av},(∀b∈fp,H' b=none)->∀b∈fp,zem (X.comp N0 scope xs cl G.objs.size s2 H2 fp) [(s2.heap.objs.size,o)] H' b:=fun {H' o} hn b f=>by
  refine⟨hn b f,yB (yF (A b f) hC),fun z=>?_,.inl f,fun x c e=>(f2 b f).2.2.2.2.1 x c (S.sub.at e),fun p K=>?_⟩
  ·rcases yA.mp (I.stkSub b z) with q|q
   ·exact(f2 b f).2.1 q
   ·exact(f2 b f).2.2.1 q
  ·have e:p=(s2.heap.objs.size,o):=yS.mp (show p∈[(s2.heap.objs.size,o)] from K);subst e;exact yR (A b f)
 have L:∀N,codeAny (ao X.prog X.w) X.A (.compLoop (.ListComp elt [⟨tg,iter,ifs,0⟩] scope pos) 0 (.ref it) (.ref s2.heap.objs.size) (b6 scope cl G.objs.size X.env)) (RR (.ref s2.heap.objs.size) G.objs.size) { s2 with heap:=h₁,toks:=N }:=by
  intro N;refine zmX (fun n s'=>∃i ys its k H',Inv (X.comp N0 scope xs cl G.objs.size s2 H2 fp) [(s2.heap.objs.size,{ cls := .type "list", data := .seq (its:List ag).toArray k })] (σ ++ yp xs.length none) H' s'/\tn i s'.heap/\(∀b∈fp,H' b=none)/\Vals ys its/\W i n ys H')
   ?_ m0 ⟨0,[],[],0,H2,I3 N,l,fun b f=>(f2 b f).1,.nil,w0⟩
  rintro n s' ⟨i,ys,its,k,H',I',st',fr',rv,w'⟩;obtain⟨hlen,way⟩:=turn i n ys H' w';rcases way with⟨stop,qf⟩|⟨go,Y,Z,hY,hZ,step⟩
  ·refine thn (T.done (X.comp N0 scope xs cl G.objs.size s2 H2 fp) rfl rfl rfl hc i _ s' _ H' (fun _ _=>False) I' (w fr') st' stop) ?_;rintro r s1 ⟨hr,I1⟩;subst hr;obtain⟨e,n1,_⟩:=I1.pin _ (yS.mpr rfl);obtain⟨m1,hn1,_⟩:=I1.loc;refine hRR _ _ s1 ys H' m1 (zlX I f2 (yb _) I1 n1 e rv hlen) n1 hn1 ?_ qf;refine I.fpOk hC ?_;rw[zax M.symm];exact I1.free
  ·refine thn (T.item (X.comp N0 scope xs cl G.objs.size s2 H2 fp) rfl rfl rfl hc i _ s' _ H' (fun _ _=>False) I' (w fr') st' go) ?_;rintro r s1 ⟨u,hr,h1⟩;subst hr;refine thn h1 ?_;rintro _ O ⟨x,H5,I5,r5,y5,E,fr5⟩;have I5':=I5.pinned (w fr5) (T.obj _ _ E);have F:(X.comp N0 scope xs cl G.objs.size s2 H2 fp).xe=fun _ _=>False:=hx;have q6:=hg _ s2 H2 fp _ O _ H5 x u _ I5' r5 (step x H5 y5);rw[F]at q6;refine thn q6 ?_;rintro _ s6 ⟨t,H6,I6,q6⟩;have Q:=hf _ s2 H2 fp _ s6 t H6 _ I6 q6;rw[F]at Q;refine thn Q ?_;rintro b s7 ⟨H7,I7,Q⟩;have kept:∀{R:St}{H':Hp}{s':ak},Inv (X.comp N0 scope xs cl G.objs.size s2 H2 fp) ([(s2.heap.objs.size,{ cls := .type "list", data := .seq its.toArray k })]++zcu fp O.heap) R H' s'->tn (i+1) s'.heap/\∀b∈fp,H' b=none:=fun {R H' s'} Z=>by
    refine⟨T.keep _ _ _ E fun b f o e=>(Z.pin (b,o) (yN _ (yN _ (zca f e)))).1,fun b f=>?_⟩;obtain⟨o,e,d⟩:=T.obj _ _ E b f;exact(Z.pin (b,o) (yN _ (yN _ (zca f e)))).2.1
   cases b with
   |false=>
    rw[if_neg yH];rw[if_neg yH]at Q;obtain⟨m',hm,w7⟩:=hZ _ Q;exact⟨m',hm,i+1,ys,its,k,H7,zdR I S f2 I7.unpinned,(kept I7).1,(kept I7).2,rv,w7⟩
   |true=>
    rw[if_pos rfl];rw[if_pos rfl]at Q;have q8:=he _ s2 H2 fp _ s7 t H7 _ I7 Q;rw[F]at q8;refine thn q8 ?_;rintro y s8 ⟨yv,H8,I8,r8,qY⟩;obtain⟨hz,m',hm,w8⟩:=hY _ _ qY;obtain⟨eD,nD,neC,nfD,_⟩:=I8.pin (s2.heap.objs.size,{ cls := .type "list", data := .seq its.toArray k }) (yN _ (yaV _ (yS.mpr rfl)));have hl:=rv.length;refine br ycH ⟨_,eD,rfl⟩ ycI (ycJ _ _) (ycK s2.heap.objs.size its.toArray k y (by rw[yG];omega)) ⟨eD,?_⟩;have eN:=ycG eD (fun(a:Array ag)=>a.push y);have eA:its.toArray.push y=(its++[y]).toArray:=by simp
    rw[eA]at eN;have drop:Inv (X.comp N0 scope xs cl G.objs.size s2 H2 fp) (zcu fp O.heap) t H8 s8:=I8.pins_of fun p K=>I8.pin p (yN _ (yN _ K));have I9:Inv (X.comp N0 scope xs cl G.objs.size s2 H2 fp) (zcu fp O.heap) t H8 { s8 with heap:=s8.heap.update s2.heap.objs.size (yaw fun(a:Array ag)=>a.push y) }:=by
     refine drop.turned (it:=s2.heap.objs.size) (t':=s8.toks) (fun b o f q=>(ybv s8.heap _ (Ne.symm f)).trans q) nD neC (.inr (yb _)) (fun x c e z=>?_) fun p K z=>?_
     ·obtain⟨v,q⟩:=I.cell x c (S.sub.at e);exact absurd (q.lt) (by rw[z];exact yac _)
     ·have hp':p∈zcu fp O.heap:=K;exact absurd (A _ (zga hp').1) (by rw[z];exact yac _)
    have I10:Inv (X.comp N0 scope xs cl G.objs.size s2 H2 fp) ([(s2.heap.objs.size,{ cls := .type "list", data := .seq (its++[y]).toArray _ })]++zcu fp O.heap) t H8 { s8 with heap:=s8.heap.update s2.heap.objs.size (yaw fun(a:Array ag)=>a.push y) }:=I9.pins_of fun p K=>by
     rcases y6.mp K with z|z
     ·have e:=yS.mp z;subst e;exact⟨eN,nD,neC,nfD,fun _ z=>nomatch z⟩
     ·exact I9.pin p (yN _ z)
    have kp:tn (i+1) (s8.heap.update s2.heap.objs.size (yaw fun(a:Array ag)=>a.push y))/\∀b∈fp,H8 b=none:=by
     refine⟨T.keep _ _ _ (kept I8).1 fun b f o e=>(ybv s8.heap _ (yR (A b f))).trans e,(kept I8).2⟩
    exact⟨m',hm,i+1,ys++[yv],its++[y],_,H8,zdR I S f2 I10.unpinned,kp.1,kp.2,rv.append (.cons r8 .nil),w8⟩
 exact codeAny_compStart_list (L _) (T.self _ 0 _ _ _ l (L _))
theorem zeI(I:Inv X pins σ H s)(f:zem X pins H C)(k:yas C s.heap h'):Inv X pins σ H { s with heap:=h' }:=by
 obtain⟨n,a,c,ab,nc,N⟩:=f;exact I.turned (it:=C) (t':=s.toks) (fun b o h e=>k.extBut b o h e) n a ab nc N
theorem zn2(l:X.calm=ae)(c:X.xe=fun _ _=>False)(S:CompOk X N0 scope xs cl)(hi:PI X tg iter wi)(d:∀C s H fp,PG (X.comp N0 scope xs cl C s H fp) tg g)(e:∀C s H fp,PIf (X.comp N0 scope xs cl C s H fp) ifs tf)(j:∀C s H fp,PE (X.comp N0 scope xs cl C s H fp) elt te)(hs:autoParam (∀x,bb iter X.env x=pure x) AutoP.a2._auto_1) : PE X (.ListComp elt [⟨tg,iter,ifs,0⟩] scope pos) (fun σ H Q=>zhE xs.length wi g tf te (fun ys H'=>∀p,H' p=none->Q (.ref p) (upd H' p (.lst ys))) σ H):=by
 intro pins s σ H Q I h;rw[eval_ListComp];refine cC (use:=none) rfl hs S.clos S.kind (fun y b hl=>(S.lo b hl).1) ?_;refine thn (hi pins s σ H _ I h) fun t s1 o=>thn o fun i s2 m=>?_;obtain⟨it,fp,tn,J,u,rfl,q,T,a,f2,W,⟨m0,w0⟩,turn⟩:=m;refine zho (RR:=fun A C=>compPost (ao X.prog X.w) X.A X.xe none (EP X pins σ Q) A C) l c S d e j q T a f2 w0 turn ?_;intro D C s' ys H' m' r n hn F f;exact⟨m',hn,fun h' k=>⟨.ref D,_,zeI r F k,rfl,f D n⟩⟩
theorem zsO{y:af}{py a:ax}(O:X.calm=ae)(w:X.xe=fun _ _=>False)(R:X.N.Nodup)(l:X.N[i]?=aa y)(hl:X.env.scope.names.lookup y=aa .local)(S:CompOk X N0 scope xs cl)(hi:PI X tg iter wi)(K:∀C s H fp,PG (X.comp N0 scope xs cl C s H fp) tg g)(L:∀C s H fp,PIf (X.comp N0 scope xs cl C s H fp) ifs tf)(M:∀C s H fp,PE (X.comp N0 scope xs cl C s H fp) elt te)(m:autoParam (aQ (.ListComp elt [⟨tg,iter,ifs,0⟩] scope pos) (aa (.Name y py)) a.line X.env=pure ae) AutoP.a4._auto_1)(hs:autoParam (∀x,bb iter X.env x=pure x) AutoP.a2._auto_1) : PS X (.Assign [.Name y py] (.ListComp elt [⟨tg,iter,ifs,0⟩] scope pos) a) (fun D σ H=>zhE xs.length wi g tf te (fun ys H'=>∀p,H' p=none->D.nx (σ.set i (aa (.ref p))) (upd H' p (.lst ys))) σ H):=by
 intro pins s σ H D I h;rw[exec_Assign_Name_used _ _ _ _ m];refine aj (cg (aj ?_));show wpAny _ X.A (comprehension (.ListComp elt [⟨tg,iter,ifs,0⟩] scope pos) scope X.env _ (newList []) ai (eval iter X.env) (aa (aV (.Name y py) X.env)) >>= fun _=>_) _ _ s;refine aj (aA (cC (use:=aa (aV (.Name y py) X.env)) (Q:=fun _ s'=>SP X pins D .next s') rfl hs S.clos S.kind (fun y l hl=>(S.lo l hl).1) ?_) (fun _ s' B=>aw (aw B)) fun _ _ e=>e);refine thn (hi pins s σ H _ I h) fun xv s1 V=>thn V fun u s2 U=>?_;obtain⟨it,fp,tn,J,H2,rfl,I2,T,j,f2,W,⟨m0,w0⟩,turn⟩:=U;refine zho (RR:=fun A C=>compPost (ao X.prog X.w) X.A X.xe (aa (aV (.Name y py) X.env)) (fun _ s'=>SP X pins D .next s') A C) O w S K L M I2 T j f2 w0 turn ?_;intro d C s' ys H' m' r N hn f F;obtain⟨o,es,Y,G,hd,hr⟩:=hn;have Z:Inv X (pins++[(C,o)]) σ (upd H' d (.lst ys)) s':=r.pins_of fun p E=>by
  rcases y6.mp E with z|z
  ·exact r.pin p (yN _ z)
  ·have e:=yS.mp z;subst e;exact⟨G,f.1,f.2.1,f.2.2.1,fun v z=>by rw[hd]at z;cases z⟩
 show wpAny (ao X.prog X.w) X.A (aV (.Name y py) X.env (.ref d)) _ _ s';refine thn (zn1 (pos:=py) R l (.inl hl) (.inr hl) _ s' σ _ (.ref d) (.ref d) _ Z rfl (F d N)) ?_;rintro _ t ⟨b,n,c,q⟩;have P:=c.pin (C,o) (yN _ (yN _ (yS.mpr rfl)));refine⟨_,⟨o,es,Y,P.1,hd,hr⟩,fun h' k=>⟨b,n,zeI c.unpinned ⟨P.2.1,f.2⟩ k,q⟩⟩
end
section
variable{g:TG}
theorem zpA{k:Nat}(P:Nat->List V->Hp->Prop)(r:k<=1000000)(o:P 0 [] H)(l:∀i ys H,P i ys H->ys.length<=i)(j:∀i ys H,i<k->P i ys H->J.go i H/\∀x H',J.yld i H x H'->g x (σ ++ yp n none) H' fun a H2=>tf a H2 fun b h=>if b=ae then te a h (fun y d=>P (i+1) (ys++[y]) d) else P (i+1) ys h)(f:∀ys H,P k ys H->J.stop k H/\fin ys H) : ∃W:Nat->Nat->List V->Hp->Prop,(∃m,W 0 m [] H)/\∀i m ys H,W i m ys H->ys.length<=sizeLine/\((J.stop i H/\fin ys H)∨(J.go i H/\∃(Y:V->Hp->Prop)(Z:Hp->Prop),(∀y d,Y y d->ys.length<sizeLine/\∃m',m'<m/\W (i+1) m' (ys++[y]) d)∧(∀h,Z h->∃m',m'<m/\W (i+1) m' ys h)/\∀x H',J.yld i H x H'->g x (σ ++ yp n none) H' fun a H2=>tf a H2 fun b h=>if b=ae then te a h Y else Z h)):=by
 have hl:sizeLine=16777216:=bo;refine⟨fun i m ys H=>m=k-i/\i<=k/\P i ys H,⟨k,by simp,yat _,o⟩,?_⟩;rintro i m ys H ⟨rfl,hi,p⟩;have z:=l i ys H p;refine⟨by omega,?_⟩;by_cases c:i<k
 ·obtain⟨g1,G⟩:=j i ys H c p;exact .inr ⟨g1,fun y d=>P (i+1) (ys++[y]) d,fun h=>P (i+1) ys h,fun y d q=>⟨by omega,k-(i+1),by omega,rfl,c,q⟩,fun h q=>⟨k-(i+1),by omega,rfl,c,q⟩,G⟩
 ·have e:i=k:=by omega
  subst e;exact .inl (f ys H p)
end
variable{ns:List Int}{v:ag}
theorem znc(r:Vals (ns.map V.int) its)(e:its.toArray[i]?=aa v):∃t,v = .int (ns.getD i 0) t:=by
 have E:its[i]?=aa v:=by simpa using e
 have hi:i<ns.length:=by
  have h:=r.length;have H:=(yc.mp E).1;rw[yd]at h;omega
 obtain⟨u,q,t,z⟩:=r.get (i:=i) (x := .int (ns[i])) (by simp[hi]);rw[E]at q;cases q;exact⟨t,by rw[z];simp[hi]⟩
theorem zo3(h:i<ns.length):ns.getD i 0=ns[i]:=by simp[h]
theorem zl0{bs:List Bool}(r:Vals (bs.map V.bl) its)(e:its.toArray[i]?=aa v):v = .bool (bs.getD i ae):=by
 have E:its[i]?=aa v:=by simpa using e
 have hi:i<bs.length:=by
  have h:=r.length;have H:=(yc.mp E).1;rw[yd]at h;omega
 obtain⟨u,q,z⟩:=r.get (i:=i) (x := .bl (bs[i])) (by simp[hi]);rw[E]at q;cases q;rw[show v=ybm bs[i] from z];simp[hi]
theorem zg4:∀(bs:List Bool),((yC bs.length).all fun i=>bs.getD i ae)=bs.all id
 |[]=>rfl|b::r=>by
  rw[yx,ybx,ybP,List.all_map,ybP];have e:((fun i=>(b::r).getD i ae)∘Nat.succ)=fun i=>r.getD i ae:=by
   funext i;simp
  rw[e,zg4 r];simp
section
theorem zgE(g:X.calm=ae):CallR X (.builtin "all") (fun xs H Q=>∃(l:ac)(bs:List Bool),xs=[.ref l]/\SqL X.K H l (bs.map V.bl)/\Q (.bl (bs.all id)) H):=by
 intro pins s σ H xs us Q I r h;obtain⟨l,bs,rfl,d,q⟩:=h;obtain⟨u,rfl,R⟩:=zcA r;cases R;obtain⟨its,r',pl,m⟩:=I.list d;have hl:=pl.isList;have c:l<s.heap.objs.size:=by obtain⟨_,e,_⟩:=hl;exact yg e
 have a:bs.length=its.length:=by rw[<- r'.length,yd]
 refine call_all_walk (bW hl ?_);refine⟨s.heap.objs.size,_,_,its.toArray.size,_,_,fun i=>bs.getD i ae,rfl,ycN (A:=X.A.in1) (I.ok.hd g) _ l (yB c) its.toArray,⟨⟨_,yw _ rfl,rfl,rfl⟩,hl.push _⟩,fun i v s' n E k j=>?_,fun h' t f=>?_⟩
 ·rw[zl0 r' k];exact bx j
 ·rw[yG,<- a,zg4];exact⟨.bl (bs.all id),H,I.kept fun b o e=>f b o (fun z=>yB (yg e) (yS.mp z)) (ye _ e),rfl,q⟩
end
def Itf(f:Nat->V)(n:Nat):It:=⟨fun i _=>i<n,fun i H x H'=>H'=H/\x=f i,fun i _=>i=n⟩
variable{K:ya}{nm:String}
theorem zfM{w:al}{B:Nat->ag->Prop}{St:Nat->au->Prop}{f:Nat->V}
  (W:∀A:az,A.handled=none->Walks P w A it [it] [it] n B St) (y:∀i h,St i h->∃o vs,h.get? it=aa o/\o.cls = .type nm/\o.data = .fields vs)
  (r:∀i h h',St i h->(∀b∈[it],∀o,h.get? b=aa o->h'.get? b=aa o)->St i h') (hn:["enumerate", "zip", "dict_itemiterator", "dict_reverseitemiterator", "odict_iterator", "itertools.zip_longest", "itertools.pairwise"].contains nm=ai)
  (D:∀i v,i<n->B i v->RelV (f i) v) (a:∀(A:az)(i:Nat)(s:ak)(Q:ag->ak->Prop)(E:ag->ak->Prop),St i s.heap->Q (.ref it) s->wpAny (ao P w) A (pyIter (.ref it)) Q E s):Turn P w K tg (Itf f n) [it] it St where
 mem:=by simp
 obj:=fun i h st b g=>by
  have e:b=it:=by simpa using g
  subst e
  obtain⟨o,vs,e,c,d⟩:=y i h st
  exact⟨o,e,fun v z=>by rw[d]at z;cases z⟩
 keep:=fun i h h' st k=>r i h h' st k
 item:=by
  intro X j q x u i pins s σ H E I m st l
  subst j q x
  obtain⟨f0,f1,f2,f3,f4,F⟩:=m it (by simp)
  refine(W X.A (I.ok.hd u)).item i s _ _ l st fun v h' t C S p=>?_
  have G:Inv X pins σ H { s with heap:=h',toks:=t }:=I.turned (fun b o g e=>p b o (by simpa using g) e) f0 f1 f3 f4 F
  obtain⟨o,vs,e,c,d⟩:=y _ _ S
  exact⟨v,rfl,zq9 (s:={ s with heap:=h',toks:=t }) e c d hn ⟨f i,H,G,D i v l C,⟨rfl,rfl⟩,S,fun b g=>(m b g).1⟩⟩
 done:=by
  intro X j q x u i pins s σ H E I m st l
  subst j q x
  obtain⟨f0,f1,f2,f3,f4,F⟩:=m it (by simp)
  have e:i=n:=l
  subst e
  exact(W X.A (I.ok.hd u)).done s _ _ st fun h' t p=>⟨rfl,I.turned (fun b o g e=>p b o (by simpa using g) e) f0 f1 f3 f4 F⟩
 self:=a
def sgn(z:af)(i:Nat):V := .str ⟨#[z.cps.getD i 0]⟩
def iTxt(t:TE):TI:=fun σ H R=>t σ H fun x H1=>∃z,x = .str z/\R (Itf (sgn z) z.cps.size) H1
variable{t:Tok}
theorem zdT(st:h.IsStrIter it nm x t i):∃o vs,h.get? it=aa o/\o.cls = .type nm/\o.data = .fields vs:=by
 obtain⟨o,e,c,d⟩:=st;exact⟨o,_,e,c,d⟩
theorem zff(st:h.IsStrIter it nm x t i)(k:∀b∈[it],∀o,h.get? b=aa o->h'.get? b=aa o):h'.IsStrIter it nm x t i:=let ⟨o,ho,r⟩:=st;⟨o,k it (by simp) o ho,r⟩
variable{z:af}
theorem zjT(h:SignAt z i v):RelV (sgn z i) v:=by
 obtain⟨c,u,e,rfl⟩:=h;refine⟨u,?_⟩;have:z.cps.getD i 0=c:=by simp[Array.getD_eq_getD_getElem?,e]
 rw[this]
theorem pi_txt{l:am}{T:TE}(hl:PE X l T):PI X tg l (iTxt T):=by
 intro pins s σ H R I h;refine thn (hl pins s σ H _ I h) ?_;rintro v s1 ⟨x,f,a,r,g⟩;obtain⟨z,e,q⟩:=g;subst e;obtain⟨t,rfl⟩:=r;have fp:∀b∈[s1.heap.objs.size],zem X pins f b:=fun b j=>by
  have e:b=s1.heap.objs.size:=by simpa using j
  subst e;exact a.fpOk (yb _) (a.hok.fresh (yb _))
 cases ha:z.cps.all (· < 128)
 ·refine wpAny_pyIter_wide ha ?_;exact⟨s1.heap.objs.size,[s1.heap.objs.size],_,_,f,rfl,a.kept (t':=s1.toks) fun b o e=>ye _ e,zfM (nm := "str_iterator") (St:=fun i h=>h.IsStrIter s1.heap.objs.size "str_iterator" z t i) (fun A d=>Walks.strWide d _ z t) (fun i h st=>zdT st) (fun i h h' st k=>zff st k) (by decide) (fun i v _ c=>zjT c) (fun A i s Q E st q=>wpAny_pyIter_striter_wide st q),⟨_,yw _ rfl,rfl,rfl⟩,fp,q⟩
 ·refine wpAny_pyIter_ascii ha ?_;exact⟨s1.heap.objs.size,[s1.heap.objs.size],_,_,f,rfl,a.kept (t':=s1.toks) fun b o e=>ye _ e,zfM (nm := "str_ascii_iterator") (St:=fun i h=>h.IsStrIter s1.heap.objs.size "str_ascii_iterator" z t i) (fun A d=>Walks.strAscii d _ z t) (fun i h st=>zdT st) (fun i h h' st k=>zff st k) (by decide) (fun i v _ c=>zjT c) (fun A i s Q E st q=>wpAny_pyIter_striter_ascii st q),⟨_,yw _ rfl,rfl,rfl⟩,fp,q⟩
theorem sl_txt:SlR X (fun x lo hi H Q=>∃z,x = .str z/\z.length<=sizeLine/\Q (.str (Txt.slice z lo hi)) H):=by
 intro pins s σ H x v g V lo hi sl Q I r hs pl pu q;obtain⟨z,rfl,b,q⟩:=q;obtain⟨t,rfl⟩:=r;obtain⟨o,e,c,d⟩:=hs;have a:∀{v:ag}{o:Option Int},bf v o->∃p:Option (Int×Tok),v=partValue p/\p.map (·.1)=o:=by
  intro v o h;cases h with
  |none=>exact⟨none,rfl,rfl⟩|int i t=>exact⟨aa (i,t),rfl,rfl⟩
 obtain⟨l,rfl,hl⟩:=a pl;obtain⟨u,rfl,f⟩:=a pu;subst hl f;refine⟨"str", _,F.slot_str_getitem.lookup,typeIs_str _ _ _,wpAny_getItem_str_slice (l:=l) (u:=u) (st:=none) ⟨o,e,c,d⟩ rfl ?_⟩;exact post_val_or_str ⟨yM (Txt.slice_le z _ _) b,fun t' k=>⟨.str (Txt.slice z (l.map (·.1)) (u.map (·.1))),H,I.tok _,⟨t',rfl⟩,q⟩⟩
theorem zsl{ts:List af}:∀{its:List ag},Vals (ts.map V.str) its->∃l:List (af×Tok),its=strValues l/\l.map (·.1)=ts:=by
 induction ts with
 |nil=>intro its r;cases r;exact⟨[],rfl,rfl⟩|cons a ts i=>
  intro its r;rw[yy]at r;cases r with
  |cons b R=>
   obtain⟨t,rfl⟩:=b;obtain⟨l,rfl,rfl⟩:=i R;exact⟨(a,t)::l,rfl,rfl⟩
theorem zov:MtM X "str.join" (fun x xs H Q=>∃(z:af)(l:ac)(ts:List af),x = .str z/\xs=[.ref l]/\SqL X.K H l (ts.map V.str)/\JoinOk z ts=ae/\Q (.str (Txt.join z ts)) H):=by
 intro pins s σ H x xs v us Q I r rs h;obtain⟨z,l,ts,rfl,rfl,a,hok,q⟩:=h;obtain⟨t,rfl⟩:=r;obtain⟨u,rfl,R⟩:=zcA rs;cases R;obtain⟨its,r',pl,b⟩:=I.list a;obtain⟨L,rfl,rfl⟩:=zsl r';exact SC.join pl.isList rfl hok fun t' k=>⟨.str (Txt.join z (L.map (·.1))),H,I.tok _,⟨t',rfl⟩,q⟩
theorem zmc{a:Array ag}(h:ItemsOf (SignAt z) a z.cps.size):Vals ((yC z.cps.size).map (sgn z)) a.toList:=by
 obtain⟨c,b⟩:=h;have gen:∀(n k:Nat)(l:List ag),l.length=n->(∀j v,l[j]?=aa v->SignAt z (k+j) v)->Vals ((yao k n).map (sgn z)) l:=by
  intro n;induction n with
  |zero=>intro k l hl _;have:l=[]:=ydA.mp hl;subst this;exact .nil|succ n i=>
   intro k l hl H;cases l with
   |nil=>cases hl|cons v l=>
    rw[ycO,yy];refine .cons (zjT (by simpa using H 0 v rfl)) (i (k+1) l (by simpa using hl) fun j v e=>?_);have:=H (j+1) v (by simpa using e)
    rwa [show k+(j+1)=k+1+j by omega]at this
 rw[List.range_eq_range'];refine gen _ 0 _ (by simpa using c) fun j v e=>?_;rw[yh];exact b j v (by simpa using e)
theorem zgY(f:X.calm=ae):CallR X (.type "tuple") (fun xs H Q=>∃z,xs=[.str z]/\z.cps.size<=sizeLine/\∀l,H l=none->Q (.ref l) (upd H l (.tup ((yC z.cps.size).map (sgn z))))):=by
 intro pins s σ H xs us Q I r h;obtain⟨z,rfl,c,q⟩:=h;obtain⟨u,rfl,t,rfl⟩:=zcA r;refine call_tuple_str (I.ok.hd f) z t (fun h' T a kp it=>?_) c;have d:=zmc it;have i:Inv X pins σ H { s with heap:=h',toks:=T }:=I.kept kp;have g:Inv X pins σ (upd H h'.objs.size (.tup ((yC z.cps.size).map (sgn z)))) { s with heap:=h'.push { cls := .type "tuple", data := .seq a },toks:=T } :=
  i.laid (t':=T) (fun b o e=>ye _ e) (yb _) (show ObjOk X.prog X.w _ _ _ (.tup _) from ⟨by simpa using c,a.toList,d,by simpa using IsTup.new h' a,_,yw _ rfl,rfl⟩)
 exact⟨.ref h'.objs.size,_,g,rfl,q _ (i.hok.fresh (yb _))⟩
end L2
namespace PySem
open Sem (wp)
open Builtin
namespace F
theorem sub_rit_reversed:isSubtype (.type "range_iterator") (.type "reversed")=pure ai:=by rw[isSubtype_type];kernel_rfl
end F
variable{r:ac}{n:Int}{t u v:Tok}{Q:ag->ak->Prop}
section
variable{prog:ar}{w:al}{A:az}{E:ag->ak->Prop}{s:ak}
def ziA(n:Int):av:={ cls := .type "range_iterator", data := .fields #[rawInt (n-1),rawInt n,rawInt (-1)] }
theorem zel(hr:IsRange s.heap r 0 n 1 t u v)(c:0<=n)(b:n<2^62)(h:Q (.ref s.heap.objs.size) { s with heap:=s.heap.push (ziA n) }):wpAny (ao prog w) A (call (.builtin "range.__reversed__") [.ref r]) Q E s:=by
 have H:s.TypeIs (.ref r) "range" := ⟨_,hr,rfl⟩;refine bp ycP H F.entry_range_reversed ?_ (F.args_range_reversed_1 _);unfold aK.«range.__reversed__»;refine aj (aY (a:=yn r) rfl ?_);unfold Builtin.Range.rangeFields;refine aj (aj (aE hr rfl (x := .int 0 t) rfl ?_));refine aj (aY (a:=aa (0:Int)) rfl ?_);refine aj (aE hr rfl (x := .int n u) rfl ?_);refine aj (aY (a:=aa n) rfl ?_);refine aj (aE hr rfl (x := .int 1 v) rfl ?_);refine aj (aY (a:=aa (1:Int)) rfl ?_);refine aw ?_;have hn:yck 0 n 1=n:=by
  unfold yck;rw[if_pos (by decide),ycD];split <;> omega
 dsimp only;rw[hn];have hs:(yaQ 0&&yaQ n&&yaQ 1&&yaQ (-1)&&yaQ (0-1)&&yaQ n)=ae:=by
  have:yaQ n=ae:=by
   unfold yaQ;simp only[yL,decide_eq_true_eq];omega
  rw[this];decide
 rw[hs];rw[show (0:Int)+(n-1)*1=n-1 by omega];rw[if_neg (by decide),if_pos rfl];exact aj (aR (aw ⟨_,rfl,h⟩))
theorem zfd{Q₁ : ag->ak->Prop}(hr:IsRange s.heap r 0 n 1 t u v)(c:0<=n)(b:n<2^62)
  (h:Q₁ (.ref s.heap.objs.size) { s with heap:=s.heap.push (ziA n) }) :
  codeAny (ao prog w) A (.call (.builtin "reversed.__new__") ⟨[.type "reversed", .ref r],[]⟩) (wants Q₁ E) s:=by
 have H:s.TypeIs (.ref r) "range" := ⟨_,hr,rfl⟩
 refine codeAny_of_tree ?_
 show wpAny _ A.in1 (do cD "reversed.__new__" ⟨[.type "reversed", .ref r],[]⟩;again (.builtin "reversed.__new__" ⟨[.type "reversed", .ref r],[]⟩)) _ _ s
 refine aj (aY (F.newCall_reversed_1 _) (aw ⟨plainId_quiet ydB _,codeAny_builtin F.entry_reversed_new ?_⟩))
 rw[Around.under_plainId ydB _]
 unfold aK.«reversed.__new__»
 refine aj (aY (newClass_reversed _) ?_)
 dsimp only
 refine aj (aY (a:=()) rfl ?_)
 refine aj (aY (a:=()) rfl ?_)
 refine aj (wpAny_specialOf H ycP.lookup ?_)
 dsimp only
 refine aj (aY (ycP.bind _) ?_)
 dsimp only
 rw[if_neg (show ¬ ((Value.builtin "range.__reversed__" == yab)=ae) from yH)]
 refine aj (bz ?_)
 refine aj (m:=runValue (.call (.builtin "range.__reversed__") ⟨[.ref r],[]⟩)) (show wpAny _ _ (call (.builtin "range.__reversed__") [.ref r]) _ _ _ from zel hr c b ?_)
 first
 |exact aw h
 |exact aj (aw (aw h))
theorem zfe(hr:IsRange s.heap r 0 n 1 t u v)(a:0<=n)(H:n<2^62)(h:Q (.ref s.heap.objs.size) { s with heap:=s.heap.push (ziA n) }):wpAny (ao prog w) A (call (.type "reversed") [.ref r]) Q E s:=by
 refine callType_other (U := "range_iterator") (Q₁ := fun obj S=>obj = .ref s.heap.objs.size/\S = { s with heap:=s.heap.push (ziA n) }) (by decide +kernel) F.create_reversed ⟨_,_,F.mro_reversed⟩ F.made_reversed F.sub_rit_reversed (F.typeCall_reversed_1 _) (zfd hr a H ⟨rfl,rfl⟩) ?_;rintro obj S ⟨rfl,rfl⟩;exact⟨⟨_,yw _ rfl,rfl⟩,h⟩
end
end PySem
namespace L2
open PySem PySem.Spec PyProof.Rows
section
variable{X:Cx}{tg:am}
theorem zro:CallR X (.type "range") (fun xs H Q=>∃n:Int,xs=[.int n]/\0<=n/\n<2^62/\∀p,H p=none->Q (.ref p) (upd H p (.rng 0 n))):=by
 intro pins s σ H xs us Q I r h;obtain⟨n,rfl,c,a,q⟩:=h;obtain⟨u,rfl,t,rfl⟩:=zcA r;refine call_range_1 ?_;exact⟨.ref s.heap.objs.size,_,I.laid (o := .rng 0 n) (fun b o e=>ye _ e) (yb _) ⟨_,_,_,yw _ rfl⟩,rfl,q _ (I.hok.fresh (yb _))⟩
def iRev(te:TE):TI:=fun σ H R=>te σ H fun x H1=>∃(p:ac)(n:Int),[x]=[V.ref p]/\H1 p=aa (.rng 0 n)/\0<=n/\n<2^62/\R (Itf (fun i=>.int (n-1-i)) n.toNat) H1
theorem pi_rev{e:am}{te:TE}{p pos:ax}(m:Gl X "reversed")(hm:X.mg "reversed" = none)(w:PE X e te)(hs:autoParam (ap [e] X.env=[(ai,eval e X.env)]) AutoP.a3._auto_1):PI X tg (.Call (.Name "reversed" p) [e] [] pos) (iRev te):=by
 intro pins s σ H R I h;refine Call_ (zcJ I m hm boot_reversed (PyProof.Rows.callWith_type1 (thn (za2 w zda hs pos pins s σ H (fun xs a=>∃(p:ac)(n:Int),xs=[.ref p]/\a p=aa (.rng 0 n)/\0<=n/\n<2^62/\R (Itf (fun i=>.int (n-1-i)) n.toNat) a) I ?_) fun us s1 ⟨vs,a,c,g,j⟩=>?_) hs rfl))
 ·exact h
 ·obtain⟨r,n,rfl,hr,C,B,q⟩:=j;obtain⟨u,rfl,d⟩:=zcA g;cases d;obtain⟨t,u,v,e⟩:=(show ObjOk X.prog X.w a s1.heap r (.rng 0 n) from c.hok r _ hr);refine zfe e C B ?_;refine cw (x:=n-1) (left:=n) (step := -1) (yw _ rfl) ?_;have D:Inv X pins σ a { s1 with heap:=s1.heap.push (ziA n) }:=c.kept (t':=s1.toks) fun b o e=>ye _ e;refine⟨s1.heap.objs.size,[s1.heap.objs.size],_,_,a,rfl,D,zfM (nm := "range_iterator") (f:=fun i=>.int (n-1-i)) (n:=n.toNat) (fun A z=>Walks.range z _ (n-1) (-1) n.toNat) (fun i h st=>⟨_,_,st,rfl,rfl⟩) (fun i h h' st k=>k _ (by simp) _ st) (by decide) (fun i v hi l=>?_) (fun A i s Q E st q=>cw st q),?_,fun b y=>?_,q⟩
  ·obtain⟨t,rfl⟩:=l;exact⟨t,by congr 1;omega⟩
  ·show IsRangeIter _ _ (n-1+((0:Nat):Int)*(-1)) ((n.toNat:Int)-((0:Nat):Int)) (-1);rw[show n-1+((0:Nat):Int)*(-1)=n-1 by omega,show (n.toNat:Int)-((0:Nat):Int)=n by omega];exact yw _ rfl
  ·have e:b=s1.heap.objs.size:=by simpa using y
   subst e;exact c.fpOk (yb _) (c.hok.fresh (yb _))
end
end L2
namespace PySem
open Sem (wp)
open Builtin Builtin.Str
namespace F
end F
end PySem
namespace PySem
open Sem (wp)
open Builtin Builtin.Str
end PySem
namespace L2
open PySem PySem.Spec PyProof.Rows
variable{X:Cx}{pins:List (ac×av)}{σ : St}{H:Hp}{s:ak}{h':au}{t':Nat}{a b:ac}
theorem Inv.turn2(I:Inv X pins σ H s)(i:zem X pins H a)(F:zem X pins H b)(k:∀c o,c≠a->c≠b->s.heap.get? c=aa o->h'.get? c=aa o):Inv X pins σ H { s with heap:=h',toks:=t' }:=by
 obtain⟨a0,a1,a2,a3,a4,a5⟩:=i;obtain⟨b0,b1,b2,b3,b4,B⟩:=F;have f:∀c u,H c=aa u->c≠a:=fun c u e z=>by rw[z,a0]at e;cases e
 have N:∀c u,H c=aa u->c≠b:=fun c u e z=>by rw[z,b0]at e;cases e
 refine I.step (g':=s.gens) (d':=s.drawn) (ch:=[a,b]) (fun c h=>?_) (fun c o _ _ h e _=>k c o (fun z=>h (by simp[z])) (fun z=>h (by simp[z])) e) (fun c o _ _ h e _=>⟨o.slots,k c o (fun z=>h (by simp[z])) (fun z=>h (by simp[z])) e⟩)
  (fun _ _ _ _ n=>n) (fun c o h e=>⟨o,k c o (fun z=>h (by simp[z])) (fun z=>h (by simp[z])) e⟩) (fun _ _ e=>e) (fun _ _ _ e=>e) (fun c ps e=>⟨#[],by rw[e];simp⟩) (fun m hm=>?_) (fun c u e=>?_) I.bare
 ·have e:c=a∨c=b:=by simpa using h
  rcases e with rfl|rfl
  ·exact⟨a3,a1,a4,a5⟩
  ·exact⟨b3,b1,b4,B⟩
 ·obtain⟨o,es,E,g,r⟩:=hm;exact⟨o,es,E,k _ o (Ne.symm a1) (Ne.symm b1) g,r⟩
 ·refine(I.hok c u e).stay (fun d v hd q=>?_) (fun _ q=>q) fun _ _ q=>q;rcases hd with z|z
  ·rw[z]at q ⊢;exact k c v (f c u e) (N c u e) q
  ·exact k d v (f d _ z) (N d _ z) q
theorem Inv.turn2l{T:ac}{o':HO}(I:Inv X pins σ H s)(F:zem X pins H a)(f:zem X pins H b)(k:∀c o,c≠a->c≠b->s.heap.get? c=aa o->h'.get? c=aa o)(d:s.heap.objs.size<=T)(new:ObjOk X.prog X.w (upd H T o') h' T o'):Inv X pins σ (upd H T o') { s with heap:=h',toks:=t' }:=by
 have J:Inv X pins σ H { s with heap:=h',toks:=t' }:=I.turn2 F f k;have hn:H T=none:=I.hok.fresh d;obtain⟨a0,a1,a2,a3,a4,a5⟩:=F;obtain⟨b0,b1,b2,b3,b4,B⟩:=f;have N:∀c o,s.heap.get? c=aa o->c≠T:=fun c o q=>yB (yF (yg q) d);refine I.step (g':=s.gens) (d':=s.drawn) (ch:=[a,b]) (fun c h=>?_) (fun c o _ _ h e _=>k c o (fun z=>h (by simp[z])) (fun z=>h (by simp[z])) e) (fun c o _ _ h e _=>⟨o.slots,k c o (fun z=>h (by simp[z])) (fun z=>h (by simp[z])) e⟩)
  (fun c o _ q n=>by rw[zax (N c o q)];exact n) (fun c o h e=>⟨o,k c o (fun z=>h (by simp[z])) (fun z=>h (by simp[z])) e⟩) (fun c xs e=>by rw[zax (zar e hn)];exact e) (fun c u xs e=>by rw[zax (zar e hn)];exact e)
  (fun c ps e=>⟨#[],by rw[zax (zar e hn),e];simp⟩) (fun m hm=>?_) (zgm J.hok hn new) I.bare
 ·have e:c=a∨c=b:=by simpa using h
  rcases e with rfl|rfl
  ·exact⟨a3,a1,a4,a5⟩
  ·exact⟨b3,b1,b4,B⟩
 ·obtain⟨o,es,E,g,r⟩:=hm;exact⟨o,es,E,k _ o (Ne.symm a1) (Ne.symm b1) g,r⟩
end L2
namespace PySem
open Sem (wp)
open Builtin
variable{prog:ar}{A:az}{E:ag->ak->Prop}{s:ak}{it l:ac}{i:Nat}{items:Array ag}{Q:ag->ak->Prop}
section
variable{w:al}
theorem zgb{x:ag}(h:s.heap.IsTupleIter it l i)(hl:s.heap.IsTuple l items)(c:items[i]?=aa x)(e:∀h',h'.IsTupleIter it l (i+1)->yas it s.heap h'->Q x { s with heap:=h' }):wpAny (ao prog w) A (SmallTypes.nextOf (.ref it)) Q E s:=by
 obtain⟨o,H,d,hd⟩:=id h;obtain⟨O,a,_,n,b⟩:=hl;have f : ¬ ((yn l==yab)=ae):=yH;unfold SmallTypes.nextOf;refine aj (bH (name:=yE "__next__") h.typeIs ybV (bp ybV h.typeIs ydC ?_ (ydD _)));refine aj (m:=field (.ref it) 0) (aE H hd (x := .ref l) rfl ?_);show wpAny _ _ (if (yn l==yab)=ae then _ else _) _ _ s;rw[if_neg f];refine aj (m:=field (.ref it) 1) (aE H hd (x := .int i 0) rfl ?_);refine aj (m:=seqItems? (.ref l)) (aP a b ?_);simp only[y8,c];refine aj (b8 H hd (by simp) (aw ⟨x,rfl,aw (e _ ⟨_,ycQ _ H (Obj.isFreed_of_fields (ydE hd _)),(Obj.cls_mapFields ..).trans d,?_⟩ (ycR ..))⟩));rw[ydE hd];simp[rawInt]
theorem zgS(g:A.handled=none)(h:s.heap.IsTupleIter it l i)(hl:s.heap.IsTuple l items)(f:items[i]?=none)(j:∀h' e,Heap.ExtBut it s.heap h'->(∃o,h'.get? e=aa o/\o.cls = .type "StopIteration")->E (.ref e) { s with heap:=h' }):wpAny (ao prog w) A (SmallTypes.nextOf (.ref it)) Q E s:=by
 obtain⟨o,b,p,hd⟩:=id h;obtain⟨O,H,_,n,d⟩:=hl;have k : ¬ ((yn l==yab)=ae):=yH;unfold SmallTypes.nextOf;refine aj (bH (name:=yE "__next__") h.typeIs ybV (bp ybV h.typeIs ydC ?_ (ydD _)));refine aj (m:=field (.ref it) 0) (aE b hd (x := .ref l) rfl ?_);show wpAny _ _ (if (yn l==yab)=ae then _ else _) _ _ s;rw[if_neg k];refine aj (m:=field (.ref it) 1) (aE b hd (x := .int i 0) rfl ?_);refine aj (m:=seqItems? (.ref l)) (aP H d ?_);simp only[y8,f];refine aj (bz (aj (b8 b hd (by simp) ?_)));show wpAny _ _ (newExc (.type "StopIteration") [] >>= _) _ _ _;refine aj ?_;simp only[newExc,newTuple];refine aj (aR ?_ (by size_fits));refine aj (m:=firstArgMember _ _) (aY (a:=yab) (by first | rfl | (simp only[firstArgMember];rfl)) (aR ?_ (by size_fits)));simp only[raiseNew];have c:A.in1.handled=none:=g;refine aj (wpAny_handled ?_);rw[c];exact aj (aw (wpAny_throw (j _ _ (((ycR ..).extBut.push _).push _) ⟨_,yw _ rfl,rfl⟩)))
end
theorem Draws.tup{w:al}(d:A.handled=none)(it l:ac)(b:l≠it)(items:Array ag) :
  Draws prog w A it [it,l] items.size (fun i v=>items[i]?=aa v) (fun i h=>h.IsTupleIter it l i/\h.IsTuple l items) where
 live:=fun _ _ st=>let ⟨o,ho,_⟩:=st.1;⟨o,ho⟩
 frame:=fun _ _ _ st c=>⟨let ⟨o,ho,r⟩:=st.1;⟨o,c it (by simp) o ho,r⟩,let ⟨o,ho,r⟩:=st.2;⟨o,c l (by simp) o ho,r⟩⟩
 item:=fun i s Q E hi st e=>zgb st.1 st.2 (x:=items[i]) (by simp[hi]) fun h' a H=>e _ h' s.toks (by simp[hi]) ⟨a,st.2.extBut H.extBut b⟩ H
 done:=fun s Q E st f=>zgS d st.1 st.2 (by simp) f
theorem zee(l:ac)(items:Array ag) :
  Meets (aK.«enumerate.__new__» ⟨[.type "enumerate", .ref l],[]⟩) (fun _ R s=>s.heap.IsTuple l items ∧
   R (.ok (.ret (.ref (s.heap.push { cls := .type "tuple_iterator", data := .fields #[.ref l,.int 0 0] }).objs.size)))
    { s with heap:=(s.heap.push { cls := .type "tuple_iterator", data := .fields #[.ref l,.int 0 0] }).push { cls := .type "enumerate", data := .fields #[.none,.bool ai,.ref s.heap.objs.size,rawInt 0,.none,.none] } }) :=
 .of_wp fun prog w A R s h=>by
  obtain⟨b,g,d,t,os⟩:=s;obtain⟨a,h⟩:=h;have H:=sub_enumerate
  wp_walk
  refine wpAny_stack_any fun st=>aw ?_;split
  ·rename_i c _ _ _ _ _;cases (c==yah "enumerate") <;> (wp_walk using ba a;exact⟨_,rfl,h⟩)
  ·wp_walk using ba a
   exact⟨_,rfl,h⟩
theorem zeL{w:al}(c:s.heap.IsTuple l items)
  (h:∀h',IsEnum h' (s.heap.objs.size+1) s.heap.objs.size 0 .none->h'.IsTupleIter s.heap.objs.size l 0->(∀b o,s.heap.get? b=aa o->h'.get? b=aa o)->Q (.ref (s.heap.objs.size+1)) { s with heap:=h' }) :
  wpAny (ao prog w) A (call (.type "enumerate") [.ref l]) Q E s:=by
 refine cm F.called_enumerate (by decide) (F.typeCall_enumerate_1 _) (F.newCall_enumerate_1 _) (fun obj=>F.args_object_init_2 obj _) F.entry_enumerate_new (zee l items) ⟨c,?_⟩;have H:(s.heap.push { cls := .type "tuple_iterator", data := .fields #[.ref l,.int 0 0] }).objs.size=s.heap.objs.size+1:=yQ ..;show _/\_;rw[H];have a:IsEnum ((s.heap.push { cls := .type "tuple_iterator", data := .fields #[.ref l,.int 0 0] }).push { cls := .type "enumerate", data := .fields #[.none,.bool ai,.ref s.heap.objs.size,rawInt 0,.none,.none] }) (s.heap.objs.size+1) s.heap.objs.size 0 .none:=by
  rw[<- H];exact yw _ rfl
 exact⟨⟨_,a,rfl⟩,h _ a ⟨_,ye _ (yw _ rfl),rfl,rfl⟩ fun b o e=>ye _ (ye _ e)⟩
end PySem
namespace L2
open PySem PySem.Spec PyProof.Rows
structure SeqKind(c:List V->HO)(IsS:au->ac->Array ag->Prop)(IsI:au->ac->ac->Nat->Prop):Prop where
 obj:∀h it l i,IsI h it l i->∃o,h.get? it=aa o/\∀v,o.data ≠ .cell v
 kp:∀(h h':au) it l i,IsI h it l i->(∀o,h.get? it=aa o->h'.get? it=aa o)->IsI h' it l i
 seq:∀(X:Cx)(pins:List (ac×av))(σ : St)(H:Hp)(s:ak)(l:ac)(xs:List V),Inv X pins σ H s->H l=aa (c xs)->∃its:List ag,Vals xs its/\IsS s.heap l its.toArray
 dr:∀(P:ar)(w:al)(A:az),A.handled=none->∀(it l:ac),l≠it->∀items:Array ag,Draws P w A it [it,l] items.size (fun i v=>items[i]?=aa v) (fun i h=>IsI h it l i/\IsS h l items)
 inj:∀a b,c a=c b->a=b
theorem seq_lst:SeqKind HO.lst Heap.IsList Heap.IsListIter where
 obj:=fun h it l i st=>by obtain⟨o,e,_,d⟩:=st;exact⟨o,e,fun v z=>by rw[d]at z;cases z⟩
 kp:=fun h h' it l i st k=>let ⟨o,e,r⟩:=st;⟨o,k o e,r⟩
 seq:=fun X pins σ H s l xs I e=>by
  obtain⟨its,r,p,_⟩:=I.list (SqL.of e)
  exact⟨its,r,p.isList⟩
 dr:=fun P w A f it l c items=>Draws.list f it l c items
 inj:=fun a b e=>by cases e;rfl
theorem seq_tup:SeqKind HO.tup Heap.IsTuple ydF where
 obj:=fun h it l i st=>by obtain⟨o,e,_,d⟩:=st;exact⟨o,e,fun v z=>by rw[d]at z;cases z⟩
 kp:=fun h h' it l i st k=>let ⟨o,e,r⟩:=st;⟨o,k o e,r⟩
 seq:=fun X pins σ H s l xs I e=>by
  obtain⟨its,r,p,_⟩:=I.tuple (SqT.of e)
  exact⟨its,r,p⟩
 dr:=fun P w A f it l c items=>Draws.tup f it l c items
 inj:=fun a b e=>by cases e;rfl
theorem zea(ns:List Int):∀j,j<=ns.length->preSum (fun i=>ns.getD i 0) j=(ns.take j).sum
 |0,_=>by simp[preSum]|j+1,h=>by
  have h2:=zea ns j (by omega);rw[preSum,h2,ycS,yf (by omega),ycT];have H:j<ns.length:=by omega
  simp[H]
theorem zit(B:Int)(c:0<=B):∀ns:List Int,(∀a,a∈ns->0<=a/\a<=B)->0<=ns.sum/\ns.sum<=ns.length*B
 |[],_=>by simp|a::r,h=>by
  have h1:=zit B c r fun b H=>h b (yY _ H);have d:=h a (by simp);rw[yby,yx];push_cast;rw[Int.add_mul];omega
theorem zeJ{X:Cx}(w:X.calm=ae):CallR X (.builtin "sum") (fun xs H Q=>∃(l:ac)(ns:List Int),xs=[.ref l]/\SqL X.K H l (ns.map V.int)/\(∀a,a∈ns->0<=a/\a<=2^50)/\ns.length<=1000/\Q (.int ns.sum) H):=by
 intro pins s σ H xs us Q I r h;obtain⟨l,ns,rfl,p,m,hn,q⟩:=h;obtain⟨u,rfl,R⟩:=zcA r;cases R;obtain⟨its,r',pl,y⟩:=I.list p;have hl:=pl.isList;have g:l<s.heap.objs.size:=by obtain⟨_,e,_⟩:=hl;exact yg e
 have c:ns.length=its.length:=by rw[<- r'.length,yd]
 have f:∀j,j<=ns.length->0<=preSum (fun i=>ns.getD i 0) j/\preSum (fun i=>ns.getD i 0) j<=1000*2^50:=fun j d=>by
  rw[zea ns j d];have x:=zit (2^50) (by decide) (ns.take j) fun a ha=>m a (ybz ha);have n:((ns.take j).length:Int)<=1000:=by rw[yaE];omega
  have B:((ns.take j).length:Int)*2^50<=1000*2^50:=ydG n (by decide);omega
 refine call_sum_walk (bW hl ?_);refine⟨s.heap.objs.size,_,_,its.toArray.size,_,_,fun i=>ns.getD i 0,rfl,ycN (A:=X.A.in1) (I.ok.hd w) _ l (yB g) its.toArray,⟨⟨_,yw _ rfl,rfl,rfl⟩,hl.push _⟩,fun b k=>?_,fun i v e=>znc r' e,fun j d=>?_,fun h' T t' t=>?_⟩
 ·have e:b=s.heap.objs.size∨b=l:=by simpa using k
  have z:(s.heap.push { cls := .type "list_iterator", data := .fields #[.ref l,.int 0 0] }).objs.size=s.heap.objs.size+1:=yQ ..;show b<(s.heap.push { cls := .type "list_iterator", data := .fields #[.ref l,.int 0 0] }).objs.size;rw[z];rcases e with rfl|rfl
  ·exact yaX _
  ·exact Nat.lt_succ_of_lt g
 ·rw[yG,<- c]at d;have x:=f (j+1) d;have n:=m (ns.getD j 0) (by rw[zo3 d];exact yaG d);refine⟨⟨?_,?_⟩,⟨by omega,by omega⟩⟩
  ·show -(2^63)<=ns.getD j 0;omega
  ·show ns.getD j 0<2^63;omega
 ·rw[yG,<- c,zea ns _ (yb _),ybA];exact⟨.int ns.sum,H,I.kept fun b o e=>t b o (fun z=>yB (yg e) (yS.mp z)) (ye _ e),⟨t',rfl⟩,q⟩
end L2
namespace PySem
open Sem (wp)
open Builtin
open AutoSeq1 (wpAny_loadPart')
theorem zhC(l:ac)(items:Array ag)(n:Nat)(dd:Option ac)(sl:Array (Option ag))(x:ag)(e:ag->Bool)(j:Nat)(v:j<items.size)(f:e items[j]=ae)(c:∀m (hm:m<items.size),m<j->e items[m]=ai) : Meets (aK.«tuple.index» ⟨[.ref l,x],[]⟩) (fun A R s=>s.heap.get? l=aa { cls := .type "tuple", dict:=dd,data := .seq items n,slots:=sl }/\(∀y,y∈items->SeqAt.EqAt A.in1 s y x (e y))/\R (.ok (.ret (.int j s.toks))) { s with toks:=s.toks+1 }) :=
 .of_wp fun prog w A R s h=>by
  obtain⟨q,g,d,t,os⟩:=s;obtain⟨hl,u,h⟩:=h;unfold aK.«tuple.index»;refine aj (aY (a:=(yn l,[x])) rfl ?_);refine aj (wpAny_tupleItemsOf hl rfl ?_);dsimp only;refine aj (aw ?_);refine aj (aw ?_);rw[Nat.min_self,Std.Legacy.Range.forIn_eq_forIn_range'];have p:yao ([:items.size]).start ([:items.size]).size ([:items.size]).step=yao 0 items.size 1:=by
   simp[Std.Legacy.Range.size]
  rw[p];refine aj (wpAny_forIn_list _ (fun rest b s'=>b=(none,())/\s'=⟨q,g,d,t,os⟩/\∃i,i<=j/\rest=yao i (items.size-i) 1) _ ?_ ?_ _ _ ⟨rfl,rfl,0,yat _,by simp⟩)
  ·rintro i rest b s' ⟨rfl,rfl,k,r,hr⟩;have H:k<items.size:=by omega
   rw[show items.size-k=(items.size-(k+1))+1 by omega,ycO]at hr;obtain⟨rfl,rfl⟩:=List.cons.inj hr;have hi:items[i]?=aa items[i]:=by simp[H]
   rw[hi];dsimp only;refine aj (u _ (Array.getElem_mem H) prog w _ _ ?_);by_cases o:i=j
   ·subst o;rw[f,if_pos rfl];refine aj (aj (wpAny_mkInt (aw ?_)));exact aw (aw ⟨_,rfl,h⟩)
   ·rw[c i H (by omega),if_neg yH];exact aw ⟨rfl,rfl,i+1,by omega,rfl⟩
  ·rintro b s' ⟨rfl,rfl,k,r,hr⟩;have:=congrArg yaY hr;simp at this;omega
end PySem
namespace L2
open PySem PySem.Spec PyProof.Rows
variable{o:Option V}{y:V}{u:ag}
section
variable{κ : Type}[DecidableEq κ]
def zjQ(kvs:List (κ × V))(k : κ):Option V:=(kvs.find? fun K=>decide (K.1=k)).map (·.2)
def zf4(kvs:List (κ × V))(k : κ)(v:V):List (κ × V) :=
 if (kvs.any fun K=>decide (K.1=k))=ae then kvs.map (fun K=>if K.1=k then (K.1,v) else K) else kvs++[(k,v)]
theorem zfD{p : κ × V}{r:List (κ × V)}{k : κ}(e:p.1=k):zjQ (p::r) k=aa p.2:=by simp[zjQ,ybe,e]
theorem zfE{p : κ × V}{r:List (κ × V)}{k : κ}(e : ¬ p.1=k):zjQ (p::r) k=zjQ r k:=by simp[zjQ,ybe,e]
theorem zk7(k : κ):∀kvs:List (κ × V),(kvs.any fun K=>decide (K.1=k))=(zjQ kvs k).isSome
 |[]=>rfl|p::r=>by
  rw[yaH];by_cases e:p.1=k
  ·simp only[zfD e,decide_eq_true e,Bool.true_or,Option.isSome_some]
  ·rw[zfE e,decide_eq_false e,ybW];exact zk7 k r
theorem zef(kvs:List (κ × V))(k : κ)(v:V):(zf4 kvs k v).length<=kvs.length+1:=by
 unfold zf4;split
 ·rw[yd];omega
 ·rw[yD,yx,List.length_nil];omega
theorem RelO.isSome_eq{u:Option ag}(r:RelO o u):o.isSome=u.isSome:=by
 cases o with
 |none=>cases u with
  |none=>rfl|some _=>exact(show False from r).elim
 |some _=>cases u with
  |none=>exact(show False from r).elim|some _=>rfl
theorem KV.val{kvs:List (κ × V)}{vs:List (κ × ag)}(r:KV kvs vs)(k : κ):RelO (zjQ kvs k) (bK vs k):=by
 unfold KV at r;induction r with
 |nil=>exact True.intro|@cons p q ps Q h t i=>
  obtain⟨H,a⟩:=h;by_cases e:p.1=k
  ·have E:q.1=k:=H.symm.trans e;have b:bK (q::Q) k=aa q.2:=by simp[bK,ybe,E]
   rw[zfD e,b];exact a
  ·have E : ¬ q.1=k:=fun z=>e (H.trans z);have b:bK (q::Q) k=bK Q k:=by simp[bK,ybe,E]
   rw[zfE e,b];exact i
theorem KV.any{kvs:List (κ × V)}{vs:List (κ × ag)}(r:KV kvs vs)(k : κ):(kvs.any fun K=>decide (K.1=k))=vs.any fun K=>decide (K.1=k):=by
 unfold KV at r;induction r with
 |nil=>rfl|cons h t i=>rw[yaH,yaH,i,h.1]
theorem KV.repl{kvs:List (κ × V)}{vs:List (κ × ag)}(r:KV kvs vs)(k : κ)(R:RelV y u) : KV (kvs.map fun K=>if K.1=k then (K.1,y) else K) (vs.map fun K=>if K.1=k then (K.1,u) else K):=by
 unfold KV at r ⊢;induction r with
 |nil=>exact .nil|@cons p q ps Q h t i=>
  rw[yy,yy];refine .cons ?_ i;obtain⟨H,a⟩:=h;by_cases e:p.1=k
  ·rw[if_pos e,if_pos (H.symm.trans e)];exact⟨H,R⟩
  ·rw[if_neg e,if_neg (fun z=>e (H.trans z))];exact⟨H,a⟩
theorem KV.put{kvs:List (κ × V)}{vs:List (κ × ag)}(r:KV kvs vs)(k : κ)(R:RelV y u):KV (zf4 kvs k y) (stored vs k u):=by
 unfold zf4 stored;rw[r.any k];by_cases e:(vs.any fun K=>decide (K.1=k))=ae
 ·rw[if_pos e,if_pos e];exact r.repl k R
 ·rw[if_neg e,if_neg e];exact Paired.snoc r ⟨rfl,R⟩
theorem KV.length{kvs:List (κ × V)}{vs:List (κ × ag)}(r:KV kvs vs):kvs.length=vs.length:=Paired.length r
end
variable{P:ar}
theorem zmO{w:al}{k:Key}(r:RelV (kV k) u):(zbA P w).is k u=ae:=by
 cases k with
 |inl i=>obtain⟨t,e⟩:=(show ∃t,u=ybk i t from r);subst e;exact zkA P w i t
 |inr x=>obtain⟨t,e⟩:=(show ∃t,u=ybl x t from r);subst e;exact zkz P w x t
theorem zje{P:ar}{w:al}:∀{ks:List Key}{us:List ag},Vals (ks.map kV) us->ItemsAre (zbA P w) ks us
 |[],_,r=>by rw[yaZ]at r;cases r;exact .nil|k::ks,_,r=>by
  rw[yy]at r;cases r with
  |cons h t=>exact .cons (zmO h) (zje t)
abbrev KT(H:Hp):List (List Key×V)->List (List Key×ac×ag)->Prop:=Paired fun p q=>p.1=q.1/\H q.2.1=aa (.tup (p.1.map kV))/\RelV p.2 q.2.2
variable{kvs:List (List Key×V)}{H:Hp}{xs:List (List Key×ac×ag)}
theorem KT.val(r:KT H kvs xs)(k:List Key):RelO (zjQ kvs k) ((bi xs k).map (·.2)):=by
 induction r with
 |nil=>exact True.intro|@cons p q ps Q h t i=>
  obtain⟨a,_,c⟩:=h;by_cases e:p.1=k
  ·have E:q.1=k:=a.symm.trans e;have b:bi (q::Q) k=aa q.2:=by simp[bi,ybe,E]
   rw[zfD e,b];exact c
  ·have E : ¬ q.1=k:=fun z=>e (a.trans z);have b:bi (q::Q) k=bi Q k:=by simp[bi,ybe,E]
   rw[zfE e,b];exact i
theorem KT.repl(r:KT H kvs xs)(k:List Key)(R:RelV y u) : KT H (kvs.map fun K=>if K.1=k then (K.1,y) else K) (xs.map (putAt k u)):=by
 induction r with
 |nil=>exact .nil|@cons p q ps Q h t i=>
  rw[yy,yy];refine .cons ?_ i;obtain⟨a,b,c⟩:=h;unfold putAt;by_cases e:p.1=k
  ·rw[if_pos e,if_pos (a.symm.trans e)];exact⟨a,b,R⟩
  ·rw[if_neg e,if_neg (fun z=>e (a.trans z))];exact⟨a,b,c⟩
theorem KT.put(r:KT H kvs xs)(k:List Key){b:ac}(h:H b=aa (.tup (k.map kV)))(R:RelV y u) : KT H (zf4 kvs k y) (storedH xs k b u):=by
 have e:(kvs.any fun K=>decide (K.1=k))=(bi xs k).isSome:=by
  rw[zk7,(r.val k).isSome_eq,ycU]
 unfold zf4 storedH;rw[e];by_cases q:(bi xs k).isSome=ae
 ·rw[if_pos q,if_pos q];exact r.repl k R
 ·rw[if_neg q,if_neg q];exact Paired.snoc r ⟨rfl,h,R⟩
variable{H':Hp}
theorem KT.keeps(r:KT H kvs xs)(h:∀b ys,H b=aa (.tup ys)->H' b=aa (.tup ys)):KT H' kvs xs :=
 Paired.mapP r fun _ _ z=>⟨z.1,h _ _ z.2.1,z.2.2⟩
variable{a:ac}
section
variable{w:al}{h:au}
theorem rd_of{u:HO}(ok:HOk P w H h)(e:Rd H a u):ObjOk P w H h a u:=e.ok ok
theorem zmW{kvs:List (Key×V)}(ok:HOk P w H h)(e:Rd H a (.dK kvs)):kvs.length<=sizeLine/\(a==a9)=ai/\∃vs,KV kvs vs/\h.DictOf (zbA P w) a vs :=
 show ObjOk P w H h a (.dK kvs) from rd_of ok e
theorem dk_of{kvs:List (Key×V)}(ok:HOk P w H h)(e:H a=aa (.dK kvs)):kvs.length<=sizeLine/\(a==a9)=ai/\∃vs,KV kvs vs/\h.DictOf (zbA P w) a vs:=zmW ok (.inl e)
theorem zjb{ks:List Key}(ok:HOk P w H h)(e:H a=aa (.tup (ks.map kV))):(bS (zbA P w)).is h ks a:=by
 obtain⟨_,its,r,⟨o,d,c,n,b⟩,_⟩:=(show ObjOk P w H h a (.tup (ks.map kV)) from ok a _ e);exact⟨o,its.toArray,n,d,c,b,by simpa using zje r⟩
theorem zpm(ok:HOk P w H h)(e:Rd H a (.dT kvs)):kvs.length<=sizeLine/\(a==a9)=ai∧∃xs,KT H kvs xs/\h.DictOfH (bS (zbA P w)) a xs:=by
 obtain⟨z,y,xs,r,o,es,E,k,j,g,f,d⟩:=(show ObjOk P w H h a (.dT kvs) from rd_of ok e);refine⟨z,y,xs,r,o,es,E,k,j,g,f,fun x b=>?_,d⟩;have all:∀{l:List (List Key×V)}{m:List (List Key×ac×ag)},KT H l m->∀x∈m,(bS (zbA P w)).is h x.1 x.2.1:=by
  intro l m q;induction q with
  |nil=>intro x b;exact nomatch b|@cons p q ps Q c t i=>
   intro x b;rcases yA.mp b with e|b
   ·subst e;exact zjb ok (by rw[<- c.1];exact c.2.1)
   ·exact i x b
 exact all r x b
theorem dt_of(ok:HOk P w H h)(e:H a=aa (.dT kvs)):kvs.length<=sizeLine/\(a==a9)=ai ∧
  ∃xs,KT H kvs xs/\h.DictOfH (bS (zbA P w)) a xs:=zpm ok (.inl e)
end
def DGet(H:Hp)(a:ac)(y:V)(r:Option V):Prop :=
 (∃kvs k,Rd H a (.dK kvs)/\y=kV k/\r=zjQ kvs k)∨∃kvs k b,Rd H a (.dT kvs)/\y = .ref b/\H b=aa (.tup (k.map kV))/\r=zjQ kvs k
def DPut(H:Hp)(a:ac)(y v:V)(H':Hp):Prop :=
 (∃kvs k,H a=aa (.dK kvs)/\y=kV k/\kvs.length<sizeLine/\H'=upd H a (.dK (zf4 kvs k v))) ∨
 ∃kvs k b,H a=aa (.dT kvs)/\y = .ref b/\H b=aa (.tup (k.map kV))/\kvs.length<sizeLine/\H'=upd H a (.dT (zf4 kvs k v))
theorem DGet.k{kvs:List (Key×V)}{k:Key}(e:H a=aa (.dK kvs)):DGet H a (kV k) (zjQ kvs k) := .inl ⟨kvs,k,.inl e,rfl,rfl⟩
variable{v:V}
theorem DPut.k{kvs:List (Key×V)}{k:Key}(e:H a=aa (.dK kvs))(hl:kvs.length<sizeLine):DPut H a (kV k) v (upd H a (.dK (zf4 kvs k v))) := .inl ⟨kvs,k,e,rfl,hl,rfl⟩
variable{X:Cx}{pins:List (ac×av)}{σ : St}{s:ak}{A:az}{E Q:ag->ak->Prop}{h':au}
section
variable{r:ag}
theorem Inv.big(I:Inv X pins σ H s):a9<s.heap.objs.size:=by
 have h:aF<s.heap.objs.size:=(I.mod.glob.keeps I.bk).lt;exact ycV (by decide) h
theorem zpt(j:A.units+1<aM)(I:Inv X pins σ H s)(g:DGet H a y (aa v))(i:RelV y u)(h:∀w s',Inv X pins σ H s'->RelV v w->Q w s') : wpAny (ao X.prog X.w) A (bP (.ref a) u) Q E s:=by
 rcases g with⟨kvs,k,e,f,l⟩|⟨kvs,k,b,e,f,n,l⟩
 ·subst f;obtain⟨z,hd,vs,R,dd⟩:=zmW I.hok e;obtain⟨w,c,r⟩:=RelO.some_of (v:=v) (o:=bK vs k) (by rw[l];exact R.val k);exact wpAny_getItem_of (zmO i) dd.mapOf c (h w _ (I.tok _) r)
 ·subst f;cases (show u=yn b from i);obtain⟨z,hd,xs,R,dd⟩:=zpm I.hok e;obtain⟨w,c,r⟩:=RelO.some_of (v:=v) (o:=(bi xs k).map (·.2)) (by rw[l];exact R.val k);obtain⟨p,m,d⟩:=yag.mp c;refine wpAny_getItem_heap (cp j) (zjb I.hok n) dd m ?_;rw[d];exact h w _ (I.tok _) r
theorem d_in(d:A.units+1<aM)(I:Inv X pins σ H s)(g:DGet H a y o)(R:RelV y u)(h:∀s',Inv X pins σ H s'->Q (.bool o.isSome) s') : wpAny (ao X.prog X.w) A (aB .In u (.ref a)) Q E s:=by
 rcases g with⟨kvs,k,e,c,l⟩|⟨kvs,k,b,e,c,f,l⟩
 ·subst c;obtain⟨z,hd,vs,r,dd⟩:=zmW I.hok e;refine wpAny_in_of (zmO R) hd dd.mapOf ?_;rw[<- (r.val k).isSome_eq,<- l];exact h _ (I.tok _)
 ·subst c;cases (show u=yn b from R);obtain⟨z,hd,xs,r,dd⟩:=zpm I.hok e;refine wpAny_in_heap (cp d) (zjb I.hok f) hd dd ?_;have q:=(r.val k).isSome_eq;rw[ycU]at q;rw[<- q,<- l];exact h _ (I.tok _)
theorem ztI(d:A.units+1<aM)(I:Inv X pins σ H s)(g:DGet H a y o)(R:RelV y u)(h:∀s',Inv X pins σ H s'->Q (.bool (!o.isSome)) s') : wpAny (ao X.prog X.w) A (aB .NotIn u (.ref a)) Q E s:=by
 rcases g with⟨kvs,k,e,c,l⟩|⟨kvs,k,b,e,c,f,l⟩
 ·subst c;obtain⟨z,hd,vs,r,dd⟩:=zmW I.hok e;refine wpAny_notIn_of (zmO R) hd dd.mapOf ?_;rw[<- (r.val k).isSome_eq,<- l];exact h _ (I.tok _)
 ·subst c;cases (show u=yn b from R);obtain⟨z,hd,xs,r,dd⟩:=zpm I.hok e;refine wpAny_notIn_heap (cp d) (zjb I.hok f) hd dd ?_;have q:=(r.val k).isSome_eq;rw[ycU]at q;rw[<- q,<- l];exact h _ (I.tok _)
theorem zkM{t':Nat}{ob:HO}(I:Inv X pins σ H s)(m:Mut (H a))(hs:yas a s.heap h')(h:∃q,h'.get? a=aa q)(new:ObjOk X.prog X.w (upd H a ob) h' a ob) : Inv X pins σ (upd H a ob) { s with heap:=h',toks:=t' } :=
 I.write (x:=a) (e:=a) m (.inl rfl) (fun b q c z=>(hs.2 b c).trans z) h new
theorem zrZ{w:al}{kvs:List (Key×V)}{vs:List (Key×ag)}(z:kvs.length<=sizeLine)(hd:(a==a9)=ai)(r:KV kvs vs)(dd:h'.DictOf (zbA P w) a vs) :
  ObjOk P w H' h' a (.dK kvs):=⟨z,hd,vs,r,dd⟩
theorem zps{Q:Unit->ak->Prop}(w:A.units+1<aM)(I:Inv X pins σ H s)(g:DPut H a y v H')(n:RelV y u)(o:RelV v r)(h:∀s',Inv X pins σ H' s'->Q () s') : wpAny (ao X.prog X.w) A (setItem (.ref a) u r) Q E s:=by
 rcases g with⟨kvs,k,e,j,l,m⟩|⟨kvs,k,b,e,j,t,l,m⟩
 ·subst j m;obtain⟨z,hd,vs,R,dd⟩:=dk_of I.hok e;have i:vs.length<=sizeLine:=by rw[<- R.length];exact z
  have hl:(zf4 kvs k v).length<=sizeLine:=by have:=zef kvs k v;omega
  refine wpAny_setItem_pairs (hsz:=i) (zmO n) dd fun h' d hs=>h _ ?_;have x:∃q,h'.get? a=aa q:=let ⟨q,_,_,f,_⟩:=d;⟨q,f⟩;exact zkM I (by rw[e];exact True.intro) hs x (zrZ hl hd (R.put k o) d)
 ·subst j m;cases (show u=yn b from n);obtain⟨z,hd,xs,R,dd⟩:=dt_of I.hok e;have i:xs.length<=sizeLine:=by rw[<- Paired.length R];exact z
  have hl:(zf4 kvs k v).length<=sizeLine:=by have:=zef kvs k v;omega
  refine wpAny_setItem_heap (hsz:=i) (cp w) (zjb I.hok t) dd fun h' d hs=>h _ ?_;obtain⟨q,es,G,f,F,D,C,_,B⟩:=d;refine zkM I (by rw[e];exact True.intro) hs ⟨q,f⟩ ⟨hl,hd,_,(R.put k t o).keeps fun c ys p=>?_,q,es,G,f,F,D,C,B⟩;rw[zax (ne_of p e (fun z=>nomatch z))];exact p
end
section
variable{kvs:List (Key×V)}{k:Key}
theorem d_len(I:Inv X pins σ H s)(e:Rd H a (.dK kvs))(h:∀t s',Inv X pins σ H s'->Q (.int kvs.length t) s'):wpAny (ao X.prog X.w) A (call (.builtin "len") [.ref a]) Q E s:=by
 obtain⟨z,hd,vs,r,dd⟩:=zmW I.hok e;refine call_len_dict hd dd (by rw[<- r.length];rw[bo]at z;omega) ?_;rw[<- r.length];exact h _ _ (I.tok _)
end
theorem zkL(I:Inv X pins σ H s)(g:DGet H a y o):s.TypeIs (.ref a) "dict" := by
 rcases g with⟨kvs,k,e,_,_⟩|⟨kvs,k,b,e,_,_,_⟩
 ·obtain⟨_,_,vs,_,dd⟩:=zmW I.hok e;exact dd.typeIs
 ·obtain⟨_,_,xs,_,dd⟩:=zpm I.hok e;exact dd.typeIs
def sDPut(td ty t:TE):TS:=fun D σ H=>t σ H fun v H1=>td σ H1 fun x H2=>ty σ H2 fun y h=>∃a H4,x = .ref a/\DPut h a y v H4/\D.nx σ H4
variable{pos:ax}{tv:TE}
section
variable{o i e value:am}{pos' tpos:ax}{td ty:TE}
theorem zsQ(f:X.A.units+1<aM)(j:PE X o td)(hi:PE X i ty)(e:PE X value tv)(hs:aQ value (aa (.Subscript o i pos')) pos.line X.env=pure ai) : PS X (.Assign [.Subscript o i pos'] value pos) (sDPut td ty tv):=by
 intro pins s σ H D I h;refine wpAny_Assign_Subscript (thn (e pins s σ H _ I h) fun r s1 ⟨v,w,n,c,d⟩=>thn (j pins s1 σ w _ n d) fun u s2 ⟨x,t,m,b,Q⟩=>thn (hi pins s2 σ t _ m Q) fun z S ⟨y,A,l,R,a,p,ex,g,q⟩=>?_) hs;subst ex;obtain rfl:u=yn a:=b;exact zps f l g R c fun s4 k=>⟨σ,p,k,q⟩
end
theorem zrn{w:al}(h:au)(a:a9<h.objs.size):ObjOk P w H (h.push { cls := .type "dict", data := .dict #[] }) h.objs.size (.dK []) :=
 ⟨yat _,beq_eq_false_iff_ne.mpr (Ne.symm (yB a)),[],.nil,Heap.DictOf.new h⟩
def zlb:List (TE×TE)->St->Hp->(List (V×V)->Hp->Prop)->Prop
 |[],_,H,Q=>Q [] H| (tk,tv)::r,σ,H,Q=>tk σ H fun x H1=>tv σ H1 fun y H2=>zlb r σ H2 fun ps h=>Q ((x,y)::ps) h
abbrev VV:List (V×V)->List (ag×ag)->Prop:=Paired fun p q=>RelV p.1 q.1/\RelV p.2 q.2
def PPs(X:Cx)(pos:ax)(keys:List (Option am))(v:List am)(t:List (TE×TE)):Prop :=
 ∀(pins:List (ac×av))(s:ak)(σ : St)(H:Hp)(Q:List (V×V)->Hp->Prop),Inv X pins σ H s->zlb t σ H Q →
  wpAny (ao X.prog X.w) X.A (evalPairs (pairTrees keys v X.env pos)) (fun vs s'=>∃ps H',Inv X pins σ H' s'/\VV ps vs/\Q ps H') X.xe s
theorem zsR:PPs X pos [] [] []:=fun pins s σ H Q I h=>pairTrees_nil_walk ⟨[],H,I,.nil,h⟩
variable{trs:List (TE×TE)}
theorem zqz{k v:am}{ks:List (Option am)}{vs:List am}{t:TE}(e:PE X k t)(d:PE X v tv)(hr:PPs X pos ks vs trs) :
  PPs X pos (aa k::ks) (v::vs) ((t,tv)::trs):=fun pins s σ H Q I h=>
 pairTrees_cons_walk (thn (e pins s σ H _ I h) fun u s1 ⟨x,m,g,a,c⟩=>thn (d pins s1 σ m _ g c) fun w s2 ⟨y,l,f,R,b⟩=>
  thn (hr pins s2 σ l _ f b) fun ws S ⟨ps,j,i,r,q⟩=>⟨(x,y)::ps,j,i,.cons ⟨a,R⟩ r,q⟩)
def zdv(kvs more:List (Key×V)):List (Key×V):=more.foldl (fun a k=>zf4 a k.1 k.2) kvs
theorem KV.merge:∀{more:List (Key×V)}{rs:List (Key×ag)}{kvs:List (Key×V)}{vs:List (Key×ag)},KV more rs->KV kvs vs->KV (zdv kvs more) (merged vs rs):=by
 intro more rs kvs vs r;unfold KV at r;induction r generalizing kvs vs with
 |nil=>intro q;exact q|@cons p q ps Q h t i=>
  intro R;have e:KV (zf4 kvs p.1 p.2) (stored vs q.1 q.2):=by
   have:=R.put p.1 h.2;rw[<- h.1];exact this
  exact i e
theorem zeu:∀(more kvs:List (Key×V)),(zdv kvs more).length<=kvs.length+more.length
 |[],kvs=>by show kvs.length<=kvs.length+0;omega|p::r,kvs=>by
  have h1:=zeu r (zf4 kvs p.1 p.2);have h:=zef kvs p.1 p.2;show (zdv (zf4 kvs p.1 p.2) r).length<=_;rw[yx];omega
theorem zhq{P:ar}{w:al}:∀{kvs:List (Key×V)}{ws:List (ag×ag)},VV (kvs.map fun k=>(kV k.1,k.2)) ws->∃rs,Carries (zbA P w) ws rs/\KV kvs rs
 |[],_,r=>by rw[yaZ]at r;cases r;exact⟨[],True.intro,.nil⟩|p::kvs,_,r=>by
  rw[yy]at r;cases r with
  |@cons a b as bs h t=>
   obtain⟨rs,c,q⟩:=zhq (P:=P) (w:=w) t;obtain⟨b1,b2⟩:=b;exact⟨(p.1,b2)::rs,⟨zmO h.1,rfl,c⟩,.cons ⟨rfl,h.2⟩ q⟩
def tDisp(t:List (TE×TE)):TE:=fun σ H Q=>∀p,H p=none->zlb t σ (upd H p (.dK [])) fun ps H2=>H2 p=aa (.dK [])/\∃kvs:List (Key×V),ps=kvs.map (fun k=>(kV k.1,k.2))/\kvs.length<=15/\Q (.ref p) (upd H2 p (.dK (zdv [] kvs)))
theorem zs1{keys:List (Option am)}{v:List am}(h:PPs X pos keys v trs)(b:keys.all (·.isSome)=ae)(hl:keys.length=v.length)(n:keys≠[])(f:keys.length<=15):PE X (.Dict keys v pos) (tDisp trs):=by
 intro pins s σ H Q I q;have hn:=I.hok.fresh (yb s.heap.objs.size);have p:=I.laid (a:=s.heap.objs.size) (o := .dK []) (h':=s.heap.push { cls := .type "dict", data := .dict #[] }) (t':=s.toks) (fun _ _ q=>ye _ q) (yb _) (zrn s.heap I.big);refine wpAny_Dict_walk (knd:=zbA X.prog X.w) b hl n f (thn (h pins _ σ _ _ p (q _ hn)) ?_);rintro ws s2 ⟨ps,t,i,r,e,kvs,E,L,j⟩;subst E;obtain⟨rs,c,R⟩:=zhq (P:=X.prog) (w:=X.w) r;obtain⟨z,hd,V,g,dd⟩:=dk_of i.hok e;cases g;refine⟨rs,c,dd,fun h' d hs=>⟨.ref s.heap.objs.size,_,?_,rfl,j⟩⟩;have k:(zdv [] kvs).length<=sizeLine:=by
  have m:=zeu kvs [];rw[List.length_nil]at m;rw[bo];omega
 have l:∃q,h'.get? s.heap.objs.size=aa q:=let ⟨q,_,_,hq,_⟩:=d;⟨q,hq⟩;exact zkM i (by rw[e];exact True.intro) hs l (zrZ k hd (R.merge .nil) d)
section
theorem op_isT:OpR X (aB .Is) (fun x y H Q=>∃b c,x = .bl b/\y = .bl c/\Q (.bl (b==c)) H):=by
 intro pins s σ H x y v u Q I R r h;obtain⟨b,c,rfl,rfl,q⟩:=h;cases R;cases r;exact is_bool ⟨.bl (b==c),H,I,rfl,q⟩
theorem zqJ:OpR X (aB .IsNot) (fun x y H Q=>∃b c,x = .bl b/\y = .bl c/\Q (.bl (b != c)) H):=by
 intro pins s σ H x y v u Q I R r h;obtain⟨b,c,rfl,rfl,q⟩:=h;cases R;cases r;exact isnot_bool ⟨.bl (b != c),H,I,rfl,q⟩
end
end L2
namespace PySem
open Sem (wp)
open Builtin
variable{prog:ar}{A:az}{E:ag->ak->Prop}{s:ak}{a b:ag}{z i1 i2:ac}{fp1 fp2:List ac}{n1 n2:Nat}{P1 P2:Nat->ag->Prop}{S1 S2:Nat->au->Prop}{Q:ag->ak->Prop}
section
variable{w:al}
theorem zfR{h h':au}{c T:ac}(hs:yas c h h')(n:T≠c)(e:aG h T a b):aG h' T a b:=(hs.2 T n).trans e
theorem zgJ{TI TO:ac}{k:Nat}
  (D1:Draws prog w A i1 fp1 n1 P1 S1) (W:Draws prog w A i2 fp2 n2 P2 S2) (L:aI s.heap z TI TO .none) (hTI:aG s.heap TI (.ref i1) (.ref i2)) (hTO:aG s.heap TO a b)
  (h1:S1 k s.heap) (h2:S2 k s.heap) (k1:k<n1) (k2:k<n2) (N:TO≠z) (nTI:TI≠z) (n1z:i1≠z) (n2z:i2≠z) (n1T:i1≠TO) (n2T:i2≠TO)
  (R:z∉fp1) (f1T:TO∉fp1) (f12:i2∉fp1) (O:z∉fp2) (P:TO∉fp2) (f21:i1∉fp2)
  (hQ:∀x y h' tk,P1 k x->P2 k y->aI h' z TI TO (rawInt s.heap.objs.size)->aG h' TO x y->S1 (k+1) h'->S2 (k+1) h'->aG h' s.heap.objs.size x y->h'.objs.size=s.heap.objs.size+1 →
   (∀c o,c≠z->c≠TO->c≠i1->c≠i2->s.heap.get? c=aa o->h'.get? c=aa o)->Q (.ref s.heap.objs.size) { s with heap:=h',toks:=tk }) :
  wpAny (ao prog w) A (aK.«zip.__next__» ⟨[.ref z],[]⟩) (fun fin s'=>∃v,fin = .done (.ret v)/\Q v s') E s:=by
 show wpAny _ _ (field (.ref z) 2 >>= _) _ _ s;refine aj (aE L rfl (x := .bool ai) rfl ?_);refine aj (aE L rfl (x := .ref TI) rfl ?_);refine aj (aP hTI rfl ?_);refine aj (m:=SmallTypes.ownedTupleIsFree (.ref z)) (aj (aE L rfl (x := .none) rfl (aw ?_)));show wpAny _ _ (if ae=ae then _ else _) _ _ s;rw[if_pos rfl];refine aj (bz ?_);refine aj (aE L rfl (x := .ref TO) rfl ?_);refine aj (aZ L (by simp) fun g1 hz1 f=>?_);have st1:S1 k g1:=D1.frame k _ _ h1 fun c H o e=>(f.2 c fun q=>R (q ▸ H)).trans e;have Z:S2 k g1:=W.frame k _ _ h2 fun c H o e=>(f.2 c fun q=>O (q ▸ H)).trans e;have M:=zfR f N hTO;refine aj ?_;show wpAny _ _ (forIn [(yn i1,0),(yn i2,1)] _ _) _ _ _;rw[yaI];refine aj (aj (bu ?_));refine aj (m:=SmallTypes.nextOf (.ref i1)) (D1.item k { s with heap:=g1 } _ _ k1 st1 fun x g2 X px I d=>aw ?_);have t:=zfR d (Ne.symm n1T) M;refine aj (aP t rfl ?_);refine aj (wpAny_updateSeq_pair t fun g3 g l=>?_);refine aj (ca (aw ?_));have g:aG g3 TO x b:=g;have F:S2 k g3:=W.frame k _ _ Z fun c H o e=>(l.2 c fun q=>P (q ▸ H)).trans ((d.2 c fun q=>f21 (q ▸ H)).trans e);show wpAny _ _ (forIn [(yn i2,1)] _ _) _ _ _;rw[yaI];refine aj (aj (bu ?_));refine aj (m:=SmallTypes.nextOf (.ref i2)) (W.item k { s with heap:=g3,toks:=X } _ _ k2 F fun y g4 T py u j=>aw ?_);have r:=zfR j (Ne.symm n2T) g;refine aj (aP r rfl ?_);refine aj (wpAny_updateSeq_pair r fun G h i=>?_);refine aj (ca (aw ?_));have h:aG G TO x y:=h;show wpAny _ _ (forIn [] _ _) _ _ _;rw[ybX];refine aw ?_;refine aj (aP h rfl ?_);refine aj (wpAny_newTuple ?_);have K:aI G z TI TO .ellipsis:=(i.2 z (Ne.symm N)).trans ((j.2 z (Ne.symm n2z)).trans ((l.2 z (Ne.symm N)).trans ((d.2 z (Ne.symm n1z)).trans hz1)));have S:G.objs.size=s.heap.objs.size:=by rw[i.1,j.1,l.1,d.1,f.1]
 have hz6:=ye { cls:=yah "tuple", data:=Data.seq #[x,y] } K;refine aj (m:=SmallTypes.ownedTupleHandOut _ _) ?_;refine aj (m:=setField _ 0 _) (aZ hz6 (by simp) fun g7 hz7 C=>?_);refine aZ hz7 (by simp) fun D hz8 B=>?_;have lt:∀{c:ac}{o:av},s.heap.get? c=aa o->c<G.objs.size:=fun e=>by rw[S];exact yg e
 have nw:G.objs.size≠z:=yR (yg K);have fr:∀c o,c≠z->G.get? c=aa o->D.get? c=aa o:=fun c o n e=>(B.2 c n).trans ((C.2 c n).trans (ye _ e));have up:∀c o,c≠z->c≠TO->c≠i2->g2.get? c=aa o->D.get? c=aa o:=fun c o V U c3 e=>fr c o V ((i.2 c U).trans ((j.2 c c3).trans ((l.2 c U).trans e)));have p:D.get? G.objs.size=aa { cls:=yah "tuple", data:=Data.seq #[x,y] }:=(B.2 _ nw).trans ((C.2 _ nw).trans (yw _ rfl));have Y:D.objs.size=s.heap.objs.size+1:=by
  rw[B.1];show g7.objs.size=_;rw[C.1];show (G.push _).objs.size=_;rw[yQ,S]
 have J:aI D z TI TO (rawInt s.heap.objs.size):=by
  rw[<- S];exact hz8
 refine aw ⟨_,rfl,?_⟩;show Q (yn G.objs.size) { s with heap:=D,toks:=T };rw[S]at p ⊢;refine hQ x y D T px py J (fr _ _ N h) (D1.frame _ _ _ I fun c H o e=>up c o (fun q=>R (q ▸ H)) (fun q=>f1T (q ▸ H)) (fun q=>f12 (q ▸ H)) e) (W.frame _ _ _ u fun c H o e=>fr c o (fun q=>O (q ▸ H)) ((i.2 c fun q=>P (q ▸ H)).trans e)) p Y fun c o V U c3 c4 e=>up c o V U c4 ((d.2 c c3).trans ((f.2 c V).trans e))
theorem zhx{TI TO:ac}
  (D1:Draws prog w A i1 fp1 n1 P1 S1) (H:aI s.heap z TI TO .none) (j:aG s.heap TI (.ref i1) (.ref i2)) (y:aG s.heap TO a b)
  (D:S1 n1 s.heap) (N:TO≠z) (n:i1≠z) (k:z∉fp1)
  (B:∀h' e,(∃o,h'.get? e=aa o/\o.cls = .type "StopIteration")->(∀c o,c≠z->c≠TO->c≠i1->c≠i2->s.heap.get? c=aa o->h'.get? c=aa o)->E (.ref e) { s with heap:=h' }) :
  wpAny (ao prog w) A (aK.«zip.__next__» ⟨[.ref z],[]⟩) (fun F s'=>∃v,F = .done (.ret v)/\Q v s') E s:=by
 show wpAny _ _ (field (.ref z) 2 >>= _) _ _ s;refine aj (aE H rfl (x := .bool ai) rfl ?_);refine aj (aE H rfl (x := .ref TI) rfl ?_);refine aj (aP j rfl ?_);refine aj (m:=SmallTypes.ownedTupleIsFree (.ref z)) (aj (aE H rfl (x := .none) rfl (aw ?_)));show wpAny _ _ (if ae=ae then _ else _) _ _ s;rw[if_pos rfl];refine aj (bz ?_);refine aj (aE H rfl (x := .ref TO) rfl ?_);refine aj (aZ H (by simp) fun g1 i g=>?_);have S:S1 n1 g1:=D1.frame n1 _ _ D fun c u o e=>(g.2 c fun q=>k (q ▸ u)).trans e;refine aj ?_;show wpAny _ _ (forIn [(yn i1,0),(yn i2,1)] _ _) _ _ _;rw[yaI];refine aj (aj (bu ?_));refine aj (m:=SmallTypes.nextOf (.ref i1)) (D1.done { s with heap:=g1 } _ _ S fun I e f t=>?_);have h:I.get? z=aa _:=f z _ (Ne.symm n) i;refine aZ h (by simp) fun G r d=>?_;obtain⟨O,l,p⟩:=t;have J:e≠z:=fun q=>by
  rw[q,h]at l;cases l;exact absurd (ydH p) (by decide)
 exact B G e ⟨O,(d.2 e J).trans l,p⟩ fun c o C M K L q=>(d.2 c C).trans (f c o K ((g.2 c C).trans q))
theorem zde{TI TO:ac}{k:Nat}{Q:Option ag->ak->Prop}
  (D1:Draws prog w A.in1 i1 fp1 n1 P1 S1) (D:Draws prog w A.in1 i2 fp2 n2 P2 S2) (q:aI s.heap z TI TO .none) (H:aG s.heap TI (.ref i1) (.ref i2)) (h:aG s.heap TO a b)
  (v:S1 k s.heap) (u:S2 k s.heap) (k1:k<n1) (k2:k<n2) (n:TO≠z) (N:TI≠z) (f:i1≠z) (d:i2≠z) (g:i1≠TO) (e:i2≠TO)
  (l:z∉fp1) (m:TO∉fp1) (p:i2∉fp1) (F:z∉fp2) (i:TO∉fp2) (j:i1∉fp2)
  (t:∀x y h' tk,P1 k x->P2 k y->aI h' z TI TO (rawInt s.heap.objs.size)->aG h' TO x y->S1 (k+1) h'->S2 (k+1) h'->aG h' s.heap.objs.size x y->h'.objs.size=s.heap.objs.size+1 →
   (∀c o,c≠z->c≠TO->c≠i1->c≠i2->s.heap.get? c=aa o->h'.get? c=aa o)->Q (aa (.ref s.heap.objs.size)) { s with heap:=h',toks:=tk }) :
  wpAny (ao prog w) A (bn (.ref z)) Q E s:=by
 have r:s.TypeIs (.ref z) "zip" := ⟨_,q,rfl⟩;exact aj (bR (bH r yaR (bp yaR r ybY
  (zgJ D1 D q H h v u k1 k2 n N f d g e l m p F i j fun x y h' tk a0 b0 a1 a2 a3 a4 a5 a6 a7=>aw (t x y h' tk a0 b0 a1 a2 a3 a4 a5 a6 a7)) (ybZ (yn z)))))
theorem zdl{TI TO:ac}{Q:Option ag->ak->Prop}
  (D1:Draws prog w A.in1 i1 fp1 n1 P1 S1) (d:aI s.heap z TI TO .none) (H:aG s.heap TI (.ref i1) (.ref i2)) (h:aG s.heap TO a b)
  (l:S1 n1 s.heap) (n:TO≠z) (N:i1≠z) (f:z∉fp1)
  (j:∀h',(∀c o,c≠z->c≠TO->c≠i1->c≠i2->s.heap.get? c=aa o->h'.get? c=aa o)->Q none { s with heap:=h' }) :
  wpAny (ao prog w) A (bn (.ref z)) Q E s:=by
 have g:s.TypeIs (.ref z) "zip" := ⟨_,d,rfl⟩;exact aj (bR (bH g yaR (bp yaR g ybY
  (zhx D1 d H h l n N f fun h' e i k=>let ⟨o,ho,hc⟩:=i;aj (wpAny_isInstance ⟨o,ho,hc⟩ isSubtype_stop (aw (j h' k)))) (ybZ (yn z)))))
end
def zpH(h:au)(o O:av):au :=
 ((((h.push o).push O).push { cls := .type "tuple", data := .seq #[.ref h.objs.size,.ref (h.push o).objs.size] }).push { cls := .type "tuple", data := .seq #[.none,.none] }).push
  { cls := .type "zip", data := .fields #[.none,.bool ai,.bool ai,.ref ((h.push o).push O).objs.size,.ref (((h.push o).push O).push { cls := .type "tuple", data := .seq #[.ref h.objs.size,.ref (h.push o).objs.size] }).objs.size] }
abbrev tIt(l:ac):av:={ cls := .type "tuple_iterator", data := .fields #[.ref l,.int 0 0] }
abbrev lIt(l:ac):av:={ cls := .type "list_iterator", data := .fields #[.ref l,.int 0 0] }
theorem zi4(l1 l2:ac)(xs ys:Array ag) :
  Meets (aK.«zip.__new__» ⟨[.type "zip", .ref l1,.ref l2],[]⟩) (fun _ R s=>s.heap.IsTuple l1 xs/\s.heap.IsList l2 ys ∧
   R (.ok (.ret (.ref ((((s.heap.push (tIt l1)).push (lIt l2)).push { cls := .type "tuple", data := .seq #[.ref s.heap.objs.size,.ref (s.heap.push (tIt l1)).objs.size] }).push { cls := .type "tuple", data := .seq #[.none,.none] }).objs.size)))
    { s with heap:=zpH s.heap (tIt l1) (lIt l2) }) :=
 .of_wp fun prog w A R s h=>by
  obtain⟨c,g,d,t,os⟩:=s;obtain⟨hl1,hl2,h⟩:=h;have b:=sub_zip;have a:=hl1;have H:=Heap.IsList.push hl2 (tIt l1)
  wp_walk using ba a,bW H
  exact⟨_,rfl,h⟩
variable{l2:ac}{xs:Array ag}
theorem zkR{w:al}{l1:ac}{ys:Array ag}(d:s.heap.IsTuple l1 xs)(H:s.heap.IsList l2 ys)
  (h:∀h',aI h' (s.heap.objs.size+4) (s.heap.objs.size+2) (s.heap.objs.size+3) .none->aG h' (s.heap.objs.size+2) (.ref s.heap.objs.size) (.ref (s.heap.objs.size+1))->aG h' (s.heap.objs.size+3) .none .none →
   h'.IsTupleIter s.heap.objs.size l1 0->h'.IsListIter (s.heap.objs.size+1) l2 0->(∀b o,s.heap.get? b=aa o->h'.get? b=aa o)->Q (.ref (s.heap.objs.size+4)) { s with heap:=h' }) :
  wpAny (ao prog w) A (call (.type "zip") [.ref l1,.ref l2]) Q E s:=by
 refine cm ycW (by decide) (F.typeCall_zip_2 _ _) (ycX _ _) (fun obj=>ydI obj _ _) ycY (zi4 l1 l2 xs ys) ⟨d,H,?_⟩;have a:(s.heap.push (tIt l1)).objs.size=s.heap.objs.size+1:=yQ ..;have Z:((s.heap.push (tIt l1)).push (lIt l2)).objs.size=s.heap.objs.size+2:=by rw[yQ,a]
 have z:(((s.heap.push (tIt l1)).push (lIt l2)).push { cls := .type "tuple", data := .seq #[.ref s.heap.objs.size,.ref (s.heap.push (tIt l1)).objs.size] }).objs.size=s.heap.objs.size+3:=by rw[yQ,Z]
 have c:((((s.heap.push (tIt l1)).push (lIt l2)).push { cls := .type "tuple", data := .seq #[.ref s.heap.objs.size,.ref (s.heap.push (tIt l1)).objs.size] }).push { cls := .type "tuple", data := .seq #[.none,.none] }).objs.size=s.heap.objs.size+4:=by rw[yQ,z]
 have g:aI (zpH s.heap (tIt l1) (lIt l2)) (s.heap.objs.size+4) (s.heap.objs.size+2) (s.heap.objs.size+3) .none:=by
  rw[<- c,<- z,<- Z];exact yw _ rfl
 have G:aG (zpH s.heap (tIt l1) (lIt l2)) (s.heap.objs.size+3) .none .none:=by
  rw[<- z];exact ye _ (yw _ rfl)
 have f:aG (zpH s.heap (tIt l1) (lIt l2)) (s.heap.objs.size+2) (.ref s.heap.objs.size) (.ref (s.heap.objs.size+1)):=by
  rw[<- Z,<- a];exact ye _ (ye _ (yw _ rfl))
 have i:(zpH s.heap (tIt l1) (lIt l2)).get? (s.heap.objs.size+1)=aa (lIt l2):=by
  rw[<- a];exact ye _ (ye _ (ye _ (yw _ rfl)))
 have g1:(zpH s.heap (tIt l1) (lIt l2)).get? s.heap.objs.size=aa (tIt l1):=ye _ (ye _ (ye _ (ye _ (yw _ rfl))));show _/\_;rw[c];exact⟨⟨_,g,rfl⟩,h _ g f G ⟨_,g1,rfl,rfl⟩ ⟨_,i,rfl,rfl⟩ fun b o e=>ye _ (ye _ (ye _ (ye _ (ye _ e))))⟩
theorem zi3(l1 l2:ac)(xs ys:Array ag) :
  Meets (aK.«zip.__new__» ⟨[.type "zip", .ref l1,.ref l2],[]⟩) (fun _ R s=>s.heap.IsTuple l1 xs/\s.heap.IsTuple l2 ys ∧
   R (.ok (.ret (.ref ((((s.heap.push (tIt l1)).push (tIt l2)).push { cls := .type "tuple", data := .seq #[.ref s.heap.objs.size,.ref (s.heap.push (tIt l1)).objs.size] }).push { cls := .type "tuple", data := .seq #[.none,.none] }).objs.size)))
    { s with heap:=zpH s.heap (tIt l1) (tIt l2) }) :=
 .of_wp fun prog w A R s h=>by
  obtain⟨c,g,d,t,os⟩:=s;obtain⟨hl1,hl2,h⟩:=h;have b:=sub_zip;have a:=hl1;have H:=yb0 hl2 (tIt l1)
  wp_walk using ba a,ba H
  exact⟨_,rfl,h⟩
theorem zkQ{w:al}{l1:ac}{ys:Array ag}(d:s.heap.IsTuple l1 xs)(H:s.heap.IsTuple l2 ys)
  (h:∀h',aI h' (s.heap.objs.size+4) (s.heap.objs.size+2) (s.heap.objs.size+3) .none->aG h' (s.heap.objs.size+2) (.ref s.heap.objs.size) (.ref (s.heap.objs.size+1))->aG h' (s.heap.objs.size+3) .none .none →
   h'.IsTupleIter s.heap.objs.size l1 0->h'.IsTupleIter (s.heap.objs.size+1) l2 0->(∀b o,s.heap.get? b=aa o->h'.get? b=aa o)->Q (.ref (s.heap.objs.size+4)) { s with heap:=h' }) :
  wpAny (ao prog w) A (call (.type "zip") [.ref l1,.ref l2]) Q E s:=by
 refine cm ycW (by decide) (F.typeCall_zip_2 _ _) (ycX _ _) (fun obj=>ydI obj _ _) ycY (zi3 l1 l2 xs ys) ⟨d,H,?_⟩;have a:(s.heap.push (tIt l1)).objs.size=s.heap.objs.size+1:=yQ ..;have Z:((s.heap.push (tIt l1)).push (tIt l2)).objs.size=s.heap.objs.size+2:=by rw[yQ,a]
 have z:(((s.heap.push (tIt l1)).push (tIt l2)).push { cls := .type "tuple", data := .seq #[.ref s.heap.objs.size,.ref (s.heap.push (tIt l1)).objs.size] }).objs.size=s.heap.objs.size+3:=by rw[yQ,Z]
 have c:((((s.heap.push (tIt l1)).push (tIt l2)).push { cls := .type "tuple", data := .seq #[.ref s.heap.objs.size,.ref (s.heap.push (tIt l1)).objs.size] }).push { cls := .type "tuple", data := .seq #[.none,.none] }).objs.size=s.heap.objs.size+4:=by rw[yQ,z]
 have g:aI (zpH s.heap (tIt l1) (tIt l2)) (s.heap.objs.size+4) (s.heap.objs.size+2) (s.heap.objs.size+3) .none:=by
  rw[<- c,<- z,<- Z];exact yw _ rfl
 have G:aG (zpH s.heap (tIt l1) (tIt l2)) (s.heap.objs.size+3) .none .none:=by
  rw[<- z];exact ye _ (yw _ rfl)
 have f:aG (zpH s.heap (tIt l1) (tIt l2)) (s.heap.objs.size+2) (.ref s.heap.objs.size) (.ref (s.heap.objs.size+1)):=by
  rw[<- Z,<- a];exact ye _ (ye _ (yw _ rfl))
 have i:(zpH s.heap (tIt l1) (tIt l2)).get? (s.heap.objs.size+1)=aa (tIt l2):=by
  rw[<- a];exact ye _ (ye _ (ye _ (yw _ rfl)))
 have g1:(zpH s.heap (tIt l1) (tIt l2)).get? s.heap.objs.size=aa (tIt l1):=ye _ (ye _ (ye _ (ye _ (yw _ rfl))));show _/\_;rw[c];exact⟨⟨_,g,rfl⟩,h _ g f G ⟨_,g1,rfl,rfl⟩ ⟨_,i,rfl,rfl⟩ fun b o e=>ye _ (ye _ (ye _ (ye _ (ye _ e))))⟩
end PySem
namespace L2
open PySem PySem.Spec PyProof.Rows
variable{X:Cx}{pins:List (ac×av)}{σ : St}{H:Hp}{s:ak}{h':au}{t':Nat}{ch:List ac}
theorem Inv.turnN(I:Inv X pins σ H s)(f:∀b∈ch,zem X pins H b)(k:∀c o,c∉ch->s.heap.get? c=aa o->h'.get? c=aa o):Inv X pins σ H { s with heap:=h',toks:=t' }:=by
 have N:∀c u,H c=aa u->c∉ch:=fun c u e z=>by have:=(f c z).1;rw[e]at this;cases this
 refine I.step (g':=s.gens) (d':=s.drawn) (ch:=ch) (fun c h=>?_) (fun c o _ _ h e _=>k c o h e) (fun c o _ _ h e _=>⟨o.slots,k c o h e⟩)
  (fun _ _ _ _ n=>n) (fun c o h e=>⟨o,k c o h e⟩) (fun _ _ e=>e) (fun _ _ _ e=>e) (fun c ps e=>⟨#[],by rw[e];simp⟩) (fun m hm=>?_) (fun c u e=>?_) I.bare
 ·obtain⟨a0,a1,a2,a3,a4,a5⟩:=f c h;exact⟨a3,a1,a4,a5⟩
 ·obtain⟨o,es,E,a,r⟩:=hm;exact⟨o,es,E,k _ o (fun z=>(f _ z).2.1 rfl) a,r⟩
 ·refine(I.hok c u e).stay (fun d v hd q=>?_) (fun _ q=>q) fun _ _ q=>q;rcases hd with z|z
  ·rw[z]at q ⊢;exact k c v (N c u e) q
  ·exact k d v (N d _ z) q
theorem Inv.turnNl{T:ac}{o':HO}(I:Inv X pins σ H s)(f:∀b∈ch,zem X pins H b)(k:∀c o,c∉ch->s.heap.get? c=aa o->h'.get? c=aa o)(a:s.heap.objs.size<=T)(new:ObjOk X.prog X.w (upd H T o') h' T o'):Inv X pins σ (upd H T o') { s with heap:=h',toks:=t' }:=by
 have J:Inv X pins σ H { s with heap:=h',toks:=t' }:=I.turnN f k;have hn:H T=none:=I.hok.fresh a;have N:∀c o,s.heap.get? c=aa o->c≠T:=fun c o q=>yB (yF (yg q) a);refine I.step (g':=s.gens) (d':=s.drawn) (ch:=ch) (fun c h=>?_) (fun c o _ _ h e _=>k c o h e) (fun c o _ _ h e _=>⟨o.slots,k c o h e⟩)
  (fun c o _ q n=>by rw[zax (N c o q)];exact n) (fun c o h e=>⟨o,k c o h e⟩) (fun c xs e=>by rw[zax (zar e hn)];exact e) (fun c u xs e=>by rw[zax (zar e hn)];exact e)
  (fun c ps e=>⟨#[],by rw[zax (zar e hn),e];simp⟩) (fun m hm=>?_) (zgm J.hok hn new) I.bare
 ·obtain⟨a0,a1,a2,a3,a4,a5⟩:=f c h;exact⟨a3,a1,a4,a5⟩
 ·obtain⟨o,es,E,d,r⟩:=hm;exact⟨o,es,E,k _ o (fun z=>(f _ z).2.1 rfl) d,r⟩
end L2
namespace PySem
open Sem (wp)
open Builtin
theorem zjf(a:Int)(t:Tok)(l:ac)(items:Array ag)(n:Nat)(dd:Option ac)(sl:Array (Option ag)) : Meets (aK.«int.__rmul__» ⟨[.int a t,.ref l],[]⟩) (fun _ R s=>s.heap.get? l=aa ⟨.type "tuple", dd,.seq items n,sl⟩/\R (.ok (.ret .notImplemented)) s) :=
 .of_wp fun prog w A R s h=>by
  obtain⟨H,g,d,T,os⟩:=s;obtain⟨hl,h⟩:=h
  wp_walk
  exact⟨_,rfl,h⟩
theorem zfA:fillsNumberSlot (yah "tuple") "mul" = pure ai:=PySem.fillsNumberSlot_seq yb1.lookup (by first | rfl | decide) F.slot_tuple_rmul.lookup (by first | rfl | decide)
theorem ziB:seqRepeat? (yah "tuple")=pure (aa (Value.builtin "tuple.__mul__")):=by
 unfold seqRepeat?;have H:seqSlot? (yah "tuple") (yE "__mul__")=_:=ydJ yb1.lookup (by first | rfl | decide);have h:seqSlot? (yah "tuple") (yE "__rmul__")=_:=ydJ F.slot_tuple_rmul.lookup (by first | rfl | decide);rw[H,h];rfl
theorem zp5(l:ac)(v:ag)(t:Tok)(n:Nat)(dd:Option ac)(sl:Array (Option ag)) : Meets (aK.«tuple.__mul__» ⟨[.ref l,.int 1 t],[]⟩) (fun _ R s=>s.heap.get? l=aa ⟨.type "tuple", dd,.seq #[v] n,sl⟩/\R (.ok (.ret (.ref l))) s) :=
 .of_wp fun prog w A R s h=>by
  obtain⟨H,g,d,T,os⟩:=s;obtain⟨hl,h⟩:=h;unfold aK.«tuple.__mul__»
  wp_walk
  exact⟨_,rfl,h⟩
theorem zfo(v:ag):∀(n:Nat)(a:Array ag),ycZ (fun x1 x2=>x1++x2) a (yp n #[v])=a++(yp n v).toArray
 |0,a=>by simp|n+1,a=>by
  rw[yb2,List.foldl_cons,zfo v n,yb2];apply ybT;simp
theorem zlJ(v:ag)(n:Nat):ycZ (fun x1 x2=>x1++x2) #[] (yp n #[v])=(yp n v).toArray:=by rw[zfo];simp
theorem zp4(l:ac)(v:ag)(x:Int)(t:Tok)(n:Nat)(dd:Option ac)(sl:Array (Option ag))(i:2<=x)(f:x<=1000) : Meets (aK.«tuple.__mul__» ⟨[.ref l,.int x t],[]⟩) (fun _ R s=>s.heap.get? l=aa ⟨.type "tuple", dd,.seq #[v] n,sl⟩∧R (.ok (.ret (.ref s.heap.objs.size))) { s with heap:=s.heap.push { cls := .type "tuple", data := .seq (ycZ (fun x1 X=>x1++X) #[] (yp x.toNat #[v])) } }) :=
 .of_wp fun prog w A R s h=>by
  obtain⟨H,g,d,T,os⟩:=s;obtain⟨hl,h⟩:=h;have c:(decide (x < -2^63)||decide (x ≥ 2^63))=ai:=by simp;omega
  have b:((#[v]:Array ag).isEmpty||x==1)=ai:=by simp;omega
  have a:(decide (x<=0)||(#[v]:Array ag).isEmpty)=ai:=by simp;omega
  have E : ¬ (((#[v]:Array ag).size:Int)*x>(2^63-1)/8):=by simp;omega
  have e:yc0 (((#[v]:Array ag).size:Int)*x)=ai:=by
   unfold yc0;have:(sizeLine:Int)=16777216:=by decide
   rw[this];simp;omega
  unfold aK.«tuple.__mul__»
  wp_walk
  rw[c,if_neg yH];refine aj (m:=ydt _) (aj (aP hl rfl (aw ?_)));show wpAny _ _ (if ((#[v]:Array ag).isEmpty||x==1)=ae then _ else _) _ _ _;rw[b,if_neg yH];show wpAny _ _ (if (decide (x<=0)||(#[v]:Array ag).isEmpty)=ae then _ else _) _ _ _;rw[a,if_neg yH];show wpAny _ _ (if (((#[v]:Array ag).size:Int)*x>(2^63-1)/8) then _ else _) _ _ _;rw[if_neg E];show wpAny _ _ (if yc0 (((#[v]:Array ag).size:Int)*x)=ae then _ else _) _ _ _;rw[e,if_neg yH];refine aj (m:=ybu _) (aR (aw ⟨_,rfl,h⟩) ?_);rw[zlJ];show (yp x.toNat v).toArray.size<=sizeLine;rw[yG,ybt];have:sizeLine=16777216:=by decide
  omega
end PySem
namespace L2
open PySem PySem.Spec PyProof.Rows
section
variable{X:Cx}
theorem zk4{v:V}{u:ag}(r:RelV v u):∀n:Nat,Vals (yp n v) (yp n u)
 |0=>.nil|n+1=>.cons r (zk4 r n)
end
end L2
namespace Mth
open PySem PyProof.Rows
theorem zrg(xs:Array Nat)(a n:Nat)(h:a+n<=xs.size):List.filterMap (fun i=>xs[i]?) ((yC n).map fun k=>a+k)=(xs.toList.drop a).take n:=by
 induction n with
 |zero=>simp|succ n I=>
  rw[yc1,yaj,List.filterMap_append,I (by omega),ycS];have H:a+n<xs.size:=by omega
  simp[H]
theorem zkH(u:Option Int)(n:Nat):ybf none u 1 n=ybf (aa ((0:Nat):Int)) u 1 n:=by
 unfold ybf;simp;rw[show min 0 (n:Int)=0 by omega,Int.max_self]
theorem zkI(l:Option Int)(n:Nat):ybf l none 1 n=ybf l (aa (n:Int)) 1 n:=by
 unfold ybf;simp;rw[if_neg (by omega),Int.min_self,show max 0 (n:Int)=n by omega]
theorem slice_mid(z:af)(a b:Nat)(c:a<=b)(H:b<=z.cps.size):(Txt.slice z (aa (a:Int)) (aa (b:Int))).cps.toList=(z.cps.toList.drop a).take (b-a):=by
 unfold Txt.slice;have hl:z.length=z.cps.size:=rfl;rw[hl,StrLaws.strSliceIndices_plain c H,yd,yap];split
 ·rename_i h;have d:b-a=z.cps.size:=by simpa using h
  have ha:a=0:=by omega
  subst ha;rw[yc2,yb3 (by simp;omega)]
 ·exact zrg z.cps a (b-a) (by omega)
theorem slice_lo(z:af)(b:Nat)(h:b<=z.cps.size):(Txt.slice z none (aa (b:Int))).cps.toList=z.cps.toList.take b:=by
 have e:Txt.slice z none (aa (b:Int))=Txt.slice z (aa ((0:Nat):Int)) (aa (b:Int)):=by
  unfold Txt.slice;rw[zkH]
 rw[e,slice_mid z 0 b (yat _) h];simp
theorem slice_hi(z:af)(a:Nat)(h:a<=z.cps.size):(Txt.slice z (aa (a:Int)) none).cps.toList=z.cps.toList.drop a:=by
 have e:Txt.slice z (aa (a:Int)) none=Txt.slice z (aa (a:Int)) (aa (z.cps.size:Int)):=by
  unfold Txt.slice;rw[zkI];rfl
 rw[e,slice_mid z a z.cps.size h (yb _),yb3 (by simp)]
end Mth
namespace L2
open PySem PySem.Spec PyProof.Rows
variable{X:Cx}
end L2
namespace PySem
open Sem (wp)
open Builtin
abbrev zcs(h:au)(T:ac)(a b c:ag):Prop:=h.get? T=aa { cls := .type "tuple", data := .seq #[a,b,c] }
variable{prog:ar}{A:az}{E:ag->ak->Prop}{s:ak}{T:ac}{a b c:ag}{z i1 i2 i3:ac}{fp1 fp2 fp3:List ac}{n1 n2 n3:Nat}{P1 P2 P3:Nat->ag->Prop}{S1 S2 S3:Nat->au->Prop}{Q:ag->ak->Prop}{c0:ag}
section
variable{w:al}
theorem zfF{h h':au}{c:ac}{d:ag}(hs:yas c h h')(n:T≠c)(e:zcs h T a b d):zcs h' T a b d:=(hs.2 T n).trans e
theorem zbx{x:ag}{k:Nat}{Q:Unit->ak->Prop}(H:zcs s.heap T a b c)
  (h:∀h',h'.get? T=aa { cls := .type "tuple", data := .seq (#[a,b,c].setIfInBounds k x) }->yas T s.heap h'->Q () { s with heap:=h' }) :
  wpAny (ao prog w) A (updateSeq T fun X=>X.setIfInBounds k x) Q E s:=by
 refine wpAny_updateSeq H rfl (h (s.heap.update T (yaw fun X=>X.setIfInBounds k x)) ?_ (ycR ..)) (by simp;have:=bo;omega) (by simp;have:=bo;omega);rw[ycQ _ H rfl];simp[yaw]
theorem zfK{TI TO:ac}{k:Nat}
  (D1:Draws prog w A i1 fp1 n1 P1 S1) (D2:Draws prog w A i2 fp2 n2 P2 S2) (D3:Draws prog w A i3 fp3 n3 P3 S3) (hz:aI s.heap z TI TO .none) (hTI:zcs s.heap TI (.ref i1) (.ref i2) (.ref i3)) (hTO:zcs s.heap TO a b c)
  (h1:S1 k s.heap) (h2:S2 k s.heap) (h3:S3 k s.heap) (k1:k<n1) (k2:k<n2) (k3:k<n3) (N:TO≠z) (n1z:i1≠z) (n2z:i2≠z) (n3z:i3≠z) (n1T:i1≠TO) (n2T:i2≠TO) (n3T:i3≠TO)
  (f1z:z∉fp1) (f1T:TO∉fp1) (f12:i2∉fp1) (f13:i3∉fp1) (f2z:z∉fp2) (f2T:TO∉fp2) (f21:i1∉fp2) (f23:i3∉fp2) (f3z:z∉fp3) (O:TO∉fp3) (f31:i1∉fp3) (f32:i2∉fp3)
  (hQ:∀x y v h' tk,P1 k x->P2 k y->P3 k v->aI h' z TI TO (rawInt s.heap.objs.size)->zcs h' TO x y v->S1 (k+1) h'->S2 (k+1) h'->S3 (k+1) h'->zcs h' s.heap.objs.size x y v->h'.objs.size=s.heap.objs.size+1 →
   (∀c o,c≠z->c≠TO->c≠i1->c≠i2->c≠i3->s.heap.get? c=aa o->h'.get? c=aa o)->Q (.ref s.heap.objs.size) { s with heap:=h',toks:=tk }) :
  wpAny (ao prog w) A (aK.«zip.__next__» ⟨[.ref z],[]⟩) (fun fin s'=>∃v,fin = .done (.ret v)/\Q v s') E s:=by
 show wpAny _ _ (field (.ref z) 2 >>= _) _ _ s;refine aj (aE hz rfl (x := .bool ai) rfl ?_);refine aj (aE hz rfl (x := .ref TI) rfl ?_);refine aj (aP hTI rfl ?_);refine aj (m:=SmallTypes.ownedTupleIsFree (.ref z)) (aj (aE hz rfl (x := .none) rfl (aw ?_)));show wpAny _ _ (if ae=ae then _ else _) _ _ s;rw[if_pos rfl];refine aj (bz ?_);refine aj (aE hz rfl (x := .ref TO) rfl ?_);refine aj (aZ hz (by simp) fun g1 hz1 f=>?_);have st1:S1 k g1:=D1.frame k _ _ h1 fun c h o e=>(f.2 c fun q=>f1z (q ▸ h)).trans e;have st2:S2 k g1:=D2.frame k _ _ h2 fun c h o e=>(f.2 c fun q=>f2z (q ▸ h)).trans e;have st3:S3 k g1:=D3.frame k _ _ h3 fun c h o e=>(f.2 c fun q=>f3z (q ▸ h)).trans e;have hTO1:=zfF f N hTO;refine aj ?_;show wpAny _ _ (forIn [(yn i1,0),(yn i2,1),(yn i3,2)] _ _) _ _ _;rw[yaI];refine aj (aj (bu ?_));refine aj (m:=SmallTypes.nextOf (.ref i1)) (D1.item k { s with heap:=g1 } _ _ k1 st1 fun x g2 tk2 px Y d=>aw ?_);have G:=zfF d (Ne.symm n1T) hTO1;refine aj (aP G rfl ?_);refine aj (zbx G fun g3 r j=>?_);refine aj (ca (aw ?_));have r:zcs g3 TO x b c:=r;have X:S2 k g3:=D2.frame k _ _ st2 fun c h o e=>(j.2 c fun q=>f2T (q ▸ h)).trans ((d.2 c fun q=>f21 (q ▸ h)).trans e);show wpAny _ _ (forIn [(yn i2,1),(yn i3,2)] _ _) _ _ _;rw[yaI];refine aj (aj (bu ?_));refine aj (m:=SmallTypes.nextOf (.ref i2)) (D2.item k { s with heap:=g3,toks:=tk2 } _ _ k2 X fun y g4 tk4 py K i=>aw ?_);have F:=zfF i (Ne.symm n2T) r;refine aj (aP F rfl ?_);refine aj (zbx F fun g5 p B=>?_);refine aj (ca (aw ?_));have p:zcs g5 TO x y c:=p;have W:S3 k g5:=D3.frame k _ _ st3 fun c h o e=>(B.2 c fun q=>O (q ▸ h)).trans ((i.2 c fun q=>f32 (q ▸ h)).trans ((j.2 c fun q=>O (q ▸ h)).trans ((d.2 c fun q=>f31 (q ▸ h)).trans e)));show wpAny _ _ (forIn [(yn i3,2)] _ _) _ _ _;rw[yaI];refine aj (aj (bu ?_));refine aj (m:=SmallTypes.nextOf (.ref i3)) (D3.item k { s with heap:=g5,toks:=tk4 } _ _ k3 W fun v g6 T pv J u=>aw ?_);have D:=zfF u (Ne.symm n3T) p;refine aj (aP D rfl ?_);refine aj (zbx D fun I H t=>?_);refine aj (ca (aw ?_));have H:zcs I TO x y v:=H;show wpAny _ _ (forIn [] _ _) _ _ _;rw[ybX];refine aw ?_;refine aj (aP H rfl ?_);refine aj (wpAny_newTuple ?_);have Z:aI I z TI TO .ellipsis:=(t.2 z (Ne.symm N)).trans ((u.2 z (Ne.symm n3z)).trans ((B.2 z (Ne.symm N)).trans ((i.2 z (Ne.symm n2z)).trans ((j.2 z (Ne.symm N)).trans ((d.2 z (Ne.symm n1z)).trans hz1)))));have S:I.objs.size=s.heap.objs.size:=by rw[t.1,u.1,B.1,i.1,j.1,d.1,f.1]
 have hz8:=ye { cls:=yah "tuple", data:=Data.seq #[x,y,v] } Z;refine aj (m:=SmallTypes.ownedTupleHandOut _ _) ?_;refine aj (m:=setField _ 0 _) (aZ hz8 (by simp) fun g9 hz9 M=>?_);refine aZ hz9 (by simp) fun g hz10 l=>?_;have nw:I.objs.size≠z:=yR (yg Z);have fr:∀c o,c≠z->I.get? c=aa o->g.get? c=aa o:=fun c o n e=>(l.2 c n).trans ((M.2 c n).trans (ye _ e));have U:∀c o,c≠z->c≠TO->c≠i3->g4.get? c=aa o->g.get? c=aa o:=fun c o R P c4 e=>fr c o R ((t.2 c P).trans ((u.2 c c4).trans ((B.2 c P).trans e)));have up:∀c o,c≠z->c≠TO->c≠i2->c≠i3->g2.get? c=aa o->g.get? c=aa o:=fun c o R P c3 c4 e=>U c o R P c4 ((i.2 c c3).trans ((j.2 c P).trans e));have C:g.get? I.objs.size=aa { cls:=yah "tuple", data:=Data.seq #[x,y,v] }:=(l.2 _ nw).trans ((M.2 _ nw).trans (yw _ rfl));have V:g.objs.size=s.heap.objs.size+1:=by
  rw[l.1];show g9.objs.size=_;rw[M.1];show (I.push _).objs.size=_;rw[yQ,S]
 have L:aI g z TI TO (rawInt s.heap.objs.size):=by
  rw[<- S];exact hz10
 refine aw ⟨_,rfl,?_⟩;show Q (yn I.objs.size) { s with heap:=g,toks:=T };rw[S]at C ⊢;refine hQ x y v g T px py pv L (fr _ _ N H) (D1.frame _ _ _ Y fun c h o e=>up c o (fun q=>f1z (q ▸ h)) (fun q=>f1T (q ▸ h)) (fun q=>f12 (q ▸ h)) (fun q=>f13 (q ▸ h)) e) (D2.frame _ _ _ K fun c h o e=>U c o (fun q=>f2z (q ▸ h)) (fun q=>f2T (q ▸ h)) (fun q=>f23 (q ▸ h)) e) (D3.frame _ _ _ J fun c h o e=>fr c o (fun q=>f3z (q ▸ h)) ((t.2 c fun q=>O (q ▸ h)).trans e)) C V fun c o R P c3 c4 c5 e=>up c o R P c4 c5 ((d.2 c c3).trans ((f.2 c R).trans e))
theorem zgK{TI TO:ac}
  (D1:Draws prog w A i1 fp1 n1 P1 S1) (H:aI s.heap z TI TO .none) (j:zcs s.heap TI (.ref i1) (.ref i2) (.ref i3)) (y:zcs s.heap TO a b c0)
  (D:S1 n1 s.heap) (N:TO≠z) (n:i1≠z) (k:z∉fp1)
  (B:∀h' e,(∃o,h'.get? e=aa o/\o.cls = .type "StopIteration")->(∀c o,c≠z->c≠TO->c≠i1->c≠i2->c≠i3->s.heap.get? c=aa o->h'.get? c=aa o)->E (.ref e) { s with heap:=h' }) :
  wpAny (ao prog w) A (aK.«zip.__next__» ⟨[.ref z],[]⟩) (fun F s'=>∃v,F = .done (.ret v)/\Q v s') E s:=by
 show wpAny _ _ (field (.ref z) 2 >>= _) _ _ s;refine aj (aE H rfl (x := .bool ai) rfl ?_);refine aj (aE H rfl (x := .ref TI) rfl ?_);refine aj (aP j rfl ?_);refine aj (m:=SmallTypes.ownedTupleIsFree (.ref z)) (aj (aE H rfl (x := .none) rfl (aw ?_)));show wpAny _ _ (if ae=ae then _ else _) _ _ s;rw[if_pos rfl];refine aj (bz ?_);refine aj (aE H rfl (x := .ref TO) rfl ?_);refine aj (aZ H (by simp) fun g1 i g=>?_);have S:S1 n1 g1:=D1.frame n1 _ _ D fun c u o e=>(g.2 c fun q=>k (q ▸ u)).trans e;refine aj ?_;show wpAny _ _ (forIn [(yn i1,0),(yn i2,1),(yn i3,2)] _ _) _ _ _;rw[yaI];refine aj (aj (bu ?_));refine aj (m:=SmallTypes.nextOf (.ref i1)) (D1.done { s with heap:=g1 } _ _ S fun I e f t=>?_);have h:I.get? z=aa _:=f z _ (Ne.symm n) i;refine aZ h (by simp) fun G r d=>?_;obtain⟨O,l,p⟩:=t;have J:e≠z:=fun q=>by
  rw[q,h]at l;cases l;exact absurd (ydH p) (by decide)
 exact B G e ⟨O,(d.2 e J).trans l,p⟩ fun c o C P K M L q=>(d.2 c C).trans (f c o K ((g.2 c C).trans q))
theorem zcZ{TI TO:ac}{k:Nat}{Q:Option ag->ak->Prop}
  (D1:Draws prog w A.in1 i1 fp1 n1 P1 S1) (R:Draws prog w A.in1 i2 fp2 n2 P2 S2) (P:Draws prog w A.in1 i3 fp3 n3 P3 S3) (G:aI s.heap z TI TO .none) (i:zcs s.heap TI (.ref i1) (.ref i2) (.ref i3)) (H:zcs s.heap TO a b c)
  (M:S1 k s.heap) (L:S2 k s.heap) (K:S3 k s.heap) (k1:k<n1) (k2:k<n2) (k3:k<n3) (n:TO≠z) (g:i1≠z) (e:i2≠z) (N:i3≠z) (h:i1≠TO) (f:i2≠TO) (d:i3≠TO)
  (u:z∉fp1) (B:TO∉fp1) (D:i2∉fp1) (C:i3∉fp1) (p:z∉fp2) (q:TO∉fp2) (t:i1∉fp2) (r:i3∉fp2) (F:z∉fp3) (j:TO∉fp3) (m:i1∉fp3) (l:i2∉fp3)
  (J:∀x y v h' tk,P1 k x->P2 k y->P3 k v->aI h' z TI TO (rawInt s.heap.objs.size)->zcs h' TO x y v->S1 (k+1) h'->S2 (k+1) h'->S3 (k+1) h'->zcs h' s.heap.objs.size x y v->h'.objs.size=s.heap.objs.size+1 →
   (∀c o,c≠z->c≠TO->c≠i1->c≠i2->c≠i3->s.heap.get? c=aa o->h'.get? c=aa o)->Q (aa (.ref s.heap.objs.size)) { s with heap:=h',toks:=tk }) :
  wpAny (ao prog w) A (bn (.ref z)) Q E s:=by
 have I:s.TypeIs (.ref z) "zip" := ⟨_,G,rfl⟩;exact aj (bR (bH I yaR (bp yaR I ybY
  (zfK D1 R P G i H M L K k1 k2 k3 n g e N h f d u B D C p q t r F j m l fun x y v h' tk a0 b0 O a1 a2 a3 a4 a5 a6 a7 a8=>aw (J x y v h' tk a0 b0 O a1 a2 a3 a4 a5 a6 a7 a8)) (ybZ (yn z)))))
theorem zdf{TI TO:ac}{Q:Option ag->ak->Prop}
  (D1:Draws prog w A.in1 i1 fp1 n1 P1 S1) (d:aI s.heap z TI TO .none) (H:zcs s.heap TI (.ref i1) (.ref i2) (.ref i3)) (h:zcs s.heap TO a b c0)
  (l:S1 n1 s.heap) (n:TO≠z) (N:i1≠z) (f:z∉fp1)
  (j:∀h',(∀c o,c≠z->c≠TO->c≠i1->c≠i2->c≠i3->s.heap.get? c=aa o->h'.get? c=aa o)->Q none { s with heap:=h' }) :
  wpAny (ao prog w) A (bn (.ref z)) Q E s:=by
 have g:s.TypeIs (.ref z) "zip" := ⟨_,d,rfl⟩;exact aj (bR (bH g yaR (bp yaR g ybY
  (zgK D1 d H h l n N f fun h' e i k=>let ⟨o,ho,hc⟩:=i;aj (wpAny_isInstance ⟨o,ho,hc⟩ isSubtype_stop (aw (j h' k)))) (ybZ (yn z)))))
end
theorem zi5(l1 l2 l3:ac)(xs ys z:Array ag) :
  Meets (aK.«zip.__new__» ⟨[.type "zip", .ref l1,.ref l2,.ref l3],[]⟩) (fun _ R s=>s.heap.IsTuple l1 xs/\s.heap.IsTuple l2 ys/\s.heap.IsTuple l3 z ∧
   R (.ok (.ret (.ref (((((s.heap.push (tIt l1)).push (tIt l2)).push (tIt l3)).push { cls := .type "tuple", data := .seq #[.ref s.heap.objs.size,.ref (s.heap.push (tIt l1)).objs.size,.ref ((s.heap.push (tIt l1)).push (tIt l2)).objs.size] }).push { cls := .type "tuple", data := .seq #[.none,.none,.none] }).objs.size)))
    { s with heap:=(((((s.heap.push (tIt l1)).push (tIt l2)).push (tIt l3)).push { cls := .type "tuple", data := .seq #[.ref s.heap.objs.size,.ref (s.heap.push (tIt l1)).objs.size,.ref ((s.heap.push (tIt l1)).push (tIt l2)).objs.size] }).push { cls := .type "tuple", data := .seq #[.none,.none,.none] }).push { cls := .type "zip", data := .fields #[.none,.bool ai,.bool ai,.ref (((s.heap.push (tIt l1)).push (tIt l2)).push (tIt l3)).objs.size,.ref ((((s.heap.push (tIt l1)).push (tIt l2)).push (tIt l3)).push { cls := .type "tuple", data := .seq #[.ref s.heap.objs.size,.ref (s.heap.push (tIt l1)).objs.size,.ref ((s.heap.push (tIt l1)).push (tIt l2)).objs.size] }).objs.size] } }) :=
 .of_wp fun prog w A R s h=>by
  obtain⟨e,g,d,t,os⟩:=s;obtain⟨hl1,hl2,hl3,h⟩:=h;have c:=sub_zip;have b:=hl1;have a:=yb0 hl2 (tIt l1);have H:=yb0 (yb0 hl3 (tIt l1)) (tIt l2)
  wp_walk using ba b,ba a,ba H
  exact⟨_,rfl,h⟩
theorem zgL(a b c:ag):checkTypeCall "zip" { pos:=[a,b,c] }=pure ():=id (Eq.refl (checkTypeCall "zip" { pos:=[a,b,c] }))
theorem zh5(a b c:ag):cD "zip.__new__" { pos:=[yah "zip", a,b,c] }=pure ():=by
 have h:=ycX a b;unfold cD at h ⊢;exact h
theorem zeO(a b c d:ag):argsOk "object.__init__" { pos:=[a,b,c,d] }:=by first | rfl | exact id (Eq.refl _)
theorem zkS{w:al}{l1 l2 l3:ac}{xs ys d:Array ag}(l:s.heap.IsTuple l1 xs)(k:s.heap.IsTuple l2 ys)(H:s.heap.IsTuple l3 d)
  (h:∀h',aI h' (s.heap.objs.size+5) (s.heap.objs.size+3) (s.heap.objs.size+4) .none->zcs h' (s.heap.objs.size+3) (.ref s.heap.objs.size) (.ref (s.heap.objs.size+1)) (.ref (s.heap.objs.size+2))->zcs h' (s.heap.objs.size+4) .none .none .none →
   h'.IsTupleIter s.heap.objs.size l1 0->h'.IsTupleIter (s.heap.objs.size+1) l2 0->h'.IsTupleIter (s.heap.objs.size+2) l3 0->(∀b o,s.heap.get? b=aa o->h'.get? b=aa o)->Q (.ref (s.heap.objs.size+5)) { s with heap:=h' }) :
  wpAny (ao prog w) A (call (.type "zip") [.ref l1,.ref l2,.ref l3]) Q E s:=by
 refine cm ycW (by decide) (zgL _ _ _) (zh5 _ _ _) (fun obj=>zeO obj _ _ _) ycY (zi5 l1 l2 l3 xs ys d) ⟨l,k,H,?_⟩;have c:(s.heap.push (tIt l1)).objs.size=s.heap.objs.size+1:=yQ ..;have a:((s.heap.push (tIt l1)).push (tIt l2)).objs.size=s.heap.objs.size+2:=by rw[yQ,c]
 have Z:(((s.heap.push (tIt l1)).push (tIt l2)).push (tIt l3)).objs.size=s.heap.objs.size+3:=by rw[yQ,a]
 rw[c,a,Z];have z:((((s.heap.push (tIt l1)).push (tIt l2)).push (tIt l3)).push { cls := .type "tuple", data := .seq #[.ref s.heap.objs.size,.ref (s.heap.objs.size+1),.ref (s.heap.objs.size+2)] }).objs.size=s.heap.objs.size+4:=by rw[yQ,Z]
 have f:(((((s.heap.push (tIt l1)).push (tIt l2)).push (tIt l3)).push { cls := .type "tuple", data := .seq #[.ref s.heap.objs.size,.ref (s.heap.objs.size+1),.ref (s.heap.objs.size+2)] }).push { cls := .type "tuple", data := .seq #[.none,.none,.none] }).objs.size=s.heap.objs.size+5:=by rw[yQ,z]
 rw[z,f];have j:=yw (o:=tIt l1) s.heap rfl;have i:=yw (o:=tIt l2) (s.heap.push (tIt l1)) rfl;have p2:=yw (o:=tIt l3) ((s.heap.push (tIt l1)).push (tIt l2)) rfl;have g:=yw (o:={ cls := .type "tuple", data := .seq #[.ref s.heap.objs.size,.ref (s.heap.objs.size+1),.ref (s.heap.objs.size+2)] }) (((s.heap.push (tIt l1)).push (tIt l2)).push (tIt l3)) rfl;have P:=yw (o:={ cls := .type "tuple", data := .seq #[.none,.none,.none] }) ((((s.heap.push (tIt l1)).push (tIt l2)).push (tIt l3)).push { cls := .type "tuple", data := .seq #[.ref s.heap.objs.size,.ref (s.heap.objs.size+1),.ref (s.heap.objs.size+2)] }) rfl;have p:=yw (o:={ cls := .type "zip", data := .fields #[.none,.bool ai,.bool ai,.ref (s.heap.objs.size+3),.ref (s.heap.objs.size+4)] }) (((((s.heap.push (tIt l1)).push (tIt l2)).push (tIt l3)).push { cls := .type "tuple", data := .seq #[.ref s.heap.objs.size,.ref (s.heap.objs.size+1),.ref (s.heap.objs.size+2)] }).push { cls := .type "tuple", data := .seq #[.none,.none,.none] }) rfl;rw[c]at i;rw[a]at p2;rw[Z]at g;rw[z]at P;rw[f]at p;have up:∀{h:au}{b:ac}{o:av}(o':av),h.get? b=aa o->(h.push o').get? b=aa o:=fun o' e=>ye o' e;exact⟨⟨_,p,rfl⟩,h _ p (up _ (up _ g)) (up _ P) ⟨_,up _ (up _ (up _ (up _ (up _ j)))),rfl,rfl⟩ ⟨_,up _ (up _ (up _ (up _ i))),rfl,rfl⟩ ⟨_,up _ (up _ (up _ p2)),rfl,rfl⟩ fun b o e=>up _ (up _ (up _ (up _ (up _ (up _ e)))))⟩
end PySem
namespace L2
open PySem PySem.Spec PyProof.Rows
section
variable{X:Cx}{elts:List am}{kt:Nat}{pt:ax}{e1 e2 e3:am}{te1 te2 te3:TE}{p pos:ax}
theorem vals3{x y z:V}{us:List ag}(r:Vals [x,y,z] us):∃u v w,us=[u,v,w]/\RelV x u/\RelV y v/\RelV z w:=by
 cases r with
 |cons p q=>
  obtain⟨v,w,rfl,a,R⟩:=zhB q;exact⟨_,_,_,rfl,p,a,R⟩
end
end L2
namespace MD
open PySem PySem.Spec PyProof.Rows L2
inductive D where
 |non | bl (b:Bool) | int (i:Int) | str (x:af) | flt (b:UInt64) | byt (b:Array UInt8) | ob (k:Nat) | tup (xs:List D) | lst (xs:List D) | scr (xs:List D)
 |exn (c:af) (ds:List D)
inductive MO where
 |lst (xs:List D) | dct (kvs:List (L2.Key×D)) | ins (c:af) (fs:List (af×D))
 |hid
abbrev Sto:=List MO
abbrev En:=List (Option D)
structure Exc where
 cls:af
 args:List D
inductive Res(α : Type) where
 |ok (a:α) (m:Sto) | exc (c:Exc) (m:Sto) | bad
def Res.bind{α β : Type}(r:Res α)(k:α -> Sto->Res β):Res β := match r with
 |.ok a m=>k a m|.exc c m=>.exc c m|.bad=>.bad
def Post{α : Type}(r:Res α)(Q:α -> Sto->Prop)(E:Exc->Sto->Prop):Prop:=match r with
 |.ok a m=>Q a m|.exc c m=>E c m|.bad=>False
def TupAt(K:ya)(H:Hp)(a:ac)(xs:List V):Prop :=
 H a=aa (.tup xs)∨∃(o:av)(its:Array ag)(n:Nat),K.lookup a=aa o/\o.cls = .type "tuple" /\ o.dict=none/\o.data = .seq its n/\its.size<=sizeLine/\Vals xs its.toList
variable{K:ya}{H:Hp}{a:ac}{xs:List V}
theorem TupAt.sq(h:TupAt K H a xs):SqT K H a xs:=by
 rcases h with h|⟨o,its,n,f,e,_,d,c,b⟩
 ·exact .inl (.inl h)
 ·exact .inr ⟨o,its,n,f,e,d,c,b⟩
def KL(K:ya)(a:ac)(xs:List V):Prop:=∃(o:av)(its:Array ag)(n:Nat),K.lookup a=aa o/\o.cls = .type "list" /\ o.dict=none/\o.data = .seq its n/\its.size<=sizeLine/\Vals xs its.toList
def LstAt(K:ya)(α : List ac)(H:Hp)(a:ac)(xs:List V):Prop:=(a∉α /\ Rd H a (.lst xs))∨KL K a xs
variable{α : List ac}
theorem LstAt.sq(h:LstAt K α H a xs):SqL K H a xs:=by
 rcases h with h|h
 ·exact .inl h.2
 ·exact .inr h
def zr7(C:ag)(dd:Option ac)(e:ac):au->Prop:=fun h=>∃o vs,h.get? e=aa o/\o.cls=C/\o.dict=dd/\o.data = .fields vs
def ztS(H:Hp)(dd:Option ac)(xs:List V):Prop:=(dd=none/\xs=[])∨∃dx x,dd=aa dx/\xs=[x]/\H dx=aa (.xd [("row", x)])
mutual
def Rep(K:ya)(α : List ac)(H:Hp):D->V->Prop
 |.non,v=>v = .non|.bl b,v=>v = .bl b|.int i,v=>v = .int i|.str x,v=>v = .str x|.flt x,v=>v = .flt x|.byt x,v=>v = .byt x|.ob k,v=>∃a,α[k]?=aa a/\v = .ref a|.tup ds,v=>∃a xs,v = .ref a/\TupAt K H a xs/\RepL K α H ds xs|.lst ds,v=>∃a xs,v = .ref a/\a∉α /\ Rd H a (.lst xs)/\RepL K α H ds xs|.scr ds,v=>∃a xs,v = .ref a/\LstAt K α H a xs/\RepL K α H ds xs|.exn c ds,v=>∃a C dd xs,v = .ref a/\yai K aF c=aa (aa (.ref C))/\H a=aa (.ext (zr7 (.ref C) dd a))/\ztS H dd xs/\RepL K α H ds xs
def RepL(K:ya)(α : List ac)(H:Hp):List D->List V->Prop
 |[],vs=>vs=[]|d::ds,vs=>∃v r,vs=v::r/\Rep K α H d v/\RepL K α H ds r
end
def RepKV(K:ya)(α : List ac)(H:Hp):List (L2.Key×D)->List (L2.Key×V)->Prop
 |[],vs=>vs=[]|d::ds,vs=>∃v r,vs=(d.1,v)::r/\Rep K α H d.2 v/\RepKV K α H ds r
def RepF(K:ya)(α : List ac)(H:Hp):List (af×D)->List (af×V)->Prop
 |[],vs=>vs=[]|d::ds,vs=>∃v r,vs=(d.1,v)::r/\Rep K α H d.2 v/\RepF K α H ds r
def MoRep(K:ya)(cl:af->ac)(α : List ac)(H:Hp)(a:ac):MO->Prop
 |.lst ds=>∃xs,H a=aa (.lst xs)/\RepL K α H ds xs|.dct ds=>∃xs,H a=aa (.dK xs)/\RepKV K α H ds xs|.ins c ds=>∃dx xs,H a=aa (.ins (cl c) dx xs)/\RepF K α H ds xs|.hid=>∃o xs,H a=aa (.frz o (.dK xs))
structure Wd(K:ya)(cl:af->ac)(α : List ac)(m:Sto)(H:Hp):Prop where
 len:α.length=m.length
 nd:α.Nodup
 at':∀(k:Nat)(a:ac)(o:MO),α[k]?=aa a->m[k]?=aa o->MoRep K cl α H a o
structure Ext(α : List ac)(H:Hp)(α':List ac)(H':Hp):Prop where
 pre:∃β,α'=α ++ β /\ ∀b ∈ β,H b=none
 keep:∀a o,H a=aa o->a∉α -> H' a=aa o
 there:∀a∈α,H' a≠none
 frzs:∀a o u,H a=aa (.frz o u)->H' a=aa (.frz o u)
variable{cl:af->ac}{α' α2:List ac}{m m':Sto}{H' H2:Hp}{u:HO}{d:D}{v:V}{ds:List D}{vs:List V}{o:MO}{p:ac}
section
theorem Wd.is(W:Wd K cl α m H)(ha:a∈α):(∃xs,H a=aa (.lst xs))∨(∃xs,H a=aa (.dK xs))∨(∃c dx xs,H a=aa (.ins c dx xs))∨∃o xs,H a=aa (.frz o (.dK xs)):=by
 obtain⟨k,b,rfl⟩:=yb4.mp ha;have hm:k<m.length:=by rw[<- W.len];exact b
 have h:=W.at' k α[k] m[k] (by simp[b]) (by simp[hm]);cases e:m[k] with
 |lst ds=>rw[e]at h;obtain⟨xs,h,_⟩:=h;exact .inl ⟨xs,h⟩
 |dct ds=>rw[e]at h;obtain⟨xs,h,_⟩:=h;exact .inr (.inl ⟨xs,h⟩)
 |ins c ds=>rw[e]at h;obtain⟨dx,xs,h,_⟩:=h;exact .inr (.inr (.inl ⟨_,dx,xs,h⟩))
 |hid=>rw[e]at h;obtain⟨o,xs,h⟩:=h;exact .inr (.inr (.inr ⟨o,xs,h⟩))
theorem Wd.has(W:Wd K cl α m H)(ha:a∈α):H a≠none:=by
 rcases W.is ha with⟨_,h⟩|⟨_,h⟩|⟨_,_,_,h⟩|⟨_,_,h⟩ <;> rw[h] <;> exact fun z=>nomatch z
theorem Wd.notup(W:Wd K cl α m H)(h:Rd H a (.tup xs)):a∉α := fun ha=>by
 rcases h with h|⟨o,h⟩ <;> rcases W.is ha with⟨_,e⟩|⟨_,e⟩|⟨_,_,_,e⟩|⟨_,_,e⟩ <;> rw[h]at e <;> cases e
theorem Wd.noext(W:Wd K cl α m H){φ : au->Prop}(h:H a=aa (.ext φ)):a∉α := fun ha=>by
 rcases W.is ha with⟨_,e⟩|⟨_,e⟩|⟨_,_,_,e⟩|⟨_,_,e⟩ <;> rw[h]at e <;> cases e
theorem Wd.noxd(W:Wd K cl α m H){fs:List (af×V)}(h:H a=aa (.xd fs)):a∉α := fun ha=>by
 rcases W.is ha with⟨_,e⟩|⟨_,e⟩|⟨_,_,_,e⟩|⟨_,_,e⟩ <;> rw[h]at e <;> cases e
theorem Ext.rd(E:Ext α H α' H')(h:Rd H a u)(n:a∉α):Rd H' a u:=by
 rcases h with h|⟨o,h⟩
 ·exact .inl (E.keep a _ h n)
 ·exact .inr ⟨o,E.keep a _ h n⟩
theorem Rd.ne(h:Rd H a u):H a≠none:=by
 rcases h with h|⟨o,h⟩ <;> rw[h] <;> exact fun z=>nomatch z
theorem Ext.sqt(E:Ext α H α' H')(W:Wd K cl α m H)(h:SqT K H a xs):SqT K H' a xs:=by
 rcases h with h|h
 ·exact .inl (E.rd h (W.notup h))
 ·exact .inr h
structure Kp(α : List ac)(H:Hp)(α':List ac)(H':Hp):Prop where
 pre:∃β,α'=α ++ β
 tup:∀a xs,H a=aa (.tup xs)->H' a=aa (.tup xs)
 lst:∀a xs,a∉α -> Rd H a (.lst xs)->a∉α'/\Rd H' a (.lst xs)
 ext:∀a φ,H a=aa (.ext φ)->H' a=aa (.ext φ)
 xd:∀a fs,H a=aa (.xd fs)->H' a=aa (.xd fs)
theorem Ext.kp(E:Ext α H α' H')(W:Wd K cl α m H):Kp α H α' H':=⟨let ⟨β,e,_⟩:=E.pre;⟨β,e⟩,fun a xs h=>E.keep a _ h (W.notup (.inl h)),fun a xs n h=>⟨fun z=>by
  obtain⟨β,rfl,b⟩:=E.pre;rcases y6.mp z with z|z
  ·exact n z
  ·exact Rd.ne h (b a z),E.rd h n⟩,(fun a φ h=>E.keep a _ h (W.noext h)),(fun a fs h=>E.keep a _ h (W.noxd h))⟩
theorem Kp.xdAt(E:Kp α H α' H'){dd:Option ac}(h:ztS H dd xs):ztS H' dd xs:=by
 rcases h with h|⟨dx,x,c,b,a⟩
 ·exact .inl h
 ·exact .inr ⟨dx,x,c,b,E.xd _ _ a⟩
theorem Kp.lstAt(E:Kp α H α' H')(h:LstAt K α H a xs):LstAt K α' H' a xs:=by
 rcases h with h|h
 ·exact .inl (E.lst a xs h.1 h.2)
 ·exact .inr h
mutual
theorem Rep.kp(E:Kp α H α' H'):∀{d:D}{v:V},Rep K α H d v->Rep K α' H' d v
 |.non,_,h=>by simpa [Rep] using h|.bl _,_,h=>by simpa [Rep] using h|.int _,_,h=>by simpa [Rep] using h|.str _,_,h=>by simpa [Rep] using h|.flt _,_,h=>by simpa [Rep] using h|.byt _,_,h=>by simpa [Rep] using h|.ob k,_,h=>by
  rw[Rep]at h ⊢;obtain⟨a,h1,h2⟩:=h;obtain⟨β,rfl⟩:=E.pre;exact⟨a,by rw[yO (yc.mp h1).1];exact h1,h2⟩
 |.tup ds,_,h=>by
  rw[Rep]at h ⊢;obtain⟨a,xs,e,h1,h2⟩:=h;refine⟨a,xs,e,?_,RepL.kp E h2⟩;rcases h1 with h1|h1
  ·exact .inl (E.tup a xs h1)
  ·exact .inr h1
 |.lst ds,_,h=>by
  rw[Rep]at h ⊢;obtain⟨a,xs,e,n,h1,h2⟩:=h;exact⟨a,xs,e,(E.lst a xs n h1).1,(E.lst a xs n h1).2,RepL.kp E h2⟩
 |.scr ds,_,h=>by
  rw[Rep]at h ⊢;obtain⟨a,xs,e,h1,h2⟩:=h;exact⟨a,xs,e,E.lstAt h1,RepL.kp E h2⟩
 |.exn c ds,_,h=>by
  rw[Rep]at h ⊢;obtain⟨a,C,dd,xs,e,n,h1,h2,b⟩:=h;exact⟨a,C,dd,xs,e,n,E.ext _ _ h1,E.xdAt h2,RepL.kp E b⟩
theorem RepL.kp(E:Kp α H α' H'):∀{ds:List D}{vs:List V},RepL K α H ds vs->RepL K α' H' ds vs
 |[],_,h=>by rw[RepL]at h ⊢;exact h|_::_,_,h=>by
  rw[RepL]at h ⊢;obtain⟨v,r,e,h1,h2⟩:=h;exact⟨v,r,e,Rep.kp E h1,RepL.kp E h2⟩
end
theorem Rep.mono(W:Wd K cl α m H)(E:Ext α H α' H')(h:Rep K α H d v):Rep K α' H' d v:=h.kp (E.kp W)
theorem RepL.mono(W:Wd K cl α m H)(E:Ext α H α' H')(h:RepL K α H ds vs):RepL K α' H' ds vs:=h.kp (E.kp W)
theorem Ext.refl(W:Wd K cl α m H):Ext α H α H:=⟨⟨[],by simp,fun _ h=>nomatch h⟩,fun _ _ h _=>h,fun _ h=>W.has h,fun _ _ _ h=>h⟩
theorem Ext.trans(a:Ext α H α' H')(b:Ext α' H' α2 H2):Ext α H α2 H2:=by
 obtain⟨β,rfl,f⟩:=a.pre;obtain⟨g,rfl,d⟩:=b.pre;refine⟨⟨β ++ g,by simp,fun c h=>?_⟩,fun x o h n=>b.keep x o (a.keep x o h n) fun z=>?_,fun x h=>b.there x (yaV _ h),fun x o u h=>b.frzs x o u (a.frzs x o u h)⟩
 ·rcases y6.mp h with h|h
  ·exact f c h
  ·cases e:H c with
   |none=>rfl|some o=>
    by_cases hm:c∈α
    ·exact absurd (d c h) (a.there c hm)
    ·have:=a.keep c o e hm;rw[d c h]at this;cases this
 ·rcases y6.mp z with z|z
  ·exact n z
  ·rw[f x z]at h;cases h
theorem Ext.of_same(W:Wd K cl α m H)(s:Same H H'):Ext α H α H':=by
 refine⟨⟨[],by simp,fun _ h=>nomatch h⟩,fun a o h _=>s a o h,fun a ha z=>?_,fun a o u h=>s a _ h⟩;cases e:H a with
 |none=>exact W.has ha e|some o=>rw[s a o e]at z;cases z
theorem RepKV.kp(E:Kp α H α' H'):∀{ds:List (L2.Key×D)}{vs:List (L2.Key×V)},RepKV K α H ds vs->RepKV K α' H' ds vs
 |[],_,h=>h|_::_,_,⟨v,r,e,h1,h2⟩=>⟨v,r,e,Rep.kp E h1,RepKV.kp E h2⟩
theorem RepF.kp(E:Kp α H α' H'):∀{ds:List (af×D)}{vs:List (af×V)},RepF K α H ds vs->RepF K α' H' ds vs
 |[],_,h=>h|_::_,_,⟨v,r,e,h1,h2⟩=>⟨v,r,e,Rep.kp E h1,RepF.kp E h2⟩
theorem RepKV.mono(W:Wd K cl α m H)(E:Ext α H α' H'){ds:List (L2.Key×D)}{vs:List (L2.Key×V)}(h:RepKV K α H ds vs):RepKV K α' H' ds vs:=h.kp (E.kp W)
theorem RepF.mono(W:Wd K cl α m H)(E:Ext α H α' H'){ds:List (af×D)}{vs:List (af×V)}(h:RepF K α H ds vs):RepF K α' H' ds vs:=h.kp (E.kp W)
theorem MoRep.kp(E:Kp α H α' H')(s:∀o,H a=aa o->H' a=aa o):∀{o:MO},MoRep K cl α H a o->MoRep K cl α' H' a o
 |.lst _,⟨xs,h1,h2⟩=>⟨xs,s _ h1,h2.kp E⟩|.dct _,⟨xs,h1,h2⟩=>⟨xs,s _ h1,h2.kp E⟩|.ins _ _,⟨dx,xs,h1,h2⟩=>⟨dx,xs,s _ h1,h2.kp E⟩|.hid,⟨o,xs,h1⟩=>⟨o,xs,s _ h1⟩
theorem MoRep.mono(W:Wd K cl α m H)(E:Ext α H α' H')(s:∀o,H a=aa o->H' a=aa o)(h:MoRep K cl α H a o):MoRep K cl α' H' a o:=h.kp (E.kp W) s
theorem Wd.same(W:Wd K cl α m H)(s:Same H H'):Wd K cl α m H':=⟨W.len,W.nd,fun k a o c b=>(W.at' k a o c b).mono W (Ext.of_same W s) fun o h=>s a o h⟩
theorem Wd.join(W:Wd K cl α m H)(hn:p∉α)(kp:Kp α H (α ++ [p]) (upd H p u))(h:MoRep K cl (α ++ [p]) (upd H p u) p o):Wd K cl (α ++ [p]) (m++[o]) (upd H p u):=by
 refine⟨by rw[yD,yD,W.len];rfl,?_,fun k a o' c d=>?_⟩
 ·rw[ydK];exact⟨W.nd,by simp,fun a ha b i e=>hn (by rw[<- yS.mp i,<- e];exact ha)⟩
 ·by_cases g:k < α.length
  ·rw[yO g]at c;rw[yO (by rw[<- W.len];exact g)]at d;exact(W.at' k a o' c d).kp kp fun o h=>by rw[zax (fun z=>hn (by rw[<- z];exact yW c))];exact h
  ·have f:k=α.length:=by
    have:=(yc.mp c).1;rw[yD]at this;have:[p].length=1:=rfl;omega
   subst f;rw[yaF (yb _)]at c;rw[W.len,yaF (yb _)]at d;simp at c d;subst c d;exact h
theorem Wd.new(W:Wd K cl α m H)(c:H p=none)(h:MoRep K cl (α ++ [p]) (upd H p u) p o):Wd K cl (α ++ [p]) (m++[o]) (upd H p u)/\Ext α H (α ++ [p]) (upd H p u):=by
 have s:Same H (upd H p u):=fun b o e=>by rw[zax (zar e c)];exact e
 have E:Ext α H (α ++ [p]) (upd H p u):=⟨⟨[p],rfl,fun b d=>by rw[yS.mp d];exact c⟩,fun a o h _=>s a o h,(Ext.of_same W s).there,fun a o u h=>s a _ h⟩;exact⟨W.join (fun z=>W.has z c) (E.kp W) h,E⟩
end
theorem ex3{A B C:Type}{P Q R:A->B->C->Prop}{G:Prop}(h:∃a b c,P a b c/\Q a b c/\R a b c)(k:∀a b c,P a b c->Q a b c->R a b c->G):G:=h.elim fun a h=>h.elim fun b h=>h.elim fun c h=>k a b c h.1 h.2.1 h.2.2
abbrev XD:=Exc->List ac->Sto->Hp->Prop
abbrev RD(a : Type) := a -> List ac->Sto->Hp->Prop
variable{τ : Type}
def PQ(K:ya)(cl:af->ac)(ex:XD)(r:Res τ)(α : List ac)(H:Hp)(R:RD τ):Prop :=
 Post r (fun d m'=>∀α' H',Ext α H α' H'->Wd K cl α' m' H'->R d α' m' H') fun c m'=>∀α' H',Ext α H α' H'->Wd K cl α' m' H'->ex c α' m' H'
structure RepE(K:ya)(α : List ac)(H:Hp)(ρ : En)(σ : L2.St):Prop where
 len:ρ.length=σ.length
 at':∀(i:Nat)(d:D),ρ[i]?=aa (aa d)->∃v,σ[i]?=aa (aa v)/\Rep K α H d v
variable{ex:XD}{i:Nat}{R:RD τ}{Q:VK}
section
variable{ρ ρ':En}{σ σ':L2.St}{υ : Type}
theorem RepE.mono(W:Wd K cl α m H)(E:Ext α H α' H')(h:RepE K α H ρ σ):RepE K α' H' ρ σ := ⟨h.len,fun i d e=>let ⟨v,a,b⟩:=h.at' i d e;⟨v,a,b.mono W E⟩⟩
theorem RepE.set(h:RepE K α H ρ σ)(r:Rep K α H d v):RepE K α H (ρ.set i (aa d)) (σ.set i (aa v)):=by
 refine⟨by rw[yak,yak,h.len],fun j e a=>?_⟩;by_cases b:i=j
 ·subst b;have hl:i < ρ.length:=by
   have:=(yc.mp a).1
   rwa [yak]at this
  rw[yaB hl]at a;cases a;exact⟨v,yaB (by rw[<- h.len];exact hl),r⟩
 ·rw[yan b]at a ⊢;exact h.at' j e a
theorem RepE.more(h:RepE K α H ρ σ)(n:Nat):RepE K α H (ρ ++ yp n none) (σ ++ yp n none):=by
 refine⟨by simp[h.len],fun j e a=>?_⟩;by_cases hl:j < ρ.length
 ·rw[yO hl]at a;rw[yO (by rw[<- h.len];exact hl)];exact h.at' j e a
 ·rw[yaF (by omega),ycx]at a;split at a <;> cases a
theorem PQ.mono{r:Res τ}{a:RD τ}(E:Ext α H α' H')(h:PQ K cl ex r α H R)(b:∀d α2 m2 H2,Ext α' H' α2 H2->Wd K cl α2 m2 H2->R d α2 m2 H2->a d α2 m2 H2):PQ K cl ex r α' H' a:=by
 cases r with
 |ok d m2=>exact fun α2 H2 e W=>b d α2 m2 H2 e W (h α2 H2 (E.trans e) W)|exc c m2=>exact fun α2 H2 e W=>h α2 H2 (E.trans e) W|bad=>exact h
theorem PQ.bind{r:Res τ}{k : τ -> Sto->Res υ}{R:RD υ}(h:PQ K cl ex (r.bind k) α H R):PQ K cl ex r α H fun d a m1 H1=>PQ K cl ex (k d m1) a H1 R:=by
 cases r with
 |ok d m1=>exact fun a H1 E _=>PQ.mono E h fun _ _ _ _ _ _ q=>q|exc c m1=>exact h|bad=>exact h
theorem PQ.ok{d : τ}(W:Wd K cl α m H)(h:PQ K cl ex (.ok d m) α H R):R d α m H:=h α H (Ext.refl W) W
theorem PQ.okS{d : τ}(W:Wd K cl α m H)(s:Same H H')(h:PQ K cl ex (.ok d m) α H R):R d α m H':=h α H' (Ext.of_same W s) (W.same s)
def tD(K:ya)(cl:af->ac)(ex:XD)(f:En->Sto->Res D):TE:=fun σ H Q=>∃α ρ m,Wd K cl α m H/\RepE K α H ρ σ /\ PQ K cl ex (f ρ m) α H fun d α' _ H'=>∀v,Rep K α' H' d v->Q v H'
def tDT(K:ya)(cl:af->ac)(ex:XD)(f:En->Sto->Res Bool):TT:=fun σ H Q=>∃α ρ m,Wd K cl α m H/\RepE K α H ρ σ /\ PQ K cl ex (f ρ m) α H fun d _ _ H'=>Q d H'
def tDA(K:ya)(cl:af->ac)(ex:XD)(f:En->Sto->Res (List D)):TA:=fun σ H Q=>∃α ρ m,Wd K cl α m H/\RepE K α H ρ σ /\ PQ K cl ex (f ρ m) α H fun d α' _ H'=>∀v,RepL K α' H' d v->Q v H'
theorem tD.use{f:En->Sto->Res D}{k:D->Sto->Res τ}(W:Wd K cl α m H)(hr:RepE K α H ρ σ)(h:PQ K cl ex ((f ρ m).bind k) α H R)(b:∀a m1 H1 d v,Ext α H a H1->Wd K cl a m1 H1->RepE K a H1 ρ σ -> Rep K a H1 d v->PQ K cl ex (k d m1) a H1 R->Q v H1):tD K cl ex f σ H Q :=
 ⟨α,ρ,m,W,hr,PQ.mono (Ext.refl W) h.bind fun d a m1 H1 E w q v r=>b a m1 H1 d v E w (hr.mono W E) r q⟩
theorem tDT.use{f:En->Sto->Res Bool}{k:Bool->Sto->Res τ}{Q:Bool->Hp->Prop}(W:Wd K cl α m H)(hr:RepE K α H ρ σ)(h:PQ K cl ex ((f ρ m).bind k) α H R)(b:∀a m1 H1 d,Ext α H a H1->Wd K cl a m1 H1->RepE K a H1 ρ σ -> PQ K cl ex (k d m1) a H1 R->Q d H1):tDT K cl ex f σ H Q :=
 ⟨α,ρ,m,W,hr,PQ.mono (Ext.refl W) h.bind fun d a m1 H1 E w q=>b a m1 H1 d E w (hr.mono W E) q⟩
theorem tDA.use{f:En->Sto->Res (List D)}{k:List D->Sto->Res τ}{Q:List V->Hp->Prop}(W:Wd K cl α m H)(hr:RepE K α H ρ σ)(h:PQ K cl ex ((f ρ m).bind k) α H R)(b:∀a m1 H1 d v,Ext α H a H1->Wd K cl a m1 H1->RepE K a H1 ρ σ -> RepL K a H1 d v->PQ K cl ex (k d m1) a H1 R->Q v H1):tDA K cl ex f σ H Q :=
 ⟨α,ρ,m,W,hr,PQ.mono (Ext.refl W) h.bind fun d a m1 H1 E w q v r=>b a m1 H1 d v E w (hr.mono W E) r q⟩
end
section
variable(X:Cx)(cl:af->ac)(ex:XD)
abbrev EV:=En->Sto->Res D
abbrev TV:=En->Sto->Res Bool
abbrev AV:=En->Sto->Res (List D)
structure QE(e:am)(f:EV):Prop where
 out:PE X e (tD X.K cl ex f)
structure QT(e:am)(f:TV):Prop where
 out:PT X e (tDT X.K cl ex f)
structure QW(e:am)(f:TV):Prop where
 out:PW X e (tDT X.K cl ex f)
structure QA(es:List am)(f:AV):Prop where
 out:PA X es (tDA X.K cl ex f)
end
variable{X:Cx}{t:TE}
theorem PE.weak{e:am}{t':TE}(h:PE X e t)(w:∀σ H Q,t' σ H Q->t σ H Q):PE X e t':=fun pins s σ H Q I q=>h pins s σ H Q I (w σ H Q q)
variable{t':TT}
theorem PT.weak{e:am}{t:TT}(h:PT X e t)(w:∀σ H Q,t' σ H Q->t σ H Q):PT X e t':=fun pins s σ H Q I q=>h pins s σ H Q I (w σ H Q q)
theorem PW.weak{e:am}{t:TT}(h:PW X e t)(w:∀σ H Q,t' σ H Q->t σ H Q):PW X e t':=fun wh pins s σ H Q I q=>h wh pins s σ H Q I (w σ H Q q)
theorem PA.weak{e:List am}{t t':TA}(h:PA X e t)(w:∀σ H Q,t' σ H Q->t σ H Q):PA X e t':=fun p pins s σ H Q I q=>h p pins s σ H Q I (w σ H Q q)
theorem PS.weak{e:aq}{t t':TS}(h:PS X e t)(w:∀D σ H,t' D σ H->t D σ H):PS X e t':=fun pins s σ H D I q=>h pins s σ H D I (w D σ H q)
theorem PSs.weak{e:List aq}{t t':TS}(h:PSs X e t)(w:∀D σ H,t' D σ H->t D σ H):PSs X e t':=fun pins s σ H D I q=>h pins s σ H D I (w D σ H q)
def zag(i:Nat):EV:=fun ρ m=>match ρ[i]? with
 |some (aa d)=>.ok d m|_=>.bad
def eC(d:D):EV:=fun _ m=>.ok d m
def eOp(g:D->D->Sto->Res D)(F f:EV):EV:=fun ρ m=>(F ρ m).bind fun x m1=>(f ρ m1).bind fun y m2=>g x y m2
def eUn(g:D->Sto->Res D)(f:EV):EV:=fun ρ m=>(f ρ m).bind g
def eIf(c:TV)(F f:EV):EV:=fun ρ m=>(c ρ m).bind fun b m1=>if b=ae then F ρ m1 else f ρ m1
def zak:AV:=fun _ m=>.ok [] m
def zac(f:EV)(fr:AV):AV:=fun ρ m=>(f ρ m).bind fun x m1=>(fr ρ m1).bind fun xs m2=>.ok (x::xs) m2
def eFn(g:List D->Sto->Res D)(f:AV):EV:=fun ρ m=>(f ρ m).bind g
def asB(d:D)(m:Sto):Res Bool:=match d with
 |.bl b=>.ok b m|_=>.bad
def tV(f:EV):TV:=fun ρ m=>(f ρ m).bind asB
def zgM(a b:TV):TV:=fun ρ m=>(a ρ m).bind fun c m1=>if c=ae then b ρ m1 else .ok ai m1
def tOrM(a b:TV):TV:=fun ρ m=>(a ρ m).bind fun c m1=>if c=ae then .ok ae m1 else b ρ m1
def zhD(a:TV):TV:=fun ρ m=>(a ρ m).bind fun c m1=>.ok (!c) m1
def zm4(a b:EV):EV:=fun ρ m=>(a ρ m).bind fun c m1=>(asB c m1).bind fun c m1=>if c=ae then b ρ m1 else .ok (.bl ai) m1
def eOr(a b:EV):EV:=fun ρ m=>(a ρ m).bind fun c m1=>(asB c m1).bind fun c m1=>if c=ae then .ok (.bl ae) m1 else b ρ m1
def eNot(a:EV):EV:=fun ρ m=>(a ρ m).bind fun c m1=>(asB c m1).bind fun c m1=>.ok (.bl (!c)) m1
def OpD(K:ya)(cl:af->ac)(ex:XD)(r:R2)(g:D->D->Sto->Res D):Prop :=
 ∀(α : List ac)(m:Sto)(H:Hp)(x y:D)(vx vy:V)(Q:VK),Wd K cl α m H->Rep K α H x vx->Rep K α H y vy->PQ K cl ex (g x y m) α H (fun d α' _ H'=>∀v,Rep K α' H' d v->Q v H')->r vx vy H Q
def UnD(K:ya)(cl:af->ac)(ex:XD)(r:V->Hp->VK->Prop)(g:D->Sto->Res D):Prop :=
 ∀(α : List ac)(m:Sto)(H:Hp)(x:D)(vx:V)(Q:VK),Wd K cl α m H->Rep K α H x vx->PQ K cl ex (g x m) α H (fun d α' _ H'=>∀v,Rep K α' H' d v->Q v H')->r vx H Q
def FnD(K:ya)(cl:af->ac)(ex:XD)(r:List V->Hp->VK->Prop)(g:List D->Sto->Res D):Prop :=
 ∀(α : List ac)(m:Sto)(H:Hp)(x:List D)(vx:List V)(Q:VK),Wd K cl α m H->RepL K α H x vx->PQ K cl ex (g x m) α H (fun d α' _ H'=>∀v,Rep K α' H' d v->Q v H')->r vx H Q
variable{r:List V->Hp->VK->Prop}{b c:am}{es:List am}{fa fb:EV}{ta tb:TV}{pos:ax}{x:af}{op:CmpOp}{r':R2}{g':D->D->Sto->Res D}{fc:EV}
section
variable{a e:am}{rest:List am}{fr:AV}
theorem zab(i:Nat)(f:autoParam (X.N[i]?=aa x) AutoP.a3._auto_1)(b:Vis X.env.scope x:=by first | exact y7 rfl | exact Or.inr (y7 rfl) | exact Or.inr (Or.inr rfl))(hd:autoParam ((x==("__debug__" : af))=ai) AutoP.a1._auto_1)(a:autoParam ((x==("__classdict__" : af))=ai) AutoP.a1._auto_1):QE X cl ex (.Name x pos) (zag i) :=
 ⟨PE.weak (pe_var f b hd a) fun σ H Q c=>ex3 c fun α ρ m W hr h=>by
  unfold zag at h;split at h
  ·rename_i d e;obtain⟨v,E,r⟩:=hr.at' i d e;exact⟨v,E,PQ.ok W h v r⟩
  ·exact h.elim⟩
theorem qe_c(h:PE X e (tC v))(r:∀α H,Rep X.K α H d v):QE X cl ex e (eC d) :=
 ⟨PE.weak h fun σ H Q a=>ex3 a fun α ρ m W hr h=>PQ.ok W h v (r α H)⟩
theorem zae{i:Int} {j}:QE X cl ex (.Constant (.int i) j pos) (eC (.int i)):=qe_c pe_int fun α H=>by rw[Rep]
theorem zke{i:Bool} {j}:QE X cl ex (.Constant (.bool i) j pos) (eC (.bl i)):=qe_c pe_bl fun α H=>by rw[Rep]
theorem zb3 {j}:QE X cl ex (.Constant .none j pos) (eC .non):=qe_c pe_non fun α H=>by rw[Rep]
theorem zaA{i:af} {j}:QE X cl ex (.Constant (.str i) j pos) (eC (.str i)):=qe_c zrG fun α H=>by rw[Rep]
theorem zlc{r:R2}{g:D->D->Sto->Res D}(hd:OpD X.K cl ex r g):∀σ H Q,tD X.K cl ex (eOp g fa fb) σ H Q->tOp r (tD X.K cl ex fa) (tD X.K cl ex fb) σ H Q:=fun σ H Q e=>ex3 e fun α ρ m W hr h=>
 tD.use W hr h fun b m1 n d v o w hr1 c i=>tD.use w hr1 i fun a m2 l j V E k hr2 R f=>hd a m2 l d j v V Q k (c.mono w E) R f
theorem zan{o:Operator}{r:R2}{g:D->D->Sto->Res D}(h:OpR X (aL o) r)(hd:OpD X.K cl ex r g)(ha:QE X cl ex a fa)(H:QE X cl ex b fb):QE X cl ex (.BinOp a o b pos) (eOp g fa fb) :=
 ⟨PE.weak (pe_op h ha.out H.out) (zlc hd)⟩
theorem qe_un{o:UnaryOp}{r:V->Hp->VK->Prop}{g:D->Sto->Res D}(c:UnR X (unaryOp o) r)(hd:UnD X.K cl ex r g)(ha:QE X cl ex a fa):QE X cl ex (.UnaryOp o a pos) (eUn g fa) :=
 ⟨PE.weak (pe_un c ha.out) fun σ H Q e=>ex3 e fun α ρ m W hr h=>tD.use W hr h fun b m1 i d v E w hr1 R f=>hd b m1 i d v Q w R f⟩
theorem qe_ix{r:R2}{g:D->D->Sto->Res D}(h:IxR X r)(hd:OpD X.K cl ex r g)(ha:QE X cl ex a fa)(H:QE X cl ex b fb)(hs:zkY b):QE X cl ex (.Subscript a b pos) (eOp g fa fb) :=
 ⟨PE.weak (pe_ix h ha.out H.out hs) (zlc hd)⟩
theorem zct{r:R2}{g:D->D->Sto->Res D}(h:OpR X (aB op) r)(hd:OpD X.K cl ex r g)(ha:QE X cl ex a fa)(H:QE X cl ex b fb)(hm:bN op b=ai):QE X cl ex (.Compare a [op] [b] pos) (eOp g fa fb) :=
 ⟨PE.weak (zs2 h ha.out H.out hm) (zlc hd)⟩
theorem zla(h:∀σ H Q,tD X.K cl ex fa σ H Q->t σ H Q):∀σ H Q,tDT X.K cl ex (tV fa) σ H Q->tTest t σ H Q:=fun σ H Q e=>ex3 e fun α ρ m W hr q=>
 h σ H _ (tD.use W hr q fun c m1 f d v E w hr1 r a=>by
  cases d with
  |bl b=>rw[Rep]at r;exact⟨b,r,PQ.ok w a⟩|_=>exact a.elim)
theorem zaD{r:R2}{g:D->D->Sto->Res D}(h:OpR X (aB op) r)(hd:OpD X.K cl ex r g)(ha:QE X cl ex a fa)(H:QE X cl ex b fb)(hm:bN op b=ai):QT X cl ex (.Compare a [op] [b] pos) (tV (eOp g fa fb)) :=
 ⟨PT.weak (zsL h ha.out H.out hm) (zla (zlc hd))⟩
theorem zdr(H:QE X cl ex e fa)(a:autoParam (∀whole,isTrue e X.env whole=(do let v <- whole;bv e.pos;holding [v] (truthy v))) AutoP.a2._auto_1):QT X cl ex e (tV fa) :=
 ⟨PT.weak (pt_val H.out a) (zla fun _ _ _ h=>h)⟩
def zjB(g g':D->D->Sto->Res D)(a F f:EV):EV:=fun ρ m=>(a ρ m).bind fun x m1=>(F ρ m1).bind fun y m2=>(g x y m2).bind fun z m3=>(asB z m3).bind fun k m3=>if k=ae then (f ρ m3).bind fun w M=>g' y w M else .ok (.bl ai) m3
theorem OpD.go{r:R2}{g:D->D->Sto->Res D}(hd:OpD K cl ex r g){x y:D}{c b:V}{k:D->Sto->Res τ}(W:Wd K cl α m H)(f:Rep K α H x c)(e:Rep K α H y b)(h:PQ K cl ex ((g x y m).bind k) α H R)(j:∀a m1 H1 d v,Ext α H a H1->Wd K cl a m1 H1->Rep K a H1 d v->PQ K cl ex (k d m1) a H1 R->Q v H1):r c b H Q :=
 hd α m H x y c b Q W f e (PQ.mono (Ext.refl W) h.bind fun d a m1 H1 E w q v i=>j a m1 H1 d v E w i q)
theorem znl{r:R2}{g:D->D->Sto->Res D}(hd:OpD X.K cl ex r g)(e:OpD X.K cl ex r' g'):∀σ H Q,tD X.K cl ex (zjB g g' fa fb fc) σ H Q->zrx r r' (tD X.K cl ex fa) (tD X.K cl ex fb) (tD X.K cl ex fc) σ H Q:=fun σ H Q s=>ex3 s fun α ρ m W hr h=>
 tD.use W hr h fun o m1 L d v N j hr1 q x=>tD.use j hr1 x fun n m2 K A p G i hr2 a u=>hd.go i (q.mono j G) a u fun l m3 J z I E w R f=>by
  cases z with
  |bl k=>
   rw[Rep]at R;refine⟨k,R,?_⟩;cases k with
   |true=>exact tD.use w (hr2.mono i E) f fun b M C y V F B hr4 c t=>e b M C A y p V Q B ((a.mono i E).mono w F) c t|false=>exact PQ.ok w f _ (by rw[Rep])
  |_=>exact f.elim
theorem zli{o:CmpOp}{r:R2}{g:D->D->Sto->Res D}(d:OpR X (aB op) r)(hd:OpD X.K cl ex r g)(h:OpR X (aB o) r')(H:OpD X.K cl ex r' g')(ha:QE X cl ex a fa)(f:QE X cl ex b fb)(e:QE X cl ex c fc)(hm:autoParam (lastMarks [op,o] [b,c]=ai) AutoP.a4._auto_1):QE X cl ex (.Compare a [op,o] [b,c] pos) (zjB g g' fa fb fc) :=
 ⟨PE.weak (zqH d h ha.out f.out e.out hm) (znl hd H)⟩
theorem ze1(ha:QT X cl ex a ta):QW X cl ex (.BoolOp .And [a] pos) ta:=⟨zsK ha.out⟩
theorem zrC(ha:QT X cl ex a ta):QW X cl ex (.BoolOp .Or [a] pos) ta:=⟨pw_or1 ha.out⟩
theorem zg5(ha:QT X cl ex a ta)(g:QW X cl ex (.BoolOp .And (b::rest) pos) tb):QW X cl ex (.BoolOp .And (a::b::rest) pos) (zgM ta tb) :=
 ⟨PW.weak (pw_and ha.out g.out) fun σ H Q f=>ex3 f fun α ρ m W hr h=>tDT.use W hr h fun c m1 i d E w hr1 e=>by
  cases d with
  |true=>exact⟨c,ρ,m1,w,hr1,e⟩|false=>exact PQ.ok w e⟩
theorem zsy(ha:QT X cl ex a ta)(g:QW X cl ex (.BoolOp .Or (b::rest) pos) tb):QW X cl ex (.BoolOp .Or (a::b::rest) pos) (tOrM ta tb) :=
 ⟨PW.weak (pw_or ha.out g.out) fun σ H Q f=>ex3 f fun α ρ m W hr h=>tDT.use W hr h fun c m1 i d E w hr1 e=>by
  cases d with
  |false=>exact⟨c,ρ,m1,w,hr1,e⟩|true=>exact PQ.ok w e⟩
theorem zds(h:QW X cl ex a ta):QT X cl ex a ta:=⟨PW.pt h.out⟩
theorem zg6(ha:QT X cl ex a ta):QT X cl ex (.UnaryOp .Not a pos) (zhD ta) :=
 ⟨PT.weak (pt_not ha.out) fun σ H Q c=>ex3 c fun α ρ m W hr h=>tDT.use W hr h fun b m1 f d E w hr1 e=>PQ.ok w e⟩
theorem zfh {op} (ha:QE X cl ex a fa):QE X cl ex (.BoolOp op [a] pos) fa:=⟨pe_one ha.out⟩
theorem asB.use{k:Bool->Sto->Res τ}(W:Wd X.K cl α m H)(r:Rep X.K α H d v)(h:PQ X.K cl ex ((asB d m).bind k) α H R):∃b,v = .bl b/\PQ X.K cl ex (k b m) α H R:=by
 cases d with
 |bl b=>rw[Rep]at r;exact⟨b,r,h⟩|_=>exact h.elim
theorem zep(ha:QE X cl ex a fa)(j:QE X cl ex (.BoolOp .And (b::rest) pos) fb):QE X cl ex (.BoolOp .And (a::b::rest) pos) (zm4 fa fb) :=
 ⟨PE.weak (pe_and ha.out j.out) fun σ H Q i=>ex3 i fun α ρ m W hr h=>tD.use W hr h fun f m1 l d v E w hr1 r k=>by
  obtain⟨c,e,g⟩:=asB.use w r k;refine⟨c,e,?_⟩;cases c with
  |true=>exact⟨f,ρ,m1,w,hr1,g⟩|false=>exact PQ.ok w g _ (by rw[Rep])⟩
theorem zrE(ha:QE X cl ex a fa):QE X cl ex (.UnaryOp .Not a pos) (eNot fa) :=
 ⟨PE.weak (pe_not ha.out) fun σ H Q f=>ex3 f fun α ρ m W hr h=>tD.use W hr h fun b m1 j d v E w hr1 r i=>by
  obtain⟨c,e,g⟩:=asB.use w r i;exact⟨c,e,PQ.ok w g _ (by rw[Rep])⟩⟩
theorem zqt(i:QT X cl ex c ta)(ha:QE X cl ex a fa)(j:QE X cl ex b fb):QE X cl ex (.IfExp c a b pos) (eIf ta fa fb) :=
 ⟨PE.weak (zqG i.out ha.out j.out) fun σ H Q g=>ex3 g fun α ρ m W hr h=>tDT.use W hr h fun e m1 k d E w hr1 f=>by
  cases d with
  |true=>exact⟨e,ρ,m1,w,hr1,f⟩|false=>exact⟨e,ρ,m1,w,hr1,f⟩⟩
theorem zad:QA X cl ex [] zak:=⟨PA.weak zda fun σ H Q a=>ex3 a fun α ρ m W hr h=>PQ.ok W h _ (by rw[RepL])⟩
theorem zaa(ha:QE X cl ex e fa)(a:QA X cl ex es fr)(hs:autoParam (ap (e::es) X.env=(ai,eval e X.env)::ap es X.env) AutoP.a3._auto_1):QA X cl ex (e::es) (zac fa fr) :=
 ⟨PA.weak (za2 ha.out a.out hs) fun σ H Q f=>ex3 f fun α ρ m W hr h=>tD.use W hr h fun c m1 l d v n w hr1 R i=>tDA.use w hr1 i fun b m2 k D V E j hr2 r g=>PQ.ok j g _ (by rw[RepL];exact⟨v,V,rfl,R.mono w E,r⟩)⟩
theorem RepL.length{K:ya}{α : List ac}{H:Hp}:∀{ds:List D}{vs:List V},RepL K α H ds vs->ds.length=vs.length
 |[],_,h=>by rw[RepL]at h;rw[h];rfl|_::_,_,h=>by
  rw[RepL]at h;obtain⟨v,r,rfl,_,h2⟩:=h;rw[yx,yx,RepL.length h2]
def zcb:List D->Sto->Res D:=fun ds m=>if ds.length<=sizeLine then .ok (.tup ds) m else .bad
def zc6:List D->Sto->Res D:=fun ds m=>if ds.length<=sizeLine then .ok (.lst ds) m else .bad
def zdg:List D->Sto->Res D:=fun ds m=>if ds.length<=sizeLine then .ok (.ob m.length) (m++[.lst ds]) else .bad
theorem PQ.if{c:Prop}[Decidable c]{r:Res τ}(h:PQ K cl ex (if c then r else .bad) α H R):c/\PQ K cl ex r α H R:=by
 by_cases a:c
 ·rw[if_pos a]at h;exact⟨a,h⟩
 ·rw[if_neg a]at h;exact h.elim
theorem Same.new{o:HO}(h:H p=none):Same H (upd H p o):=fun b u e=>by rw[zax (zar e h)];exact e
theorem zaR {x1} (b:QA X cl ex es fr):QE X cl ex (.Tuple es x1 pos) (eFn zcb fr) :=
 ⟨PE.weak (zrF b.out) fun σ H Q e=>ex3 e fun α ρ m W hr h=>tDA.use W hr h fun a m1 i d v E w hr1 r g=>by
  obtain⟨hl,f⟩:=g.if;refine⟨by rw[<- r.length];exact hl,fun p c=>?_⟩;have s:=Same.new (o := .tup v) c;exact PQ.okS w s f _ (by rw[Rep];exact⟨p,v,rfl,.inl zaF,r.mono w (Ext.of_same w s)⟩)⟩
theorem Wd.nin(W:Wd K cl α m H)(h:H p=none):p∉α := fun z=>W.has z h
theorem zc2(W:Wd K cl α m H)(h:H p=none)(r:RepL K α H ds vs):Rep K α (upd H p (.lst vs)) (.lst ds) (.ref p):=by
 rw[Rep];exact⟨p,vs,rfl,W.nin h,.inl zaF,r.mono W (Ext.of_same W (Same.new h))⟩
theorem zbe(c:QA X cl ex es fr):QE X cl ex (.List es pos) (eFn zc6 fr) :=
 ⟨PE.weak (zrH c.out) fun σ H Q e=>ex3 e fun α ρ m W hr h=>tDA.use W hr h fun b m1 i d v E w hr1 r g=>by
  obtain⟨hl,f⟩:=g.if;exact⟨by rw[<- r.length];exact hl,fun p a=>PQ.okS w (Same.new a) f _ (zc2 w a r)⟩⟩
theorem zte{R:RD D}(W:Wd K cl α m H)(c:H p=none)(r:RepL K α H ds vs)(h:PQ K cl ex (.ok (.ob m.length) (m++[.lst ds])) α H R):∃α' m',R (.ob m.length) α' m' (upd H p (.lst vs))/\Rep K α' (upd H p (.lst vs)) (.ob m.length) (.ref p):=by
 have E0:Ext α H (α ++ [p]) (upd H p (.lst vs)):=⟨⟨[p],rfl,fun b d=>by rw[yS.mp d];exact c⟩,fun a o h _=>Same.new c a o h,(Ext.of_same W (Same.new c)).there,fun a o u h=>Same.new c a _ h⟩;obtain⟨w,E⟩:=W.new (u := .lst vs) (o := .lst ds) c ⟨vs,zaF,r.mono W E0⟩;refine⟨_,_,h _ _ E w,?_⟩;rw[Rep];refine⟨p,?_,rfl⟩;rw[<- W.len,yaF (yb _)];simp
theorem zbR(b:QA X cl ex es fr):QE X cl ex (.List es pos) (eFn zdg fr) :=
 ⟨PE.weak (zrH b.out) fun σ H Q e=>ex3 e fun α ρ m W hr h=>tDA.use W hr h fun a m1 i d v E w hr1 R g=>by
  obtain⟨hl,f⟩:=g.if;refine⟨by rw[<- R.length];exact hl,fun p c=>?_⟩;obtain⟨_,_,q,r⟩:=zte w c R f;exact q _ r⟩
theorem zry{g:List D->Sto->Res D}(hd:FnD X.K cl ex r g):∀σ H Q,tD X.K cl ex (eFn g fr) σ H Q->tCB r (tDA X.K cl ex fr) σ H Q:=fun σ H Q b=>ex3 b fun α ρ m W hr h=>
 tDA.use W hr h fun a m1 e d v E w hr1 R c=>hd a m1 e d v Q w R c
theorem zau{id:String}{p:ax}{g:List D->Sto->Res D}(d:CallR X (.builtin id) r)(hd:FnD X.K cl ex r g)(b:Gl X x)(hm:X.mg x=none)(a:aT x=aa (.builtin id))(ha:QA X cl ex (e::es) fr)(hn:autoParam (x ≠ "__name__") AutoP.a1._auto_1)(H:autoParam ((x==("__debug__" : af))=ai) AutoP.a1._auto_1)(c:autoParam (ap (e::es) X.env=(ai,eval e X.env)::ap es X.env) AutoP.a3._auto_1)(h:autoParam ((aC pos (ap es X.env)).any (·.1)=ai) AutoP.a3._auto_1):QE X cl ex (.Call (.Name x p) (e::es) [] pos) (eFn g fr) :=
 ⟨PE.weak (zeq d b hm a ha.out hn H c h) (zry hd)⟩
theorem zaI{T:String}{p:ax}{g:List D->Sto->Res D}(d:CallR X (.type T) r)(hd:FnD X.K cl ex r g)(b:Gl X x)(hm:X.mg x=none)(a:aT x=aa (.type T))(ha:QA X cl ex (e::es) fr)(hn:autoParam (x ≠ "__name__") AutoP.a1._auto_1)(H:autoParam ((x==("__debug__" : af))=ai) AutoP.a1._auto_1)(c:autoParam (ap (e::es) X.env=(ai,eval e X.env)::ap es X.env) AutoP.a3._auto_1)(h:autoParam ((aC pos (ap es X.env)).any (·.1)=ai) AutoP.a3._auto_1):QE X cl ex (.Call (.Name x p) (e::es) [] pos) (eFn g fr) :=
 ⟨PE.weak (ziN d b hm a ha.out hn H c h) (zry hd)⟩
end
inductive Fl where
 |nx (ρ : En) | rt (d:D) | bk (ρ : En) | ct (ρ : En)
abbrev SV:=En->Sto->Res Fl
def zdK(K:ya)(D:Ends)(f:Fl)(α : List ac)(H:Hp):Prop:=match f with
 |.nx ρ=> ∀σ,RepE K α H ρ σ -> D.nx σ H|.rt d=>∀v,Rep K α H d v->D.rt v H|.bk ρ=> ∀σ,RepE K α H ρ σ -> D.bk σ H|.ct ρ=> ∀σ,RepE K α H ρ σ -> D.ct σ H
def tDS(K:ya)(cl:af->ac)(ex:XD)(f:SV):TS:=fun D σ H=>∃α ρ m,Wd K cl α m H/\RepE K α H ρ σ /\ PQ K cl ex (f ρ m) α H fun F α' _ H'=>zdK K D F α' H'
abbrev GV:=D->En->Sto->Res En
def tDG(K:ya)(cl:af->ac)(ex:XD)(f:GV):TG:=fun v σ H Q=>∃α ρ m d,Wd K cl α m H/\RepE K α H ρ σ /\ Rep K α H d v/\PQ K cl ex (f d ρ m) α H fun ρ' α' _ H'=>∀σ',RepE K α' H' ρ' σ'->Q σ' H'
def tDGs(K:ya)(cl:af->ac)(ex:XD)(f:List D->En->Sto->Res En):TGs:=fun v σ H Q=>∃α ρ m d,Wd K cl α m H/\RepE K α H ρ σ /\ RepL K α H d v/\PQ K cl ex (f d ρ m) α H fun ρ' α' _ H'=>∀σ',RepE K α' H' ρ' σ'->Q σ' H'
def ItD(K:ya)(cl:af->ac)(α : List ac)(H:Hp)(J:It)(ds:List D):Prop :=
 ∀(i:Nat)(a:List ac)(m1:Sto)(H1:Hp),Ext α H a H1->Wd K cl a m1 H1->(∀d,ds[i]?=aa d->J.go i H1/\∀x H2,J.yld i H1 x H2->Same H1 H2/\Rep K a H2 d x)/\(i=ds.length->J.stop i H1)
def tDI(K:ya)(cl:af->ac)(ex:XD)(f:AV):TI:=fun σ H R=>∃α ρ m,Wd K cl α m H/\RepE K α H ρ σ /\ PQ K cl ex (f ρ m) α H fun ds α' _ H'=>∀J,ItD K cl α' H' J ds->R J H'
section
variable(X:Cx)(cl:af->ac)(ex:XD)
structure QS(st:aq)(f:SV):Prop where
 out:PS X st (tDS X.K cl ex f)
structure QSs(st:List aq)(f:SV):Prop where
 out:PSs X st (tDS X.K cl ex f)
structure QG(tg:am)(f:GV):Prop where
 out:PG X tg (tDG X.K cl ex f)
structure QGs(tg:List am)(f:List D->En->Sto->Res En):Prop where
 out:PGs X tg (tDGs X.K cl ex f)
structure QI(tg it:am)(f:AV):Prop where
 out:PI X tg it (tDI X.K cl ex f)
end
theorem PG.weak{e:am}{t t':TG}(h:PG X e t)(w:∀v σ H Q,t' v σ H Q->t v σ H Q):PG X e t':=fun pins s σ H v u Q I r q=>h pins s σ H v u Q I r (w v σ H Q q)
theorem PGs.weak{e:List am}{t t':TGs}(h:PGs X e t)(w:∀v σ H Q,t' v σ H Q->t v σ H Q):PGs X e t':=fun pins s σ H v u Q I r q=>h pins s σ H v u Q I r (w v σ H Q q)
variable{tg:am}
theorem PI.weak{e:am}{t t':TI}(h:PI X tg e t)(w:∀σ H Q,t' σ H Q->t σ H Q):PI X tg e t':=fun pins s σ H Q I q=>h pins s σ H Q I (w σ H Q q)
def zat(f g:SV):SV:=fun ρ m=>(f ρ m).bind fun fl m1=>match fl with
 |.nx a=>g a m1|fl=>.ok fl m1
def zbG:SV:=fun ρ m=>.ok (.nx ρ) m
def sBad:SV:=fun _ _=>.bad
def zaJ(f:EV):SV:=fun ρ m=>(f ρ m).bind fun d m1=>.ok (.rt d) m1
def sRetN:SV:=fun _ m=>.ok (.rt .non) m
def zcg(f:EV):SV:=fun ρ m=>(f ρ m).bind fun _ m1=>.ok (.nx ρ) m1
def sIf(c:TV)(f g:SV):SV:=fun ρ m=>(c ρ m).bind fun b m1=>if b=ae then f ρ m1 else g ρ m1
def zaC(f:EV)(g:GV):SV:=fun ρ m=>(f ρ m).bind fun d m1=>(g d ρ m1).bind fun a m2=>.ok (.nx a) m2
def gN(i:Nat):GV:=fun d ρ m=>.ok (ρ.set i (aa d)) m
def zbn:List D->En->Sto->Res En:=fun ds ρ m=>match ds with
 |[]=>.ok ρ m|_::_=>.bad
def zas(g:GV)(G:List D->En->Sto->Res En):List D->En->Sto->Res En:=fun ds ρ m=>match ds with
 |[]=>.bad|d::r=>(g d ρ m).bind fun a m1=>G r a m1
def gT(n:Nat)(g:List D->En->Sto->Res En):GV:=fun d ρ m=>match d with
 |.tup ds=>if ds.length=n then g ds ρ m else .bad|_=>.bad
def sPar(i j:Nat)(f:AV):SV:=fun ρ m=>(f ρ m).bind fun ds m1=>match ds with
 |[x,y]=>.ok (.nx ((ρ.set i (aa x)).set j (aa y))) m1|_=>.bad
def sPar3(i j k:Nat)(f:AV):SV:=fun ρ m=>(f ρ m).bind fun ds m1=>match ds with
 |[x,y,z]=>.ok (.nx (((ρ.set i (aa x)).set j (aa y)).set k (aa z))) m1|_=>.bad
def zet(g:GV)(b:SV):List D->En->Sto->Res Fl
 |[],ρ,m=>.ok (.nx ρ) m|d::r,ρ,m=>(g d ρ m).bind fun c m1=>(b c m1).bind fun f m2=>match f with
  |.nx a=>zet g b r a m2|.ct a=>zet g b r a m2|.bk a=>.ok (.nx a) m2|.rt d=>.ok (.rt d) m2
def zfx(it:AV)(g:GV)(b:SV):SV:=fun ρ m=>(it ρ m).bind fun ds m1=>zet g b ds ρ m1
def zgV(c:TV)(B:SV):Nat->En->Sto->Res Fl
 |0,_,_=>.bad|n+1,ρ,m=>(c ρ m).bind fun b m1=>if b=ae then (B ρ m1).bind fun f m2=>match f with
  |.nx a=>zgV c B n a m2|.ct a=>zgV c B n a m2|.bk a=>.ok (.nx a) m2|.rt d=>.ok (.rt d) m2 else .ok (.nx ρ) m1
def zlf(n:Nat)(c:TV)(b:SV):SV:=fun ρ m=>zgV c b n ρ m
def zej(g:GV)(c:TV)(el:EV)(ρ : En):List D->Sto->Res (List D)
 |[],m=>.ok [] m|d::r,m=>(g d ρ m).bind fun a m1=>(c a m1).bind fun b m2=>if b=ae then (el a m2).bind fun x m3=>(zej g c el ρ r m3).bind fun xs M=>.ok (x::xs) M else zej g c el ρ r m2
def zbM(n:Nat)(it:AV)(g:GV)(c:TV)(el:EV):AV:=fun ρ m=>(it ρ m).bind fun ds m1=>if ds.length<=1000000 then zej g c el (ρ ++ yp n none) ds m1 else .bad
def za7:TV:=fun _ m=>.ok ae m
variable{gs:List D->En->Sto->Res En}{n:Nat}
section
variable{a e it:am}{fr:AV}{st:aq}{sts sts':List aq}{f g:SV}{gt:GV}
theorem zaz:QSs X cl ex [] zbG:=⟨PSs.weak zsN fun D σ H a=>ex3 a fun α ρ m W hr h=>PQ.ok W h σ hr⟩
theorem zah(h:QS X cl ex st f):QSs X cl ex [st] f:=⟨zsM h.out⟩
theorem zaf(j:QS X cl ex st f)(i:QSs X cl ex sts g):QSs X cl ex (st::sts) (zat f g) :=
 ⟨PSs.weak (zqw j.out i.out) fun D σ H e=>ex3 e fun α ρ m W hr h=>⟨α,ρ,m,W,hr,PQ.mono (Ext.refl W) h.bind fun F b m1 k E w q=>by
  cases F with
  |nx a=>exact fun c hr1=>⟨b,a,m1,w,hr1,q⟩|rt d=>exact PQ.ok w q|bk a=>exact PQ.ok w q|ct a=>exact PQ.ok w q⟩⟩
theorem zap(c:QE X cl ex e fa):QS X cl ex (.Return (aa e) pos) (zaJ fa) :=
 ⟨PS.weak (ps_ret c.out) fun D σ H b=>ex3 b fun α ρ m W hr h=>tD.use W hr h fun a m1 g d v E w hr1 r f=>PQ.ok w f v r⟩
theorem zci(c:QE X cl ex e fa)(hs:autoParam (aQ e none pos.line X.env=pure ai) AutoP.a3._auto_1):QS X cl ex (.Expr e pos) (zcg fa) :=
 ⟨PS.weak (zsP c.out hs) fun D σ H b=>ex3 b fun α ρ m W hr h=>tD.use W hr h fun a m1 g d v E w hr1 r f=>PQ.ok w f _ hr1⟩
theorem zaV(i:QT X cl ex c ta)(ha:QSs X cl ex sts f)(j:QSs X cl ex sts' g):QS X cl ex (.If c sts sts' pos) (sIf ta f g) :=
 ⟨PS.weak (ps_if i.out ha.out j.out) fun D σ H e=>ex3 e fun α ρ m W hr h=>tDT.use W hr h fun a m1 k d E w hr1 b=>by
  cases d with
  |true=>exact⟨a,ρ,m1,w,hr1,b⟩|false=>exact⟨a,ρ,m1,w,hr1,b⟩⟩
theorem zal(c:X.N.Nodup)(hi:X.N[i]?=aa x)(a:Loc X.env.scope x)(b:autoParam (X.fn x=ae∨X.env.scope.names.lookup x=aa .local) AutoP.a0._auto_1):QG X cl ex (.Name x pos) (gN i) :=
 ⟨PG.weak (zn1 c hi a b) fun v σ H Q ⟨α,ρ,m,d,W,hr,r,h⟩=>PQ.ok W h _ (hr.set r)⟩
theorem zaK:QGs X cl ex [] zbn:=⟨PGs.weak zsY fun v σ H Q ⟨α,ρ,m,d,W,hr,R,h⟩=>by
 cases d with
 |nil=>rw[RepL]at R;exact⟨R,PQ.ok W h _ hr⟩|cons d r=>exact h.elim⟩
theorem zao(k:QG X cl ex e gt)(j:QGs X cl ex es gs)(hs:autoParam ((aW (e::es) X.env).map (·.2)=aV e X.env::(aW es X.env).map (·.2)) AutoP.a3._auto_1):QGs X cl ex (e::es) (zas gt gs) :=
 ⟨PGs.weak (zqD k.out j.out hs) fun v σ H Q ⟨α,ρ,m,d,W,hr,R,h⟩=>by
  cases d with
  |nil=>exact h.elim|cons d r=>
   rw[RepL]at R;obtain⟨f,V,rfl,i,g⟩:=R;refine⟨f,V,rfl,α,ρ,m,d,W,hr,i,PQ.mono (Ext.refl W) (show PQ X.K cl ex ((gt d ρ m).bind fun a m1=>gs r a m1) α H _ from h).bind fun a b m1 l E w q c hr1=>?_⟩;exact⟨b,a,m1,r,w,hr1,g.mono W E,q⟩⟩
theorem za1{k:Nat}(g:X.calm=ae)(f:QGs X cl ex es gs)(hn:autoParam ((aW es X.env).length=n) AutoP.a3._auto_1)(b:autoParam ((aW es X.env).findIdx? (·.1)=none) AutoP.a3._auto_1):QG X cl ex (.Tuple es k pos) (gT n gs) :=
 ⟨PG.weak (pg_tup g f.out hn b) fun v σ H Q ⟨α,ρ,m,d,W,hr,r,h⟩=>by
  cases d with
  |tup ds=>
   rw[Rep]at r;obtain⟨a,xs,e,j,c⟩:=r;obtain⟨hl,i⟩:=PQ.if h;exact⟨a,xs,e,j.sq,by rw[<- c.length];exact hl,α,ρ,m,ds,W,hr,c,i⟩
  |_=>exact h.elim⟩
theorem znm{u:TG}(i:∀σ H Q,tD X.K cl ex fa σ H Q->t σ H Q)(g:∀v σ H Q,tDG X.K cl ex gt v σ H Q->u v σ H Q):∀D σ H,tDS X.K cl ex (zaC fa gt) D σ H->tAsg t u D σ H:=fun D σ H f=>ex3 f fun α ρ m W hr h=>
 i σ H _ (tD.use W hr h fun a m1 k d v n w hr1 r q=>g v σ k _ ⟨a,ρ,m1,d,w,hr1,r,PQ.mono (Ext.refl w) q.bind fun b c m2 l E j e=>PQ.ok j e⟩)
theorem zam{p:ax}(f:X.N.Nodup)(hi:X.N[i]?=aa x)(a:Loc X.env.scope x)(c:QE X cl ex e fa)(hs:autoParam (aQ e (aa (.Name x p)) pos.line X.env=pure ai) AutoP.a3._auto_1)(b:autoParam (X.fn x=ae∨X.env.scope.names.lookup x=aa .local) AutoP.a0._auto_1) : QS X cl ex (.Assign [.Name x p] e pos) (zaC fa (gN i)) :=
 ⟨PS.weak (ps_set f hi a c.out hs b) (znm (fun _ _ _ h=>h) fun v σ H Q ⟨α,ρ,m,d,W,hr,r,h⟩=>PQ.ok W h _ (hr.set r))⟩
theorem zdW(b:QE X cl ex e fa)(a:QG X cl ex tg gt)(hs:autoParam (ce [tg] e pos.line X.env=pure ai) AutoP.a3._auto_1)(H:autoParam (cf [tg] e X.env=pure none) AutoP.a3._auto_1)(c:autoParam ((aW [tg] X.env).map (·.2)=[aV tg X.env]) AutoP.a3._auto_1):QS X cl ex (.Assign [tg] e pos) (zaC fa gt) :=
 ⟨PS.weak (ps_asg b.out a.out hs H c) (znm (fun _ _ _ h=>h) fun _ _ _ _ h=>h)⟩
theorem qs_par{j:Nat}{y:af}{P py pt:ax} {kt k2 pt2} (t:X.calm=ae) (u:X.N.Nodup) (hi:X.N[i]?=aa x) (o:X.N[j]?=aa y) (e:i≠j) (l:X.env.scope.names.lookup x=aa .local) (k:X.env.scope.names.lookup y=aa .local) (ha:QA X cl ex [a,b] fr) (n:cf [.Tuple [.Name x P,.Name y py] kt pt] (.Tuple [a,b] k2 pt2) X.env=pure (aa [x,y])) (hs:autoParam (ce [.Tuple [.Name x P,.Name y py] kt pt] (.Tuple [a,b] k2 pt2) pos.line X.env=pure ai) AutoP.a3._auto_1) : QS X cl ex (.Assign [.Tuple [.Name x P,.Name y py] kt pt] (.Tuple [a,b] k2 pt2) pos) (sPar i j fr) :=
 ⟨PS.weak (ps_par t u hi o e l k ha.out n hs) fun D σ H s=>ex3 s fun α ρ m W hr h=>tDA.use W hr h fun f m1 A d v E w hr1 r c=>by
  match d,r,c with
  |[p,q],r,c=>
   rw[RepL]at r;obtain⟨g,z,rfl,a1,r⟩:=r;rw[RepL]at r;obtain⟨V,R,rfl,a2,r⟩:=r;rw[RepL]at r;subst r;exact⟨g,V,rfl,PQ.ok w c _ ((hr1.set a1).set a2)⟩
  |[],_,c=>exact c.elim|[_],_,c=>exact c.elim|_::_::_::_,_,c=>exact c.elim⟩
theorem zbt(Y:PassesOwn (ao X.prog X.w) X.A X.env X.xe)(hc:X.calm=ae)(hi:QI X cl ex tg it fr)(hg:QG X cl ex tg gt)(hb:QSs X cl ex sts f)(hs:autoParam (∀x,bb it X.env x=pure x) AutoP.a2._auto_1):QS X cl ex (.For tg it sts [] pos) (zfx fr gt f) :=
 ⟨PS.weak (ps_for Y hc hi.out hg.out hb.out hs) fun D σ H Z=>ex3 Z fun α ρ m W hr h=>⟨α,ρ,m,W,hr,PQ.mono (Ext.refl W) h.bind fun ds l m1 L E1 K q J hJ=>by
  refine⟨fun i n k r=>n=ds.length-i/\i<=ds.length/\∃a m2 j,Ext l L a r/\Wd X.K cl a m2 r/\RepE X.K a r j k/\PQ X.K cl ex (zet gt f (ds.drop i) j m2) a r fun F α' _ H'=>zdK X.K D F α' H',
   ⟨ds.length,by simp,yat _,l,m1,ρ,Ext.refl K,K,hr.mono W E1,q⟩,?_⟩
  rintro i n k r ⟨rfl,hi,a,m2,j,O,w,hr2,u⟩;obtain⟨go,stop⟩:=hJ i a m2 r O w;by_cases o:i<ds.length
  ·have hd:ds[i]?=aa ds[i]:=by simp[o]
   obtain⟨g1,g2⟩:=go _ hd;rw[yc3 o,zet]at u;refine .inr ⟨g1,fun s p=>∃b m3 g,Ext l L b p/\Wd X.K cl b m3 p/\RepE X.K b p g s/\PQ X.K cl ex (zet gt f (ds.drop (i+1)) g m3) b p fun F α' _ H'=>zdK X.K D F α' H',
    fun s p ⟨b,m3,g,E3,C,hr3,U⟩=>⟨ds.length-(i+1),by omega,rfl,o,b,m3,g,E3,C,hr3,U⟩,fun x p y=>?_⟩
   obtain⟨S,R⟩:=g2 x p y;have G:=Ext.of_same w S;have C:=w.same S;refine⟨a,j,m2,ds[i],C,hr2.mono w G,R,PQ.mono G u.bind fun A B V H4 E4 I T P hr4=>?_⟩;have E:=O.trans (G.trans E4);refine⟨B,A,V,I,hr4,PQ.mono (Ext.refl I) T.bind fun F t M H5 N v Q=>?_⟩;cases F with
   |nx c=>exact fun z hr5=>⟨t,M,c,E.trans N,v,hr5,Q⟩|ct c=>exact fun z hr5=>⟨t,M,c,E.trans N,v,hr5,Q⟩|bk c=>exact PQ.ok v Q|rt d=>exact PQ.ok v Q
  ·have e:i=ds.length:=by omega
   subst e;rw[yc4 (yb _),zet]at u;exact .inl ⟨stop rfl,PQ.ok w u k hr2⟩⟩⟩
theorem zqs(x:PassesOwn (ao X.prog X.w) X.A X.env X.xe)(z:QT X cl ex c ta)(A:QSs X cl ex sts f):QS X cl ex (.While c sts [] pos) (zlf n ta f) :=
 ⟨PS.weak (zqx x z.out A.out) fun D σ H y=>ex3 y fun α ρ m W hr h=>by
  refine⟨fun k i p=>∃g m2 e,Wd X.K cl g m2 p/\RepE X.K g p e i/\PQ X.K cl ex (zgV ta f k e m2) g p fun F α' _ H'=>zdK X.K D F α' H',⟨n,α,m,ρ,W,hr,h⟩,?_⟩;rintro k i p ⟨g,m2,e,B,hr2,Q⟩;cases k with
  |zero=>exact Q.elim|succ k=>
   rw[zgV]at Q;refine tDT.use B hr2 Q fun s m3 E b I t hr3 u=>?_;cases b with
   |false=>exact PQ.ok t u i hr3|true=>
    refine⟨fun j o=>∃α4 m4 ρ4,Wd X.K cl α4 m4 o/\RepE X.K α4 o ρ4 j/\PQ X.K cl ex (zgV ta f k ρ4 m4) α4 o fun F α' _ H'=>zdK X.K D F α' H',fun j o v=>⟨k,yaX _,v⟩,?_⟩;refine⟨s,e,m3,t,hr3,PQ.mono (Ext.refl t) u.bind fun F l M C G w q=>?_⟩;cases F with
    |nx a=>exact fun r hr5=>⟨l,M,a,w,hr5,q⟩|ct a=>exact fun r hr5=>⟨l,M,a,w,hr5,q⟩|bk a=>exact PQ.ok w q|rt d=>exact PQ.ok w q⟩
end
end MD
namespace L2
open PySem PySem.Spec PyProof.Rows
abbrev CQ:=ya->Hp->ac->List V->Prop
structure SeqKd(c:CQ)(IsS:au->ac->Array ag->Prop)(IsI:au->ac->ac->Nat->Prop):Prop where
 obj:∀h it l i,IsI h it l i->∃o,h.get? it=aa o/\∀v,o.data ≠ .cell v
 kp:∀(h h':au) it l i,IsI h it l i->(∀o,h.get? it=aa o->h'.get? it=aa o)->IsI h' it l i
 seq:∀(X:Cx)(pins:List (ac×av))(σ : St)(H:Hp)(s:ak)(l:ac)(xs:List V),Inv X pins σ H s->c X.K H l xs->∃its:List ag,Vals xs its/\IsS s.heap l its.toArray
 dr:∀(P:ar)(w:al)(A:az),A.handled=none->∀(it l:ac),l≠it->∀items:Array ag,Draws P w A it [it,l] items.size (fun i v=>items[i]?=aa v) (fun i h=>IsI h it l i/\IsS h l items)
 ne:∀(X:Cx)(pins:List (ac×av))(σ : St)(H:Hp)(s:ak)(l:ac)(xs:List V)(b:ac),Inv X pins σ H s->c X.K H l xs->zem X pins H b->l≠b
 inj:∀(X:Cx)(pins:List (ac×av))(σ : St)(H:Hp)(s:ak)(l:ac)(xs ys:List V),Inv X pins σ H s->c X.K H l xs->c X.K H l ys->xs=ys
variable{X:Cx}{pins:List (ac×av)}{σ : St}{H:Hp}{s:ak}{l b:ac}
theorem zpQ{o:av}(I:Inv X pins σ H s)(e:X.K.lookup l=aa o)(f:zem X pins H b):l≠b:=fun z=>by
 subst z;have a:X.base.get? l=aa o:=I.mod.kin l o e;rcases f.2.2.2.1 with h|h
 ·exact I.ok.noex l o a h
 ·have d:=yg a;have c:=I.ok.bsz;exact absurd (yF d (yM c h)) (yac _)
theorem rd_ne{u:HO}(h:Rd H l u)(n:H b=none):l≠b:=by
 rcases h with h|⟨o,h⟩
 ·exact zar h n
 ·exact zar h n
theorem sq_lst:SeqKd SqL Heap.IsList Heap.IsListIter where
 obj:=seq_lst.obj
 kp:=seq_lst.kp
 seq:=fun X pins σ H s l xs I e=>by
  obtain⟨its,r,p,_⟩:=I.list e
  exact⟨its,r,p.isList⟩
 dr:=seq_lst.dr
 ne:=fun X pins σ H s l xs b I e f=>by
  rcases e with e|⟨o,_,_,e,_⟩
  ·exact rd_ne e f.1
  ·exact zpQ I e f
 inj:=fun X pins σ H s l xs ys I=>I.list_inj
theorem sq_tup:SeqKd SqT Heap.IsTuple ydF where
 obj:=seq_tup.obj
 kp:=seq_tup.kp
 seq:=fun X pins σ H s l xs I e=>by
  obtain⟨its,r,p,_⟩:=I.tuple e
  exact⟨its,r,p⟩
 dr:=seq_tup.dr
 ne:=fun X pins σ H s l xs b I e f=>by
  rcases e with e|⟨o,_,_,e,_⟩
  ·exact rd_ne e f.1
  ·exact zpQ I e f
 inj:=fun X pins σ H s l xs ys I=>I.tuple_inj
def IteQ(c:CQ)(K:ya)(l:ac):It :=
 ⟨fun i H=>∃xs x,c K H l xs/\xs[i]?=aa x,fun i H x H'=>∃T y,H T=none/\x = .ref T/\(∀xs,c K H l xs->xs[i]?=aa y)/\H'=upd H T (.tup [.int (i:Int),y]),fun i H=>∃xs,c K H l xs/\xs.length=i⟩
variable{c:CQ}{IsS:au->ac->Array ag->Prop}{IsI:au->ac->ac->Nat->Prop}{P:ar}{K:ya}{elts:List am}{kt:Nat}
theorem zl8(S:SeqKd c IsS IsI){w:al}{pt:ax}{e it:ac}(a:e≠it) :
  Turn P w K (.Tuple elts kt pt) (IteQ c K l) [e,it] e (fun i h=>(∃O,IsEnum h e it i O)/\IsI h it l i) where
 mem:=by simp
 obj:=fun i h st b Z=>by
  obtain⟨⟨O,d⟩,st⟩:=st
  have q:b=e∨b=it:=by simpa using Z
  rcases q with rfl|rfl
  ·exact⟨_,d,fun v z=>by cases z⟩
  ·exact S.obj _ _ _ _ st
 keep:=fun i h h' st k=>⟨let ⟨O,d⟩:=st.1;⟨O,k e (by simp) _ d⟩,S.kp _ _ _ _ _ st.2 fun o q=>k it (by simp) o q⟩
 item:=by
  intro X m J hK Y i pins s σ H E I r st U
  subst m J hK
  obtain⟨xs,y,hl,hy⟩:=U
  obtain⟨its,R,p⟩:=S.seq X pins σ H s l xs I hl
  obtain⟨u,hu,ru⟩:=R.get hy
  have n:=r e (by simp)
  have F:=r it (by simp)
  have j:l≠e:=S.ne X pins σ H s l xs e I hl n
  have g:l≠it:=S.ne X pins σ H s l xs it I hl F
  have N:i<its.toArray.size:=by
   have:=yc.mp hu
   simpa using this.1
  obtain⟨⟨O,d⟩,hs⟩:=st
  have B:e<s.heap.objs.size:=yg d
  have T:it<s.heap.objs.size:=by obtain⟨o,q,_⟩:=S.obj _ _ _ _ hs;exact yg q
  refine wpAny_pyNext_enum_itemD (S.dr X.prog X.w X.A.in1 (I.ok.hd Y) it l g its.toArray) d ⟨hs,p⟩ N a (by simp[a,Ne.symm j]) fun x h' t hx M L hT hsz hk=>?_
  refine⟨.ref s.heap.objs.size,rfl,wpAny_letOwnedTupleGo_enum (s:={ s with heap:=h',toks:=t+1 }) M fun h2 V f=>?_⟩
  have G:x=u:=by
   have h1:its[i]?=aa x:=by simpa using hx
   rw[hu]at h1
   exact(yP h1).symm
  subst G
  have C:h2.get? s.heap.objs.size=aa { cls := .type "tuple", data := .seq #[.int i t,x] }:=(f.2 _ (yR B)).trans hT
  have new:ObjOk X.prog X.w (upd H s.heap.objs.size (.tup [.int (i:Int),y])) h2 s.heap.objs.size (.tup [.int (i:Int),y]):=⟨(by show 2<=sizeLine;decide),[.int i t,x],.cons ⟨t,rfl⟩ (.cons ru .nil),⟨_,C,rfl,_,rfl⟩,_,C,rfl⟩
  refine⟨.ref s.heap.objs.size,_,I.turn2l n F (fun c o D c2 q=>(f.2 c D).trans (hk c o D c2 q)) (yb _) new,rfl,⟨s.heap.objs.size,y,I.hok.fresh (yb _),rfl,fun us h=>by rw[S.inj X pins σ H s l us xs I h hl];exact hy,rfl⟩,⟨⟨x,by simpa using V⟩,S.kp _ _ _ _ _ L.1 fun o q=>(f.2 it (Ne.symm a)).trans q⟩,fun b Z=>?_⟩
  have q:b=e∨b=it:=by simpa using Z
  rcases q with rfl|rfl
  ·rw[zax (yB B)];exact n.1
  ·rw[zax (yB T)];exact F.1
 done:=by
  intro X m J hK Y i pins s σ H E I r st U
  subst m J hK
  obtain⟨xs,hl,hn⟩:=U
  obtain⟨its,R,p⟩:=S.seq X pins σ H s l xs I hl
  have n:=r e (by simp)
  have F:=r it (by simp)
  have j:l≠e:=S.ne X pins σ H s l xs e I hl n
  have g:l≠it:=S.ne X pins σ H s l xs it I hl F
  have hi:i=its.toArray.size:=by rw[<- hn,R.length];simp
  subst hi
  have W:=WalksT.enumerateD (S.dr X.prog X.w X.A.in1 (I.ok.hd Y) it l g its.toArray) e a (by simp[a,Ne.symm j]) (by simp)
  exact W.done s _ _ ⟨st.1,st.2,p⟩ fun h' t kk=>⟨rfl,I.turn2 n F fun c o D c2 q=>kk c o (by simp[D,c2]) q⟩
 self:=fun A i s Q E st q=>by
  obtain⟨⟨O,d⟩,_⟩:=st
  exact cE d q
def zrS(c:CQ)(K:ya)(te:TE):TI:=fun σ H R=>te σ H fun x H1=>∃l xs,[x]=[V.ref l]/\c K H1 l xs/\R (IteQ c K l) H1
variable{p pos:ax}{R:It->Hp->Prop}{h':au}
section
variable{pt:ax}{e:am}{te:TE}
theorem zjy(S:SeqKd c IsS IsI)(I:Inv X pins σ H s)(h:IsEnum h' (s.heap.objs.size+1) s.heap.objs.size 0 .none)(hi:IsI h' s.heap.objs.size l 0)(k:∀b o,s.heap.get? b=aa o->h'.get? b=aa o)(q:R (IteQ c X.K l) H) : PIE X pins σ (.Tuple elts kt pt) R (.ref (s.heap.objs.size+1)) { s with heap:=h' }:=by
 refine⟨s.heap.objs.size+1,[s.heap.objs.size+1,s.heap.objs.size],_,_,H,rfl,I.kept (t':=s.toks) k,zl8 S (yR (yaX _)),⟨⟨.none,h⟩,hi⟩,fun b a=>?_,q⟩;have e:b=s.heap.objs.size+1∨b=s.heap.objs.size:=by simpa using a
 rcases e with rfl|rfl
 ·exact I.fpOk (ybb _) (I.hok.fresh (ybb _))
 ·exact I.fpOk (yb _) (I.hok.fresh (yb _))
theorem zn0(f:Gl X "enumerate")(hm:X.mg "enumerate" = none)(g:PE X e te)(hs:autoParam (ap [e] X.env=[(ai,eval e X.env)]) AutoP.a3._auto_1):PI X (.Tuple elts kt pt) (.Call (.Name "enumerate" p) [e] [] pos) (zrS SqL X.K te):=by
 intro pins s σ H R I h;refine Call_ (zcJ I f hm boot_enumerate (PyProof.Rows.callWith_type1 (thn (za2 g zda hs pos pins s σ H (fun z b=>∃l xs,z=[V.ref l]/\SqL X.K b l xs/\R (IteQ SqL X.K l) b) I h) fun us s1 ⟨vs,b,i,d,Q⟩=>?_) hs rfl));obtain⟨l,xs,rfl,hl,q⟩:=Q;obtain⟨u,rfl,r⟩:=zcA d;cases r;obtain⟨its,j,pl⟩:=sq_lst.seq X pins σ b s1 l xs i hl;exact call_enumerate_list pl fun h' a c _ k=>cE a (zjy sq_lst i a c k q)
theorem znZ(f:Gl X "enumerate")(hm:X.mg "enumerate" = none)(g:PE X e te)(hs:autoParam (ap [e] X.env=[(ai,eval e X.env)]) AutoP.a3._auto_1):PI X (.Tuple elts kt pt) (.Call (.Name "enumerate" p) [e] [] pos) (zrS SqT X.K te):=by
 intro pins s σ H R I h;refine Call_ (zcJ I f hm boot_enumerate (PyProof.Rows.callWith_type1 (thn (za2 g zda hs pos pins s σ H (fun z b=>∃l xs,z=[V.ref l]/\SqT X.K b l xs/\R (IteQ SqT X.K l) b) I h) fun us s1 ⟨vs,b,i,d,Q⟩=>?_) hs rfl));obtain⟨l,xs,rfl,hl,q⟩:=Q;obtain⟨u,rfl,r⟩:=zcA d;cases r;obtain⟨its,j,pl⟩:=sq_tup.seq X pins σ b s1 l xs i hl;exact zeL pl fun h' a c k=>cE a (zjy sq_tup i a c k q)
end
def zm1(c C:CQ)(K:ya)(l1 l2:ac):It :=
 ⟨fun i H=>∃xs ys x y,c K H l1 xs/\C K H l2 ys/\xs[i]?=aa x/\ys[i]?=aa y,fun i H v H'=>∃T x y,H T=none/\v = .ref T/\(∀xs,c K H l1 xs->xs[i]?=aa x)/\(∀ys,C K H l2 ys->ys[i]?=aa y)/\H'=upd H T (.tup [x,y]),fun i H=>∃xs,c K H l1 xs/\xs.length=i⟩
variable{c1 c2:CQ}{IsS1 IsS2:au->ac->Array ag->Prop}{IsI1 IsI2:au->ac->ac->Nat->Prop}{z i1 i2 l2:ac}
theorem zng(S:SeqKd c1 IsS1 IsI1)(m:SeqKd c2 IsS2 IsI2){w:al}{pt:ax}{TI TO l1:ac}(N:TO≠z)(B:TI≠z)(n:i1≠z)(C:i2≠z)(nTT:TI≠TO)(n1I:TI≠i1)(n2I:TI≠i2)(L:i1≠TO)(J:i2≠TO)(M:i1≠i2) :
  Turn P w K (.Tuple elts kt pt) (zm1 c1 c2 K l1 l2) [z,TI,TO,i1,i2] z (fun i h=>aI h z TI TO .none/\aG h TI (.ref i1) (.ref i2)/\(∃a b,aG h TO a b)/\IsI1 h i1 l1 i/\IsI2 h i2 l2 i) where
 mem:=by simp
 obj:=fun i h st b j=>by
  obtain⟨f,r,⟨a,c,u⟩,t,F⟩:=st
  simp only[yA,yK,or_false]at j
  rcases j with rfl|rfl|rfl|rfl|rfl
  ·exact⟨_,f,fun v z=>by cases z⟩
  ·exact⟨_,r,fun v z=>by cases z⟩
  ·exact⟨_,u,fun v z=>by cases z⟩
  ·exact S.obj _ _ _ _ t
  ·exact m.obj _ _ _ _ F
 keep:=fun i h h' st k=>by
  obtain⟨f,r,⟨a,c,u⟩,t,F⟩:=st
  exact⟨k _ (by simp) _ f,k _ (by simp) _ r,⟨a,c,k _ (by simp) _ u⟩,S.kp _ _ _ _ _ t fun o q=>k _ (by simp) o q,m.kp _ _ _ _ _ F fun o q=>k _ (by simp) o q⟩
 item:=by
  intro X D hw hK e i pins s σ H E I p st hg
  subst D hw hK
  obtain⟨xs,ys,x,y,hl1,hl2,hx,hy⟩:=hg
  obtain⟨d,R,p1⟩:=S.seq X pins σ H s l1 xs I hl1
  obtain⟨l,rv2,p2⟩:=m.seq X pins σ H s l2 ys I hl2
  obtain⟨u1,U,ru1⟩:=R.get hx
  obtain⟨u2,T,ru2⟩:=rv2.get hy
  have fz:=p z (by simp)
  have fT:=p TO (by simp)
  have f1:=p i1 (by simp)
  have f2:=p i2 (by simp)
  have W:i<d.toArray.size:=by
   have:=yc.mp U
   simpa using this.1
  have V:i<l.toArray.size:=by
   have:=yc.mp T
   simpa using this.1
  obtain⟨f,r,⟨a,c,u⟩,t,F⟩:=st
  have a1:=S.ne X pins σ H s l1 xs z I hl1 fz
  have a2:=S.ne X pins σ H s l1 xs TO I hl1 fT
  have a3:=S.ne X pins σ H s l1 xs i1 I hl1 f1
  have a4:=S.ne X pins σ H s l1 xs i2 I hl1 f2
  have b1:=m.ne X pins σ H s l2 ys z I hl2 fz
  have b2:=m.ne X pins σ H s l2 ys TO I hl2 fT
  have b3:=m.ne X pins σ H s l2 ys i1 I hl2 f1
  have b4:=m.ne X pins σ H s l2 ys i2 I hl2 f2
  refine zde (S.dr X.prog X.w X.A.in1 (I.ok.hd e) i1 l1 a3 d.toArray) (m.dr X.prog X.w X.A.in1 (I.ok.hd e) i2 l2 b4 l.toArray) f r u ⟨t,p1⟩ ⟨F,p2⟩ W V N B n C L J
   (by simp[Ne.symm n,Ne.symm a1]) (by simp[Ne.symm L,Ne.symm a2]) (by simp[Ne.symm M,Ne.symm a4]) (by simp[Ne.symm C,Ne.symm b1]) (by simp[Ne.symm J,Ne.symm b2]) (by simp[M,Ne.symm b3]) fun v1 Z h' tk e1 e2 q1 q2 q3 q4 q5 q6 q7=>?_
  refine⟨.ref s.heap.objs.size,rfl,cF (s:={ s with heap:=h',toks:=tk }) q1 fun g r1 G=>?_⟩
  have hv1:v1=u1:=by
   have f:d[i]?=aa v1:=by simpa using e1
   rw[U]at f
   exact(yP f).symm
  have hv2:Z=u2:=by
   have f:l[i]?=aa Z:=by simpa using e2
   rw[T]at f
   exact(yP f).symm
  subst hv1 hv2
  have O:z<s.heap.objs.size:=yg f
  have Y:g.get? s.heap.objs.size=aa { cls := .type "tuple", data := .seq #[v1,Z] }:=(G.2 _ (yR O)).trans q5
  have new:ObjOk X.prog X.w (upd H s.heap.objs.size (.tup [x,y])) g s.heap.objs.size (.tup [x,y]):=⟨(by show 2<=sizeLine;decide),[v1,Z],.cons ru1 (.cons ru2 .nil),⟨_,Y,rfl,_,rfl⟩,_,Y,rfl⟩
  refine⟨.ref s.heap.objs.size,_,I.turnNl (ch:=[z,TO,i1,i2]) (fun b j=>p b ?_) (fun c o e q=>(G.2 c ?_).trans (q7 c o ?_ ?_ ?_ ?_ q)) (yb _) new,rfl,⟨s.heap.objs.size,x,y,I.hok.fresh (yb _),rfl,(fun us h=>by rw[S.inj X pins σ H s l1 us xs I h hl1];exact hx),(fun us h=>by rw[m.inj X pins σ H s l2 us ys I h hl2];exact hy),rfl⟩,⟨r1,(G.2 _ B).trans (q7 _ _ B nTT n1I n2I r),⟨_,_,(G.2 _ N).trans q2⟩,S.kp _ _ _ _ _ q3.1 fun o q=>(G.2 _ n).trans q,m.kp _ _ _ _ _ q4.1 fun o q=>(G.2 _ C).trans q⟩,fun b j=>?_⟩
  ·simp only[yA,yK,or_false]at j ⊢
   rcases j with h|h|h|h <;> simp[h]
  ·exact fun z=>e (by simp[z])
  ·exact fun z=>e (by simp[z])
  ·exact fun z=>e (by simp[z])
  ·exact fun z=>e (by simp[z])
  ·exact fun z=>e (by simp[z])
  ·have fb:=p b j
   have lt:b<s.heap.objs.size:=by
    simp only[yA,yK,or_false]at j
    rcases j with rfl|rfl|rfl|rfl|rfl
    ·exact O
    ·exact yg r
    ·exact yg u
    ·obtain⟨o,q,_⟩:=S.obj _ _ _ _ t;exact yg q
    ·obtain⟨o,q,_⟩:=m.obj _ _ _ _ F;exact yg q
   rw[zax (yB lt)]
   exact fb.1
 done:=by
  intro X D hw hK e i pins s σ H E I p st hg
  subst D hw hK
  obtain⟨xs,hl1,hn⟩:=hg
  obtain⟨d,R,p1⟩:=S.seq X pins σ H s l1 xs I hl1
  have fz:=p z (by simp)
  have f1:=p i1 (by simp)
  obtain⟨f,r,⟨a,c,u⟩,t,F⟩:=st
  have a1:=S.ne X pins σ H s l1 xs z I hl1 fz
  have a3:=S.ne X pins σ H s l1 xs i1 I hl1 f1
  have hi:i=d.toArray.size:=by rw[<- hn,R.length];simp
  subst hi
  refine zdl (S.dr X.prog X.w X.A.in1 (I.ok.hd e) i1 l1 a3 d.toArray) f r u ⟨t,p1⟩ N n (by simp[Ne.symm n,Ne.symm a1]) fun h' k=>⟨rfl,I.turnN (t':=s.toks) (ch:=[z,TO,i1,i2]) (fun b j=>p b ?_) fun c o e q=>k c o (fun z=>e (by simp[z])) (fun z=>e (by simp[z])) (fun z=>e (by simp[z])) (fun z=>e (by simp[z])) q⟩
  simp only[yA,yK,or_false]at j ⊢
  rcases j with h|h|h|h <;> simp[h]
 self:=fun A i s Q E st q=>cb st.1 q
def iZipQ(C c:CQ)(K:ya)(T t:TE):TI:=fun σ H R=>T σ H fun x H1=>t σ H1 fun y H2=>∃l1 l2 xs ys,[x,y]=[V.ref l1,V.ref l2]/\C K H2 l1 xs/\c K H2 l2 ys/\R (zm1 C c K l1 l2) H2
variable{e1 e2:am}{te1 te2:TE}
section
variable{pt:ax}
theorem zk0(s:SeqKd c1 IsS1 IsI1)(S:SeqKd c2 IsS2 IsI2){H:Hp}{s1:ak}{l1:ac}(I:Inv X pins σ H s1)(a1:aI h' (s1.heap.objs.size+4) (s1.heap.objs.size+2) (s1.heap.objs.size+3) .none)(a2:aG h' (s1.heap.objs.size+2) (.ref s1.heap.objs.size) (.ref (s1.heap.objs.size+1)))(a3:aG h' (s1.heap.objs.size+3) .none .none)(a4:IsI1 h' s1.heap.objs.size l1 0)(a5:IsI2 h' (s1.heap.objs.size+1) l2 0)(k:∀b o,s1.heap.get? b=aa o->h'.get? b=aa o)(q:R (zm1 c1 c2 X.K l1 l2) H) : PIE X pins σ (.Tuple elts kt pt) R (.ref (s1.heap.objs.size+4)) { s1 with heap:=h' }:=by
 have n:∀i j:Nat,i≠j->s1.heap.objs.size+i≠s1.heap.objs.size+j:=fun i j h e=>h (by exact ydL e);refine⟨s1.heap.objs.size+4,[s1.heap.objs.size+4,s1.heap.objs.size+2,s1.heap.objs.size+3,s1.heap.objs.size,s1.heap.objs.size+1],_,_,H,rfl,I.kept (t':=s1.toks) k,zng s S (n 3 4 (by decide)) (n 2 4 (by decide)) (n 0 4 (by decide)) (n 1 4 (by decide)) (n 2 3 (by decide)) (n 2 0 (by decide)) (n 2 1 (by decide)) (n 0 3 (by decide)) (n 1 3 (by decide)) (n 0 1 (by decide)),⟨a1,a2,⟨_,_,a3⟩,a4,a5⟩,fun b a=>?_,q⟩;have l:s1.heap.objs.size<=b:=by
  simp only[yA,yK,or_false]at a;rcases a with h|h|h|h|h
  ·rw[h];exact yaq _ _
  ·rw[h];exact yaq _ _
  ·rw[h];exact yaq _ _
  ·rw[h];exact yb _
  ·rw[h];exact yaq _ _
 exact I.fpOk l (I.hok.fresh l)
theorem znV(n:Gl X "zip")(hm:X.mg "zip" = none)(d:PE X e1 te1)(c:PE X e2 te2)(hs:autoParam (ap [e1,e2] X.env=(ai,eval e1 X.env)::ap [e2] X.env) AutoP.a3._auto_1)(b:autoParam (ap [e2] X.env=[(ai,eval e2 X.env)]) AutoP.a3._auto_1):PI X (.Tuple elts kt pt) (.Call (.Name "zip" p) [e1,e2] [] pos) (iZipQ SqT SqL X.K te1 te2):=by
 intro pins s σ H R I h;refine Call_ (zcJ I n hm boot_zip (PyProof.Rows.callWith_type1 (thn (za2 d (za2 c zda b) hs pos pins s σ H (fun z a=>∃l1 l2 xs ys,z=[V.ref l1,V.ref l2]/\SqT X.K a l1 xs/\SqL X.K a l2 ys/\R (zm1 SqT SqL X.K l1 l2) a) I h) fun us s1 ⟨vs,a,i,m,Q⟩=>?_) hs (by rw[b];rfl)));obtain⟨l1,l2,xs,ys,rfl,hl1,hl2,q⟩:=Q;obtain⟨u,v,rfl,l,j⟩:=zhB m;cases l;cases j;obtain⟨f,g,P⟩:=sq_tup.seq X pins σ a s1 l1 xs i hl1;obtain⟨e,r,p2⟩:=sq_lst.seq X pins σ a s1 l2 ys i hl2;exact zkR P p2 fun h' a1 a2 a3 a4 a5 k=>cb a1 (zk0 sq_tup sq_lst i a1 a2 a3 a4 a5 k q)
theorem znU(n:Gl X "zip")(hm:X.mg "zip" = none)(d:PE X e1 te1)(c:PE X e2 te2)(hs:autoParam (ap [e1,e2] X.env=(ai,eval e1 X.env)::ap [e2] X.env) AutoP.a3._auto_1)(b:autoParam (ap [e2] X.env=[(ai,eval e2 X.env)]) AutoP.a3._auto_1):PI X (.Tuple elts kt pt) (.Call (.Name "zip" p) [e1,e2] [] pos) (iZipQ SqT SqT X.K te1 te2):=by
 intro pins s σ H R I h;refine Call_ (zcJ I n hm boot_zip (PyProof.Rows.callWith_type1 (thn (za2 d (za2 c zda b) hs pos pins s σ H (fun z a=>∃l1 l2 xs ys,z=[V.ref l1,V.ref l2]/\SqT X.K a l1 xs/\SqT X.K a l2 ys/\R (zm1 SqT SqT X.K l1 l2) a) I h) fun us s1 ⟨vs,a,i,m,Q⟩=>?_) hs (by rw[b];rfl)));obtain⟨l1,l2,xs,ys,rfl,hl1,hl2,q⟩:=Q;obtain⟨u,v,rfl,l,j⟩:=zhB m;cases l;cases j;obtain⟨f,g,P⟩:=sq_tup.seq X pins σ a s1 l1 xs i hl1;obtain⟨e,r,p2⟩:=sq_tup.seq X pins σ a s1 l2 ys i hl2;exact zkQ P p2 fun h' a1 a2 a3 a4 a5 k=>cb a1 (zk0 sq_tup sq_tup i a1 a2 a3 a4 a5 k q)
end
def zl2(K:ya)(l1 l2 l3:ac):It :=
 ⟨fun i H=>∃xs ys zs x y z,SqT K H l1 xs/\SqT K H l2 ys/\SqT K H l3 zs/\xs[i]?=aa x/\ys[i]?=aa y/\zs[i]?=aa z,fun i H v H'=>∃T x y z,H T=none/\v = .ref T/\(∀xs,SqT K H l1 xs->xs[i]?=aa x)/\(∀ys,SqT K H l2 ys->ys[i]?=aa y)/\(∀zs,SqT K H l3 zs->zs[i]?=aa z)/\H'=upd H T (.tup [x,y,z]),fun i H=>∃xs,SqT K H l1 xs/\xs.length=i⟩
theorem zl5{w:al}{pt:ax}{TI TO m l1 l3:ac}(J:TO≠z)(W:TI≠z)(N:i1≠z)(M:i2≠z)(L:m≠z)(nTT:TI≠TO)(n1I:TI≠i1)(n2I:TI≠i2)(n3I:TI≠m)(n1T:i1≠TO)(Z:i2≠TO)(Y:m≠TO)(n12:i1≠i2)(n13:i1≠m)(n23:i2≠m) :
  Turn P w K (.Tuple elts kt pt) (zl2 K l1 l2 l3) [z,TI,TO,i1,i2,m] z (fun i h=>aI h z TI TO .none/\zcs h TI (.ref i1) (.ref i2) (.ref m)/\(∃a b c,zcs h TO a b c)/\h.IsTupleIter i1 l1 i/\h.IsTupleIter i2 l2 i/\h.IsTupleIter m l3 i) where
 mem:=by simp
 obj:=fun i h st b n=>by
  obtain⟨r,t,⟨a,c,d,F⟩,D,T,S⟩:=st
  simp only[yA,yK,or_false]at n
  rcases n with rfl|rfl|rfl|rfl|rfl|rfl
  ·exact⟨_,r,fun v z=>by cases z⟩
  ·exact⟨_,t,fun v z=>by cases z⟩
  ·exact⟨_,F,fun v z=>by cases z⟩
  ·exact sq_tup.obj _ _ _ _ D
  ·exact sq_tup.obj _ _ _ _ T
  ·exact sq_tup.obj _ _ _ _ S
 keep:=fun i h h' st k=>by
  obtain⟨r,t,⟨a,c,d,F⟩,D,T,S⟩:=st
  exact⟨k _ (by simp) _ r,k _ (by simp) _ t,⟨a,c,d,k _ (by simp) _ F⟩,sq_tup.kp _ _ _ _ _ D fun o q=>k _ (by simp) o q,sq_tup.kp _ _ _ _ _ T fun o q=>k _ (by simp) o q,sq_tup.kp _ _ _ _ _ S fun o q=>k _ (by simp) o q⟩
 item:=by
  intro X O hw hK f i pins s σ H E I p st hg
  subst O hw hK
  obtain⟨xs,ys,zs,x,y,v,hl1,hl2,hl3,hx,hy,hv⟩:=hg
  obtain⟨j,R,p1⟩:=sq_tup.seq X pins σ H s l1 xs I hl1
  obtain⟨C,rv2,p2⟩:=sq_tup.seq X pins σ H s l2 ys I hl2
  obtain⟨B,rv3,p3⟩:=sq_tup.seq X pins σ H s l3 zs I hl3
  obtain⟨u1,hu1,ru1⟩:=R.get hx
  obtain⟨u2,hu2,ru2⟩:=rv2.get hy
  obtain⟨u3,hu3,ru3⟩:=rv3.get hv
  have fz:=p z (by simp)
  have fT:=p TO (by simp)
  have f1:=p i1 (by simp)
  have f2:=p i2 (by simp)
  have f3:=p m (by simp)
  have hlt1:i<j.toArray.size:=by
   have:=yc.mp hu1
   simpa using this.1
  have hlt2:i<C.toArray.size:=by
   have:=yc.mp hu2
   simpa using this.1
  have hlt3:i<B.toArray.size:=by
   have:=yc.mp hu3
   simpa using this.1
  obtain⟨r,t,⟨a,c,d,F⟩,D,T,S⟩:=st
  have A:∀{l:ac}{ws:List V},SqT X.K H l ws->l≠z/\l≠TO/\l≠i1/\l≠i2/\l≠m:=fun e=>⟨sq_tup.ne X pins σ H s _ _ _ I e fz,sq_tup.ne X pins σ H s _ _ _ I e fT,sq_tup.ne X pins σ H s _ _ _ I e f1,sq_tup.ne X pins σ H s _ _ _ I e f2,sq_tup.ne X pins σ H s _ _ _ I e f3⟩
  obtain⟨a1,a2,a3,a4,a5⟩:=A hl1
  obtain⟨b1,b2,b3,b4,b5⟩:=A hl2
  obtain⟨c1,c2,c3,c4,c5⟩:=A hl3
  refine zcZ (sq_tup.dr X.prog X.w X.A.in1 (I.ok.hd f) i1 l1 a3 j.toArray) (sq_tup.dr X.prog X.w X.A.in1 (I.ok.hd f) i2 l2 b4 C.toArray) (sq_tup.dr X.prog X.w X.A.in1 (I.ok.hd f) m l3 c5 B.toArray) r t F ⟨D,p1⟩ ⟨T,p2⟩ ⟨S,p3⟩ hlt1 hlt2 hlt3 J N M L n1T Z Y
   (by simp[Ne.symm N,Ne.symm a1]) (by simp[Ne.symm n1T,Ne.symm a2]) (by simp[Ne.symm n12,Ne.symm a4]) (by simp[Ne.symm n13,Ne.symm a5]) (by simp[Ne.symm M,Ne.symm b1]) (by simp[Ne.symm Z,Ne.symm b2]) (by simp[n12,Ne.symm b3]) (by simp[Ne.symm n23,Ne.symm b5]) (by simp[Ne.symm L,Ne.symm c1]) (by simp[Ne.symm Y,Ne.symm c2]) (by simp[n13,Ne.symm c3]) (by simp[n23,Ne.symm c4]) fun v1 v2 v3 h' tk e1 e2 e3 q1 q2 q3 q4 q5 q6 q7 q8=>?_
  refine⟨.ref s.heap.objs.size,rfl,cF (s:={ s with heap:=h',toks:=tk }) q1 fun g r1 G=>?_⟩
  have U:∀{its:List ag}{v u:ag},its.toArray[i]?=aa v->its[i]?=aa u->v=u:=fun {its v u} a b=>by
   have r:its[i]?=aa v:=by simpa using a
   rw[b]at r
   exact(yP r).symm
  cases U e1 hu1
  cases U e2 hu2
  cases U e3 hu3
  have hzt:z<s.heap.objs.size:=yg r
  have hT2:g.get? s.heap.objs.size=aa { cls := .type "tuple", data := .seq #[u1,u2,u3] }:=(G.2 _ (yR hzt)).trans q6
  have new:ObjOk X.prog X.w (upd H s.heap.objs.size (.tup [x,y,v])) g s.heap.objs.size (.tup [x,y,v]):=⟨(by show 3<=sizeLine;decide),[u1,u2,u3],.cons ru1 (.cons ru2 (.cons ru3 .nil)),⟨_,hT2,rfl,_,rfl⟩,_,hT2,rfl⟩
  refine⟨.ref s.heap.objs.size,_,I.turnNl (ch:=[z,TO,i1,i2,m]) (fun b n=>p b ?_) (fun c o f q=>(G.2 c ?_).trans (q8 c o ?_ ?_ ?_ ?_ ?_ q)) (yb _) new,rfl,⟨s.heap.objs.size,x,y,v,I.hok.fresh (yb _),rfl,(fun us h=>by rw[I.tuple_inj h hl1];exact hx),(fun us h=>by rw[I.tuple_inj h hl2];exact hy),(fun us h=>by rw[I.tuple_inj h hl3];exact hv),rfl⟩,⟨r1,(G.2 _ W).trans (q8 _ _ W nTT n1I n2I n3I t),⟨_,_,_,(G.2 _ J).trans q2⟩,sq_tup.kp _ _ _ _ _ q3.1 fun o q=>(G.2 _ N).trans q,sq_tup.kp _ _ _ _ _ q4.1 fun o q=>(G.2 _ M).trans q,sq_tup.kp _ _ _ _ _ q5.1 fun o q=>(G.2 _ L).trans q⟩,fun b n=>?_⟩
  ·simp only[yA,yK,or_false]at n ⊢
   rcases n with h|h|h|h|h <;> simp[h]
  ·exact fun z=>f (by simp[z])
  ·exact fun z=>f (by simp[z])
  ·exact fun z=>f (by simp[z])
  ·exact fun z=>f (by simp[z])
  ·exact fun z=>f (by simp[z])
  ·exact fun z=>f (by simp[z])
  ·have fb:=p b n
   have lt:b<s.heap.objs.size:=by
    simp only[yA,yK,or_false]at n
    rcases n with rfl|rfl|rfl|rfl|rfl|rfl
    ·exact hzt
    ·exact yg t
    ·exact yg F
    ·obtain⟨o,q,_⟩:=D;exact yg q
    ·obtain⟨o,q,_⟩:=T;exact yg q
    ·obtain⟨o,q,_⟩:=S;exact yg q
   rw[zax (yB lt)]
   exact fb.1
 done:=by
  intro X O hw hK f i pins s σ H E I p st hg
  subst O hw hK
  obtain⟨xs,hl1,hn⟩:=hg
  obtain⟨j,R,p1⟩:=sq_tup.seq X pins σ H s l1 xs I hl1
  have fz:=p z (by simp)
  have f1:=p i1 (by simp)
  obtain⟨r,t,⟨a,c,d,F⟩,D,T,S⟩:=st
  have a1:=sq_tup.ne X pins σ H s l1 xs z I hl1 fz
  have a3:=sq_tup.ne X pins σ H s l1 xs i1 I hl1 f1
  have hi:i=j.toArray.size:=by rw[<- hn,R.length];simp
  subst hi
  refine zdf (sq_tup.dr X.prog X.w X.A.in1 (I.ok.hd f) i1 l1 a3 j.toArray) r t F ⟨D,p1⟩ J N (by simp[Ne.symm N,Ne.symm a1]) fun h' k=>⟨rfl,I.turnN (t':=s.toks) (ch:=[z,TO,i1,i2,m]) (fun b n=>p b ?_) fun c o f q=>k c o (fun z=>f (by simp[z])) (fun z=>f (by simp[z])) (fun z=>f (by simp[z])) (fun z=>f (by simp[z])) (fun z=>f (by simp[z])) q⟩
  simp only[yA,yK,or_false]at n ⊢
  rcases n with h|h|h|h|h <;> simp[h]
 self:=fun A i s Q E st q=>cb st.1 q
def iZipQ3(K:ya)(a T t:TE):TI:=fun σ H R=>a σ H fun x H1=>T σ H1 fun y H2=>t σ H2 fun z h=>∃l1 l2 l3 xs ys zs,[x,y,z]=[V.ref l1,V.ref l2,V.ref l3]/\SqT K h l1 xs/\SqT K h l2 ys/\SqT K h l3 zs/\R (zl2 K l1 l2 l3) h
section
variable{pt:ax}{e3:am}{te3:TE}
theorem zqC(J:Gl X "zip")(hm:X.mg "zip" = none)(m:PE X e1 te1)(l:PE X e2 te2)(g:PE X e3 te3)(hs:autoParam (ap [e1,e2,e3] X.env=(ai,eval e1 X.env)::ap [e2,e3] X.env) AutoP.a3._auto_1)(f:autoParam (ap [e2,e3] X.env=(ai,eval e2 X.env)::ap [e3] X.env) AutoP.a3._auto_1)(d:autoParam (ap [e3] X.env=[(ai,eval e3 X.env)]) AutoP.a3._auto_1):PI X (.Tuple elts kt pt) (.Call (.Name "zip" p) [e1,e2,e3] [] pos) (iZipQ3 X.K te1 te2 te3):=by
 intro pins s σ H R I h;refine Call_ (zcJ I J hm boot_zip (PyProof.Rows.callWith_type1 (thn (za2 m (za2 l (za2 g zda d) f) hs pos pins s σ H (fun ws a=>∃l1 l2 l3 xs ys z,ws=[V.ref l1,V.ref l2,V.ref l3]/\SqT X.K a l1 xs/\SqT X.K a l2 ys/\SqT X.K a l3 z/\R (zl2 X.K l1 l2 l3) a) I h) fun us s1 ⟨vs,a,c,F,Q⟩=>?_) hs (by rw[f,d];rfl)));obtain⟨l1,l2,l3,xs,ys,z,rfl,hl1,hl2,hl3,q⟩:=Q;obtain⟨u,v,w,rfl,E,D,r⟩:=vals3 F;cases E;cases D;cases r;obtain⟨x,C,G⟩:=sq_tup.seq X pins σ a s1 l1 xs c hl1;obtain⟨t,B,p2⟩:=sq_tup.seq X pins σ a s1 l2 ys c hl2;obtain⟨o,A,P⟩:=sq_tup.seq X pins σ a s1 l3 z c hl3;refine zkS G p2 P fun h' a1 a2 a3 a4 a5 a6 k=>cb a1 ?_;have n:∀i j:Nat,i≠j->s1.heap.objs.size+i≠s1.heap.objs.size+j:=fun i j h e=>h (by exact ydL e);refine⟨s1.heap.objs.size+5,[s1.heap.objs.size+5,s1.heap.objs.size+3,s1.heap.objs.size+4,s1.heap.objs.size,s1.heap.objs.size+1,s1.heap.objs.size+2],_,_,a,rfl,c.kept (t':=s1.toks) k,zl5 (n 4 5 (by decide)) (n 3 5 (by decide)) (n 0 5 (by decide)) (n 1 5 (by decide)) (n 2 5 (by decide)) (n 3 4 (by decide)) (n 3 0 (by decide)) (n 3 1 (by decide)) (n 3 2 (by decide)) (n 0 4 (by decide)) (n 1 4 (by decide)) (n 2 4 (by decide)) (n 0 1 (by decide)) (n 0 2 (by decide)) (n 1 2 (by decide)),⟨a1,a2,⟨_,_,_,a3⟩,a4,a5,a6⟩,fun b y=>?_,q⟩;have L:s1.heap.objs.size<=b:=by
  simp only[yA,yK,or_false]at y;rcases y with h|h|h|h|h|h
  ·rw[h];exact yaq _ _
  ·rw[h];exact yaq _ _
  ·rw[h];exact yaq _ _
  ·rw[h];exact yb _
  ·rw[h];exact yaq _ _
  ·rw[h];exact yaq _ _
 exact c.fpOk L (c.hok.fresh L)
end
end L2
namespace MD
open PySem PySem.Spec PyProof.Rows L2
theorem Res.bind_assoc{α β b : Type}(r:Res α)(k:α -> Sto->Res β)(l : β -> Sto->Res b):(r.bind k).bind l=r.bind fun a m=>(k a m).bind l:=by
 cases r <;> rfl
theorem Res.bind_ok'{α : Type}(r:Res α):(r.bind fun a m=>.ok a m)=r:=by cases r <;> rfl
theorem RepL.append{K:ya}{α : List ac}{H:Hp}:∀{ds es:List D}{vs ws:List V},RepL K α H ds vs->RepL K α H es ws->RepL K α H (ds++es) (vs++ws)
 |[],_,_,_,h1,h2=>by rw[RepL]at h1;subst h1;exact h2|_::_,_,_,_,h1,h2=>by
  rw[RepL]at h1;obtain⟨v,r,rfl,a,b⟩:=h1;rw[List.cons_append,RepL];exact⟨v,r++_,rfl,a,RepL.append b h2⟩
variable{α : List ac}{K:ya}{H:Hp}{d:D}{v:V}
theorem RepL.one(h:Rep K α H d v):RepL K α H [d] [v]:=by
 rw[RepL];exact⟨v,[],rfl,h,by rw[RepL]⟩
theorem RepL.get{K:ya}{α : List ac}{H:Hp}:∀{ds:List D}{vs:List V}{i:Nat}{d:D},RepL K α H ds vs->ds[i]?=aa d->∃v,vs[i]?=aa v/\Rep K α H d v
 |[],_,_,_,_,e=>by simp at e|_::_,_,0,_,h,e=>by
  rw[RepL]at h;obtain⟨v,r,rfl,a,b⟩:=h;simp at e;subst e;exact⟨v,rfl,a⟩
 |_::_,_,i+1,d,h,e=>by
  rw[RepL]at h;obtain⟨v,r,rfl,a,b⟩:=h;obtain⟨w,f,c⟩:=RepL.get (i:=i) (d:=d) b (by simpa using e);exact⟨w,by simpa using f,c⟩
variable{cl:af->ac}{ex:XD}{gt:GV}{ta:TV}{fa:EV}{n:Nat}{σ : L2.St}
section
variable{fr:AV}
theorem zld{f:List V->Hp->Prop}(h:∃α ρ m,Wd K cl α m H/\RepE K α H ρ σ /\ PQ K cl ex (zbM n fr gt ta fa ρ m) α H fun ds α' _ H'=>∀vs,RepL K α' H' ds vs->f vs H') : zhE n (tDI K cl ex fr) (tDG K cl ex gt) (tDT K cl ex ta) (tD K cl ex fa) f σ H:=by
 obtain⟨α,ρ,m,W,hr,h⟩:=h;refine⟨α,ρ,m,W,hr,PQ.mono (Ext.refl W) h.bind fun ds j m1 H1 E1 B q J L=>?_⟩;obtain⟨Y,q⟩:=PQ.if q;have hr1:=hr.mono W E1;refine zpA (k:=ds.length) (fun i ys c=>∃a m2 done,Ext j H1 a c/\Wd K cl a m2 c/\RepL K a c done ys/\done.length<=i/\PQ K cl ex ((zej gt ta fa (ρ ++ yp n none) (ds.drop i) m2).bind fun xs M=>.ok (done++xs) M) a c fun ds α' _ H'=>∀vs,RepL K α' H' ds vs->f vs H') Y ?_ ?_ ?_ ?_
 ·refine⟨j,m1,[],Ext.refl B,B,by rw[RepL],yb _,?_⟩;simp only[yc5,yc2,Res.bind_ok'];exact q
 ·rintro i ys c ⟨_,_,done,_,_,r,l,_⟩;rw[<- r.length];exact l
 ·rintro i ys c hi ⟨a,m2,done,s,w,R,l2,o⟩;have hd:ds[i]?=aa ds[i]:=by simp[hi]
  obtain⟨g1,Z⟩:=(L i a m2 c s w).1 _ hd;refine⟨g1,fun x H3 y=>?_⟩;obtain⟨S,T⟩:=Z x H3 y;have p:=Ext.of_same w S;have A:=w.same S;rw[yc3 hi,zej,Res.bind_assoc]at o;have e:=s.trans p;refine⟨a,ρ ++ yp n none,m2,ds[i],A,(hr1.mono B e).more n,T,PQ.mono p o.bind fun t P M H4 E4 W4 F O hr4=>?_⟩;rw[Res.bind_assoc]at F;refine tDT.use W4 hr4 F fun g I H5 b E5 z hr5 D=>?_;have E:=E4.trans E5;cases b with
  |false=>exact⟨g,I,done,e.trans E,z,(R.mono w p).mono A E,yc6 l2,D⟩|true=>
   have Q:PQ K cl ex (((fa t I).bind fun x m3=>(zej gt ta fa (ρ ++ yp n none) (ds.drop (i+1)) m3).bind fun xs M=>.ok (x::xs) M).bind fun xs M=>.ok (done++xs) M) g H5 fun ds α' _ H'=>∀vs,RepL K α' H' ds vs->f vs H':=D;rw[Res.bind_assoc]at Q;refine tD.use z hr5 Q fun u X H6 d v N W6 hr6 U C=>?_;rw[Res.bind_assoc]at C;refine⟨u,X,done++[d],e.trans (E.trans N),W6,RepL.append (((R.mono w p).mono A E).mono z N) (RepL.one U),by rw[yD];show done.length+1<=i+1;omega,?_⟩;simp only[yaS,ydM];exact C
 ·rintro ys c ⟨a,m2,done,s,w,R,l2,o⟩;rw[yc4 (yb _),zej]at o;refine⟨(L ds.length a m2 c s w).2 rfl,?_⟩;have G:PQ K cl ex (.ok (done++[]) m2) a c fun ds α' _ H'=>∀vs,RepL K α' H' ds vs->f vs H':=o;rw[yaf]at G;exact PQ.ok w G ys R
end
def gL1(ds:List D)(m:Sto):Res D := .ok (.lst ds) m
def zfu(z:af):List D:=(yC z.cps.size).map fun i=>.str ⟨#[z.cps.getD i 0]⟩
def zkW(d:D)(m:Sto):Res (List D):=match d with
 |.tup ds=>.ok ds m|.lst ds=>.ok ds m|.str z=>.ok (zfu z) m|.scr ds=>.ok ds m|_=>.bad
def aIt(f:EV):AV:=fun ρ m=>(f ρ m).bind zkW
def zbu(lo:Int)(n:Nat):List D:=(yC n).map fun i=>.int (lo+(i:Nat))
def zsv(ds:List D)(m:Sto):Res (List D):=match ds with
 |[.int j]=>if -(2^62)<=j/\j<2^62 then .ok (zbu 0 j.toNat) m else .bad|_=>.bad
theorem znI:∃f:List D->Sto->Res (List D),f=zsv:=⟨_,rfl⟩
def zij:List D->Sto->Res (List D):=ya2 znI
theorem znJ:zij=zsv:=ya3 znI
def zsu(ds:List D)(m:Sto):Res (List D):=match ds with
 |[.int i,.int j]=>if -(2^62)<=i/\i<2^62 /\ -(2^62)<=j/\j<2^62 then .ok (zbu i (j-i).toNat) m else .bad|_=>.bad
theorem znH:∃f:List D->Sto->Res (List D),f=zsu:=⟨_,rfl⟩
def rng2:List D->Sto->Res (List D):=ya2 znH
theorem zkc:rng2=zsu:=ya3 znH
def zhv(g:List D->Sto->Res (List D))(fr:AV):AV:=fun ρ m=>(fr ρ m).bind g
def zcF(i:Nat):List D->List D
 |[]=>[]|d::r=>.tup [.int i,d]::zcF (i+1) r
def asSq2(d:D)(m:Sto):Res (List D):=match d with
 |.tup ds=>.ok ds m|.lst ds=>.ok ds m|_=>.bad
def zfB(f:EV):AV:=fun ρ m=>(f ρ m).bind fun d m1=>(asSq2 d m1).bind fun ds m2=>.ok (zcF 0 ds) m2
def zdZ:List D->List D->List D
 |x::xs,y::ys=>.tup [x,y]::zdZ xs ys|_,_=>[]
def zcG:List D->List D->List D->List D
 |x::xs,y::ys,z::zs=>.tup [x,y,z]::zcG xs ys zs|_,_,_=>[]
def zm7(x y:D)(m:Sto):Res (List D):=match x,y with
 |.tup xs,.tup ys=>if xs.length<=ys.length then .ok (zdZ xs ys) m else .bad|.tup xs,.lst ys=>if xs.length<=ys.length then .ok (zdZ xs ys) m else .bad|_,_=>.bad
def zr6(F f:EV):AV:=fun ρ m=>(F ρ m).bind fun x m1=>(f ρ m1).bind fun y m2=>zm7 x y m2
def zip3(x y z:D)(m:Sto):Res (List D):=match x,y,z with
 |.tup xs,.tup ys,.tup zs=>if xs.length<=ys.length/\xs.length<=zs.length then .ok (zcG xs ys zs) m else .bad|_,_,_=>.bad
def ztR(a F f:EV):AV:=fun ρ m=>(a ρ m).bind fun x m1=>(F ρ m1).bind fun y m2=>(f ρ m2).bind fun z m3=>zip3 x y z m3
theorem zjA:∀(ds:List D)(k i:Nat)(d:D),(zcF k ds)[i]?=aa d->∃e,ds[i]?=aa e/\d = .tup [.int ((k+i:Nat):Int),e]
 |[],k,i,d,h=>by simp[zcF]at h|e::r,k,0,d,h=>by
  simp[zcF]at h;exact⟨e,rfl,h.symm⟩
 |e::r,k,i+1,d,h=>by
  obtain⟨f,h1,h2⟩:=zjA r (k+1) i d (by simpa [zcF] using h);refine⟨f,by simpa using h1,?_⟩;rw[h2,show k+1+i=k+(i+1) by omega]
theorem zjz:∀(ds:List D)(k:Nat),(zcF k ds).length=ds.length
 |[],_=>rfl|_::r,k=>by rw[zcF,yx,yx,zjz r]
theorem zhz:∀(xs ys:List D)(i:Nat)(d:D),(zdZ xs ys)[i]?=aa d->∃a b,xs[i]?=aa a/\ys[i]?=aa b/\d = .tup [a,b]
 |[],_,i,d,h=>by simp[zdZ]at h|_::_,[],i,d,h=>by simp[zdZ]at h|a::r,b::s,0,d,h=>by
  simp[zdZ]at h;exact⟨a,b,rfl,rfl,h.symm⟩
 |a::r,b::s,i+1,d,h=>by
  obtain⟨x,y,h1,h2,H⟩:=zhz r s i d (by simpa [zdZ] using h);exact⟨x,y,by simpa using h1,by simpa using h2,H⟩
theorem zhy:∀(xs ys:List D),xs.length<=ys.length->(zdZ xs ys).length=xs.length
 |[],_,_=>by simp[zdZ]|_::_,[],h=>by simp at h|_::r,_::s,h=>by rw[zdZ,yx,yx,zhy r s (by simpa using h)]
theorem zin:∀(xs ys Z:List D)(i:Nat)(d:D),(zcG xs ys Z)[i]?=aa d->∃a b c,xs[i]?=aa a/\ys[i]?=aa b/\Z[i]?=aa c/\d = .tup [a,b,c]
 |[],_,_,i,d,h=>by simp[zcG]at h|_::_,[],_,i,d,h=>by simp[zcG]at h|_::_,_::_,[],i,d,h=>by simp[zcG]at h|a::r,b::s,c::t,0,d,h=>by
  simp[zcG]at h;exact⟨a,b,c,rfl,rfl,rfl,h.symm⟩
 |a::r,b::s,c::t,i+1,d,h=>by
  obtain⟨x,y,z,h1,h2,e,H⟩:=zin r s t i d (by simpa [zcG] using h);exact⟨x,y,z,by simpa using h1,by simpa using h2,by simpa using e,H⟩
theorem zim:∀(xs ys z:List D),xs.length<=ys.length->xs.length<=z.length->(zcG xs ys z).length=xs.length
 |[],_,_,_,_=>by simp[zcG]|_::_,[],_,h,_=>by simp at h|_::_,_::_,[],_,h=>by simp at h|_::r,_::s,_::t,h,h'=>by rw[zcG,yx,yx,zim r s t (by simpa using h) (by simpa using h')]
variable{X:Cx}{a b tg it:am}{es ifs:List am}{fb fc:EV}{tb:TV}{pos p:ax}
section
variable{N0:List af}{c e:am}{fr:AV}{scope:aO}{xs:List af}{clo:List (af×ac)}
theorem zbz(k:X.calm=ae)(c:X.xe=fun _ _=>False)(S:CompOk X N0 scope xs clo)(hi:QI X cl ex tg it fr)(f:∀C s H fp,QG (X.comp N0 scope xs clo C s H fp) cl ex tg gt)(i:∀C s H fp,PIf (X.comp N0 scope xs clo C s H fp) ifs (tDT X.K cl ex ta))(j:∀C s H fp,QE (X.comp N0 scope xs clo C s H fp) cl ex e fa)(hs:autoParam (∀x,bb it X.env x=pure x) AutoP.a2._auto_1):QE X cl ex (.ListComp e [⟨tg,it,ifs,0⟩] scope pos) (eFn gL1 (zbM xs.length fr gt ta fa)) :=
 ⟨PE.weak (zn2 (g:=tDG X.K cl ex gt) (tf:=tDT X.K cl ex ta) (te:=tD X.K cl ex fa) k c S hi.out (fun C s H fp=>(f C s H fp).out) i (fun C s H fp=>(j C s H fp).out) hs) fun σ H Q d=>ex3 d fun α ρ m W hr h=>zld ⟨α,ρ,m,W,hr,PQ.mono (Ext.refl W) h.bind fun ds b m1 l E w q vs r p a=>PQ.okS w (Same.new a) q _ (zc2 w a r)⟩⟩
theorem zsz{i:Nat}{y:af}{py a:ax}(z:X.calm=ae)(n:X.xe=fun _ _=>False)(A:X.N.Nodup)(l:X.N[i]?=aa y)(hl:X.env.scope.names.lookup y=aa .local)(S:CompOk X N0 scope xs clo)(hi:QI X cl ex tg it fr)(t:∀C s H fp,QG (X.comp N0 scope xs clo C s H fp) cl ex tg gt)(u:∀C s H fp,PIf (X.comp N0 scope xs clo C s H fp) ifs (tDT X.K cl ex ta))(v:∀C s H fp,QE (X.comp N0 scope xs clo C s H fp) cl ex e fa)(f:autoParam (aQ (.ListComp e [⟨tg,it,ifs,0⟩] scope pos) (aa (.Name y py)) a.line X.env=pure ae) AutoP.a4._auto_1)(hs:autoParam (∀x,bb it X.env x=pure x) AutoP.a2._auto_1):QS X cl ex (.Assign [.Name y py] (.ListComp e [⟨tg,it,ifs,0⟩] scope pos) a) (zaC (eFn gL1 (zbM xs.length fr gt ta fa)) (gN i)) :=
 ⟨PS.weak (zsO (g:=tDG X.K cl ex gt) (tf:=tDT X.K cl ex ta) (te:=tD X.K cl ex fa) z n A l hl S hi.out (fun C s H fp=>(t C s H fp).out) u (fun C s H fp=>(v C s H fp).out) f hs) fun D σ H o=>ex3 o fun α ρ m W hr h=>zld ⟨α,ρ,m,W,hr,by
  have k:PQ X.K cl ex (((zbM xs.length fr gt ta fa ρ m).bind gL1).bind fun d m1=>(gN i d ρ m1).bind fun b m2=>.ok (.nx b) m2) α H fun F α' _ H'=>zdK X.K D F α' H':=h;rw[Res.bind_assoc]at k;exact PQ.mono (Ext.refl W) k.bind fun ds c m1 B E w q vs r p j=>PQ.okS w (Same.new j) (show PQ X.K cl ex (.ok (.nx (ρ.set i (aa (.lst ds)))) m1) c B fun F α' _ H'=>zdK X.K D F α' H' from q) _ (((hr.mono W E).mono w (Ext.of_same w (Same.new j))).set (zc2 w j r))⟩⟩
theorem zbd:PIf X [] (tDT X.K cl ex za7):=fun pins s σ H Q I a=>ex3 a fun α ρ m W hr h=>zsX pins s σ H Q I (PQ.ok W h)
theorem zsA(h:QT X cl ex c ta):PIf X [c] (tDT X.K cl ex ta):=zsW h.out
theorem PI.or{t t':TI}(h:PI X tg it t)(h':PI X tg it t'):PI X tg it fun σ H R=>t σ H R∨t' σ H R:=fun pins s σ H R I q=>q.elim (h pins s σ H R I) (h' pins s σ H R I)
end
variable{c:Exc}{f:EV}{Q:List V->Hp->Prop}{τ : Type}{R:RD τ}{l:ac}{ds:List D}{vs:List V}{l2:ac}{xs:List D}{us:List V}
section
variable{α':List ac}{m m1:Sto}{H':Hp}{ρ : En}
theorem tD.at{Q:VK}(W:Wd K cl α m H)(hr:RepE K α H ρ σ)(h:f ρ m = .ok d m1)(b:∀a H1 v,Ext α H a H1->Wd K cl a m1 H1->RepE K a H1 ρ σ -> Rep K a H1 d v->Q v H1):tD K cl ex f σ H Q :=
 ⟨α,ρ,m,W,hr,by rw[h];exact fun a H1 E w v r=>b a H1 v E w (hr.mono W E) r⟩
theorem tDA.at{f:AV}{d:List D}(W:Wd K cl α m H)(hr:RepE K α H ρ σ)(h:f ρ m = .ok d m1)(b:∀a H1 v,Ext α H a H1->Wd K cl a m1 H1->RepE K a H1 ρ σ -> RepL K a H1 d v->Q v H1):tDA K cl ex f σ H Q :=
 ⟨α,ρ,m,W,hr,by rw[h];exact fun a H1 E w v r=>b a H1 v E w (hr.mono W E) r⟩
theorem tD.exc{k:D->Sto->Res τ}{Q:VK}(W:Wd K cl α m H)(hr:RepE K α H ρ σ)(h:f ρ m = .exc c m1)(q:PQ K cl ex ((f ρ m).bind k) α H R):tD K cl ex f σ H Q :=
 ⟨α,ρ,m,W,hr,by rw[h]at q ⊢;exact q⟩
theorem tDA.exc{f:AV}{k:List D->Sto->Res τ}(W:Wd K cl α m H)(hr:RepE K α H ρ σ)(h:f ρ m = .exc c m1)(q:PQ K cl ex ((f ρ m).bind k) α H R):tDA K cl ex f σ H Q :=
 ⟨α,ρ,m,W,hr,by rw[h]at q ⊢;exact q⟩
theorem itd_l(W:Wd K cl α m H)(n:l∉α)(h:Rd H l (.lst vs))(r:RepL K α H ds vs):ItD K cl α H (Itl K l) ds:=fun i b m1 f E w=>by
 have sq:SqL K f l vs := .inl (E.rd h n);refine⟨fun d e=>?_,fun e=>⟨vs,sq,by rw[e,r.length];exact yb _⟩⟩;obtain⟨v,a,c⟩:=(r.mono W E).get e;refine⟨⟨vs,v,sq,a⟩,fun x g y=>?_⟩;obtain⟨rfl,y⟩:=y;have:=y vs sq;rw[a]at this;cases this;exact⟨Same.refl _,c⟩
theorem itd_s(W:Wd K cl α m H)(h:LstAt K α H l vs)(r:RepL K α H ds vs):ItD K cl α H (Itl K l) ds:=fun i b m1 f E w=>by
 have sq:SqL K f l vs:=((E.kp W).lstAt h).sq;refine⟨fun d e=>?_,fun e=>⟨vs,sq,by rw[e,r.length];exact yb _⟩⟩;obtain⟨v,a,c⟩:=(r.mono W E).get e;refine⟨⟨vs,v,sq,a⟩,fun x g y=>?_⟩;obtain⟨rfl,y⟩:=y;have:=y vs sq;rw[a]at this;cases this;exact⟨Same.refl _,c⟩
theorem itd_t(W:Wd K cl α m H)(h:SqT K H l vs)(r:RepL K α H ds vs):ItD K cl α H (Itt K l) ds:=fun i b m1 f E w=>by
 have sq:SqT K f l vs:=E.sqt W h;refine⟨fun d e=>?_,fun e=>⟨vs,sq,by rw[e,r.length];exact yb _⟩⟩;obtain⟨v,a,c⟩:=(r.mono W E).get e;refine⟨⟨vs,v,sq,a⟩,fun x g y=>?_⟩;obtain⟨rfl,y⟩:=y;have:=y vs sq;rw[a]at this;cases this;exact⟨Same.refl _,c⟩
theorem itd_f{f:Nat->V}{g:Nat->D}(h:∀i α H,Rep K α H (g i) (f i)):ItD K cl α H (Itf f n) ((yC n).map g):=fun i a m1 c E W=>by
 refine⟨fun d e=>?_,fun e=>by rw[yd,yap]at e;exact e⟩;obtain⟨hi,e⟩:=yc.mp e;rw[yd,yap]at hi;simp only[yb5,ydN]at e;subst e;refine⟨hi,fun x b y=>?_⟩;obtain⟨rfl,rfl⟩:=y;exact⟨Same.refl _,h _ _ _⟩
theorem itd_r{lo:Int}:ItD K cl α H (Itr lo n) (zbu lo n):=fun i a m1 b E W=>by
 unfold zbu;refine⟨fun d e=>?_,fun e=>by rw[yd,yap]at e;exact ybp e.symm⟩;obtain⟨hi,e⟩:=yc.mp e;rw[yd,yap]at hi;simp only[yb5,ydN]at e;subst e;refine⟨hi,fun x h y=>?_⟩;obtain⟨rfl,rfl⟩:=y;exact⟨Same.refl _,by rw[Rep]⟩
theorem zby{T:ac}(W:Wd K cl α m H)(h:H T=none)(r:RepL K α H ds vs):Rep K α (upd H T (.tup vs)) (.tup ds) (.ref T):=by
 rw[Rep];exact⟨T,vs,rfl,.inl zaF,r.mono W (Ext.of_same W (Same.new h))⟩
theorem RepL.two{e:D}{w:V}(h:Rep K α H d v)(h':Rep K α H e w):RepL K α H [d,e] [v,w]:=RepL.append (RepL.one h) (RepL.one h')
def zjP(K:ya)(cl:af->ac)(c:CQ)(α : List ac)(H:Hp)(l:ac)(vs:List V):Prop:=∀α1 m1 H1,Ext α H α1 H1->Wd K cl α1 m1 H1->c K H1 l vs
theorem itd_e{c:CQ}(W:Wd K cl α m H)(h:zjP K cl c α H l vs)(r:RepL K α H ds vs):ItD K cl α H (IteQ c K l) (zcF 0 ds):=fun i a m1 o E w=>by
 have sq:=h a m1 o E w;refine⟨fun d e=>?_,fun e=>⟨vs,sq,by rw[e,zjz,r.length]⟩⟩;obtain⟨f,n,rfl⟩:=zjA ds 0 i d e;obtain⟨v,g,k⟩:=(r.mono W E).get n;refine⟨⟨vs,v,sq,g⟩,fun x p y=>?_⟩;obtain⟨T,y,b,rfl,j,rfl⟩:=y;have:=j vs sq;rw[g]at this;cases this;refine⟨Same.new b,zby w b (RepL.two (by rw[Rep,yh]) k)⟩
theorem itd_z{k C:CQ}{l1:ac}{ys:List D}(W:Wd K cl α m H)(h:zjP K cl k α H l1 vs)(h':zjP K cl C α H l2 us)(r:RepL K α H xs vs)(r':RepL K α H ys us)(hl:xs.length<=ys.length):ItD K cl α H (zm1 k C K l1 l2) (zdZ xs ys):=fun i a m1 l E w=>by
 have sq:=h a m1 l E w;have s:=h' a m1 l E w;refine⟨fun d e=>?_,fun e=>⟨vs,sq,by rw[e,zhy _ _ hl,r.length]⟩⟩;obtain⟨x,y,z,t,rfl⟩:=zhz xs ys i d e;obtain⟨v,f,q⟩:=(r.mono W E).get z;obtain⟨u,c,p⟩:=(r'.mono W E).get t;refine⟨⟨vs,us,v,u,sq,s,f,c⟩,fun x A y=>?_⟩;obtain⟨T,x,y,b,rfl,o,n,rfl⟩:=y;have j:=o vs sq;have g:=n us s;rw[f]at j;rw[c]at g;cases j;cases g;exact⟨Same.new b,zby w b (RepL.two q p)⟩
theorem itd_z3{l1 l3:ac}{ys Z:List D}{ws:List V}(W:Wd K cl α m H)(h:zjP K cl SqT α H l1 vs)(h':zjP K cl SqT α H l2 us)(f:zjP K cl SqT α H l3 ws)(r:RepL K α H xs vs)(r':RepL K α H ys us)(R:RepL K α H Z ws)(hl:xs.length<=ys.length)(c:xs.length<=Z.length):ItD K cl α H (zl2 K l1 l2 l3) (zcG xs ys Z):=fun i a m1 g E b=>by
 have sq:=h a m1 g E b;have S:=h' a m1 g E b;have s:=f a m1 g E b;refine⟨fun d e=>?_,fun e=>⟨vs,sq,by rw[e,zim _ _ _ hl c,r.length]⟩⟩;obtain⟨x,y,z,L,J,F,rfl⟩:=zin xs ys Z i d e;obtain⟨v,n,I⟩:=(r.mono W E).get L;obtain⟨u,l,G⟩:=(r'.mono W E).get J;obtain⟨w,k,C⟩:=(R.mono W E).get F;refine⟨⟨vs,us,ws,v,u,w,sq,S,s,n,l,k⟩,fun x M y=>?_⟩;obtain⟨T,x,y,z,j,rfl,B,A,t,rfl⟩:=y;have q:=B vs sq;have p:=A us S;have o:=t ws s;rw[n]at q;rw[l]at p;rw[k]at o;cases q;cases p;cases o;exact⟨Same.new j,zby b j (RepL.append (RepL.two I G) (RepL.one C))⟩
theorem zd2(W:Wd K cl α m H)(h:SqT K H l vs):zjP K cl SqT α H l vs:=fun a m1 b E w=>E.sqt W h
theorem znp(n:l∉α)(h:Rd H l (.lst vs)):zjP K cl SqL α H l vs:=fun a m1 b E W=>.inl (E.rd h n)
end
section
variable{c e:am}{fr:AV}
theorem zdt(j:QE X cl ex e fa):QI X cl ex tg e (aIt fa) :=
 ⟨PI.weak (PI.or (znY j.out) (PI.or (pi_tup j.out) (pi_txt j.out))) fun σ H R k=>ex3 k fun α ρ m W hr q=>by
  unfold aIt at q;cases b:fa ρ m with
  |bad=>rw[b]at q;exact q.elim|exc c m1=>exact .inl (tD.exc W hr b q)|ok d m1=>
   rw[b]at q;cases d with
   |lst ds=>
    refine .inl (tD.at W hr b fun a f v E w hr1 r=>?_);rw[Rep]at r;obtain⟨l,vs,rfl,n,h,g⟩:=r;exact⟨l,rfl,⟨vs,.inl h⟩,q a f E w _ (itd_l w n h g)⟩
   |tup ds=>
    refine .inr (.inl (tD.at W hr b fun a f v E w hr1 r=>?_));rw[Rep]at r;obtain⟨l,vs,rfl,h,g⟩:=r;exact⟨l,rfl,⟨vs,h.sq⟩,q a f E w _ (itd_t w h.sq g)⟩
   |str z=>
    refine .inr (.inr (tD.at W hr b fun a f v E w hr1 r=>?_));rw[Rep]at r;exact⟨z,r,q a f E w _ (itd_f fun i α H=>by rw[Rep];rfl)⟩
   |scr ds=>
    refine .inl (tD.at W hr b fun a f v E w hr1 r=>?_);rw[Rep]at r;obtain⟨l,vs,rfl,h,g⟩:=r;exact⟨l,rfl,⟨vs,h.sq⟩,q a f E w _ (itd_s w h g)⟩
   |_=>exact q.elim⟩
theorem zcC(f:Gl X "range")(hm:X.mg "range" = none)(ha:QA X cl ex [a] fr)(hs:autoParam (ap [a] X.env=[(ai,eval a X.env)]) AutoP.a3._auto_1):QI X cl ex tg (.Call (.Name "range" p) [a] [] pos) (zhv zij fr) :=
 ⟨PI.weak (znX f hm ha.out hs) fun σ H R e=>ex3 e fun α ρ m W hr q=>tDA.use W hr q fun c m1 i d v E w hr1 b Q=>by
  rw[znJ]at Q;unfold zsv at Q;split at Q
  ·obtain⟨h,g⟩:=PQ.if Q;rw[RepL]at b;obtain⟨v,r,rfl,a1,a2⟩:=b;rw[Rep]at a1;rw[RepL]at a2;subst a1 a2;exact⟨_,rfl,h.1,h.2,PQ.ok w g _ itd_r⟩
  ·exact Q.elim⟩
theorem znP(g:Gl X "range")(hm:X.mg "range" = none)(ha:QA X cl ex [a,b] fr)(hs:autoParam (ap [a,b] X.env=[(ai,eval a X.env),(ai,eval b X.env)]) AutoP.a3._auto_1)(h:autoParam (ap [b] X.env=[(ai,eval b X.env)]) AutoP.a3._auto_1):QI X cl ex tg (.Call (.Name "range" p) [a,b] [] pos) (zhv rng2 fr) :=
 ⟨PI.weak (znW g hm ha.out hs h) fun σ H R f=>ex3 f fun α ρ m W hr q=>tDA.use W hr q fun e m1 k d v E w hr1 c Q=>by
  rw[zkc]at Q;unfold zsu at Q;split at Q
  ·obtain⟨j,i⟩:=PQ.if Q;rw[RepL]at c;obtain⟨v,r,rfl,a1,c⟩:=c;rw[RepL]at c;obtain⟨V,r',rfl,a2,c⟩:=c;rw[RepL]at c;rw[Rep]at a1 a2;subst a1 a2 c;exact⟨_,_,rfl,j,PQ.ok w i _ itd_r⟩
  ·exact Q.elim⟩
variable{elts:List am}{kt:Nat}{pt:ax}
theorem zd8(j:Gl X "enumerate")(hm:X.mg "enumerate" = none)(i:QE X cl ex e fa)(hs:autoParam (ap [e] X.env=[(ai,eval e X.env)]) AutoP.a3._auto_1):QI X cl ex (.Tuple elts kt pt) (.Call (.Name "enumerate" p) [e] [] pos) (zfB fa) :=
 ⟨PI.weak (PI.or (zn0 j hm i.out hs) (znZ j hm i.out hs)) fun σ H R k=>ex3 k fun α ρ m W hr q=>by
  unfold zfB at q;cases h:fa ρ m with
  |bad=>rw[h]at q;exact q.elim|exc c m1=>exact .inl (tD.exc W hr h q)|ok d m1=>
   rw[h]at q;cases d with
   |lst ds=>
    refine .inl (tD.at W hr h fun a g v E w hr1 r=>?_);rw[Rep]at r;obtain⟨l,vs,rfl,n,b,f⟩:=r;exact⟨l,vs,rfl,.inl b,q a g E w _ (itd_e w (znp n b) f)⟩
   |tup ds=>
    refine .inr (tD.at W hr h fun a g v E w hr1 r=>?_);rw[Rep]at r;obtain⟨l,vs,rfl,b,f⟩:=r;exact⟨l,vs,rfl,b.sq,q a g E w _ (itd_e w (zd2 w b.sq) f)⟩
   |_=>exact q.elim⟩
theorem ziF(D:Gl X "zip")(hm:X.mg "zip" = none)(i:QE X cl ex a fa)(g:QE X cl ex b fb)(hs:autoParam (ap [a,b] X.env=(ai,eval a X.env)::ap [b] X.env) AutoP.a3._auto_1)(s:autoParam (ap [b] X.env=[(ai,eval b X.env)]) AutoP.a3._auto_1):QI X cl ex (.Tuple elts kt pt) (.Call (.Name "zip" p) [a,b] [] pos) (zr6 fa fb) :=
 ⟨PI.weak (PI.or (znV D hm i.out g.out hs s) (znU D hm i.out g.out hs s)) fun σ H R G=>ex3 G fun α ρ m W hr q=>by
  unfold zr6 at q;cases f:fa ρ m with
  |bad=>rw[f]at q;exact q.elim|exc c m1=>exact .inl (tD.exc W hr f q)|ok d m1=>
   cases h:fb ρ m1 with
   |bad=>rw[f]at q;exact absurd q (by show ¬ PQ X.K cl ex ((fb ρ m1).bind _) _ _ _;rw[h];exact fun z=>z)|exc c m2=>
    refine .inl (tD.at W hr f fun o F v t l hr1 e=>?_);rw[f]at q;exact tD.exc (k:=fun y m2=>zm7 d y m2) l hr1 h (PQ.mono t q fun _ _ _ _ _ _ z=>z)
   |ok I m2=>
    rw[f]at q;have C:PQ X.K cl ex ((fb ρ m1).bind fun y m2=>zm7 d y m2) α H fun ds α' _ H'=>∀J,ItD X.K cl α' H' J ds->R J H':=q;rw[h]at C;have Q:PQ X.K cl ex (zm7 d I m2) α H fun ds α' _ H'=>∀J,ItD X.K cl α' H' J ds->R J H':=C;unfold zm7 at Q;split at Q
    ·obtain⟨hl,A⟩:=PQ.if Q;refine .inr (tD.at W hr f fun o F v t l hr1 e=>tD.at l hr1 h fun j B V E w hr2 r=>?_);have e:=e.mono l E;rw[Rep]at e r;obtain⟨l1,vs,rfl,i,x⟩:=e;obtain⟨l2,us,rfl,g,u⟩:=r;exact⟨l1,l2,vs,us,rfl,i.sq,g.sq,A j B (t.trans E) w _ (itd_z w (zd2 w i.sq) (zd2 w g.sq) x u hl)⟩
    ·obtain⟨hl,A⟩:=PQ.if Q;refine .inl (tD.at W hr f fun o F v t l hr1 e=>tD.at l hr1 h fun j B V E w hr2 r=>?_);have e:=e.mono l E;rw[Rep]at e;rw[Rep]at r;obtain⟨l1,vs,rfl,i,x⟩:=e;obtain⟨l2,us,rfl,n,g,u⟩:=r;exact⟨l1,l2,vs,us,rfl,i.sq,.inl g,A j B (t.trans E) w _ (itd_z w (zd2 w i.sq) (znp n g) x u hl)⟩
    ·exact Q.elim⟩
theorem zsB(D:Gl X "zip")(hm:X.mg "zip" = none)(i:QE X cl ex a fa)(g:QE X cl ex b fb)(h:QE X cl ex c fc)(hs:autoParam (ap [a,b,c] X.env=(ai,eval a X.env)::ap [b,c] X.env) AutoP.a3._auto_1)(k:autoParam (ap [b,c] X.env=(ai,eval b X.env)::ap [c] X.env) AutoP.a3._auto_1)(j:autoParam (ap [c] X.env=[(ai,eval c X.env)]) AutoP.a3._auto_1):QI X cl ex (.Tuple elts kt pt) (.Call (.Name "zip" p) [a,b,c] [] pos) (ztR fa fb fc) :=
 ⟨PI.weak (zqC D hm i.out g.out h.out hs k j) fun σ H R C=>ex3 C fun α ρ m W hr q=>
  tD.use W hr q fun t m1 M d v N n hr1 f B=>tD.use n hr1 B fun s m2 L J G F l hr2 r A=>tD.use l hr2 A fun o m3 K I V E w hr3 e Q=>by
   unfold zip3 at Q;split at Q
   ·obtain⟨hl,z⟩:=PQ.if Q;have f:=f.mono n (F.trans E);have r:=r.mono l E;rw[Rep]at f r e;obtain⟨l1,vs,rfl,i,y⟩:=f;obtain⟨l2,us,rfl,g,x⟩:=r;obtain⟨l3,ws,rfl,h,u⟩:=e;exact⟨l1,l2,l3,vs,us,ws,rfl,i.sq,g.sq,h.sq,PQ.ok w z _ (itd_z3 w (zd2 w i.sq) (zd2 w g.sq) (zd2 w h.sq) y x u hl.1 hl.2)⟩
   ·exact Q.elim⟩
end
def zjw(f:Fl)(m:Sto):Res D:=match f with
 |.nx _=>.ok .non m|.rt d=>.ok d m|_=>.bad
def zaZ(n:Nat)(b:SV):List D->Sto->Res D:=fun ds m=>(b (ds.map aa++yp (n-ds.length) none) m).bind zjw
def spD(K:ya)(cl:af->ac)(ex:XD)(n:Nat)(g:List D->Sto->Res D):Sp:=fun vs H Q _=>vs.length=n/\∃α m ds,Wd K cl α m H/\RepL K α H ds vs/\PQ K cl ex (g ds m) α H fun d α' _ H'=>∀v,Rep K α' H' d v->Q v H'
variable{N:List af}
theorem zg2:∀{ds:List D}{vs:List V},RepL K α H ds vs->RepE K α H (ds.map aa++yp (N.length-ds.length) none) (L2.start N vs):=by
 intro ds vs r;unfold L2.start;rw[r.length];refine RepE.more ⟨by rw[yd,yd,r.length],fun i d e=>?_⟩ _;rw[yI]at e;cases h:ds[i]? with
 |none=>rw[h]at e;cases e|some d'=>
  rw[h]at e;cases e;obtain⟨v,b,a⟩:=r.get h;exact⟨v,by rw[yI,b];rfl,a⟩
theorem fn_d{b:SV}{Q:VK}{E:XK}(h:spD K cl ex n (zaZ N.length b) vs H Q E):tDS K cl ex b { nx:=fun _ H'=>Q .non H',rt:=Q } (L2.start N vs) H:=by
 obtain⟨_,α,m,ds,W,r,q⟩:=h;refine⟨α,_,m,W,zg2 r,PQ.mono (Ext.refl W) q.bind fun f c m1 e g w a=>?_⟩;cases f with
 |nx ρ=>exact fun σ _=>PQ.ok w a _ (by rw[Rep])|rt d=>exact PQ.ok w a|bk ρ=>exact a.elim|ct ρ=>exact a.elim
def X0:XD:=fun _ _ _ _=>False
theorem zsI{e:am}{fr:AV}{x:af}{k:Nat}{f:ac}{fd:aJ}{ps:List af}{g:List D->Sto->Res D}(F:FnOk X.prog X.w X.K X.mg X.base CX0 k f fd ps (spD X.K cl X0 n g))(hn:n=(e::es).length)(hr:Room k X.A)(q:Gl X x)(hm:X.mg x=aa (.ref f))(l:yaD X.K (.ref f)=ae)(t:Binds X.K fd ps [])(ha:QA X cl X0 (e::es) fr)(a:∀ρ m ds m1,fr ρ m = .ok ds m1->ds.length=(e::es).length)(j:autoParam ((x==("__debug__" : af))=ai) AutoP.a1._auto_1)(s:autoParam (ap (e::es) X.env=(ai,eval e X.env)::ap es X.env) AutoP.a3._auto_1)(i:autoParam ((aC pos (ap es X.env)).any (·.1)=ai) AutoP.a3._auto_1) : QE X cl X0 (.Call (.Name x p) (e::es) [] pos) (eFn g fr) :=
 ⟨PE.weak (zs3 (E:=E0) F hr q hm l t .nil zqI ha.out j s i) fun σ H Q o=>ex3 o fun α ρ m W hr h=>by
  unfold eFn at h;cases b:fr ρ m with
  |bad=>rw[b]at h;exact h.elim|exc c m1=>exact tDA.exc W hr b h|ok ds m1=>
   rw[b]at h;refine tDA.at W hr b fun d y v u w hr1 r=>?_;refine⟨?_,d,m1,ds,w,by rw[yaf];exact r,PQ.mono u h fun _ _ _ _ _ _ z=>z⟩;rw[yaf,<- r.length,a ρ m ds m1 b,hn]⟩
theorem aNil_len:∀ρ m ds m1,zak ρ m = .ok ds m1->ds.length=([]:List am).length:=fun ρ m ds m1 h=>by cases h;rfl
theorem aCons_len{fr:AV}{e:am}(h:∀ρ m ds m1,fr ρ m = .ok ds m1->ds.length=es.length):∀ρ m ds m1,zac fa fr ρ m = .ok ds m1->ds.length=(e::es).length:=fun ρ m ds m1 q=>by
 unfold zac at q;cases H:fa ρ m with
 |ok x m2=>
  rw[H]at q;have q:((fr ρ m2).bind fun xs m3=>Res.ok (x::xs) m3) = .ok ds m1:=q;cases hr:fr ρ m2 with
  |ok xs m3=>rw[hr]at q;cases q;rw[yx,yx,h ρ m2 xs _ hr]|_=>rw[hr]at q;cases q
 |_=>rw[H]at q;cases q
end MD
namespace L2
open PySem PySem.Spec PyProof.Rows
section
variable{X:Cx}
def rCatQ(K:ya):R2:=fun x y H Q=>∃a b xs ys,x = .ref a/\y = .ref b/\MD.TupAt K H a xs/\MD.TupAt K H b ys/\xs.length+ys.length<=sizeLine/\∀r H',MD.TupAt K H' r (xs++ys)->Same H H'->Q (.ref r) H'
end
end L2
namespace MD
open PySem PySem.Spec PyProof.Rows L2
def zaP(x y:D)(m:Sto):Res D:=match x,y with
 |.int i,.int j=>.ok (.int (i+j)) m|.str a,.str b=>if a.length+b.length<=sizeLine then .ok (.str (a++b)) m else .bad|.tup a,.tup b=>if a.length+b.length<=sizeLine then .ok (.tup (a++b)) m else .bad|.lst a,.lst b=>if a.length+b.length<=sizeLine then .ok (.lst (a++b)) m else .bad|_,_=>.bad
def zcd(x y:D)(m:Sto):Res D:=match x,y with
 |.int i,.int j=>.ok (.int (i-j)) m|_,_=>.bad
def mulR(x y:D)(m:Sto):Res D:=match x,y with
 |.int i,.int j=>if (-(2^64)<i/\i<2^64)∨(-(2^64)<j/\j<2^64) then .ok (.int (i*j)) m else .bad|.str z,.int n=>if 0<=n/\n<=1000/\z.length<=1000 then .ok (.str (Txt.mul z n)) m else .bad|.tup [d],.int n=>if 1<=n/\n<=1000 then .ok (.tup (yp n.toNat d)) m else .bad|_,_=>.bad
theorem zou:∃f:D->D->Sto->Res D,f=mulR:=⟨_,rfl⟩
def zcY:D->D->Sto->Res D:=ya2 zou
theorem zgd:zcY=mulR:=ya3 zou
def ztE(x y:D)(m:Sto):Res D:=match x,y with
 |.int i,.int j=>if 0<j/\j<2^64 then .ok (.int (i/j)) m else .bad|_,_=>.bad
theorem zlK:∃f:D->D->Sto->Res D,f=ztE:=⟨_,rfl⟩
def zic:D->D->Sto->Res D:=ya2 zlK
theorem zlL:zic=ztE:=ya3 zlK
def zdu(x y:D)(m:Sto):Res D:=match x,y with
 |.int i,.int j=>if 0<j then .ok (.int (i%j)) m else .bad|_,_=>.bad
def powR(x y:D)(m:Sto):Res D:=match x,y with
 |.int i,.int j=>if 0<=j/\j<=1000000/\i.natAbs<2^64 then .ok (.int (i^j.toNat)) m else .bad|_,_=>.bad
theorem znQ:∃f:D->D->Sto->Res D,f=powR:=⟨_,rfl⟩
def powD:D->D->Sto->Res D:=ya2 znQ
theorem zkg:powD=powR:=ya3 znQ
def shlR(x y:D)(m:Sto):Res D:=match x,y with
 |.int i,.int j=>if 0<=j/\j<=1000000/\i.natAbs<2^64 then .ok (.int (i*2^j.toNat)) m else .bad|_,_=>.bad
theorem zns:∃f:D->D->Sto->Res D,f=shlR:=⟨_,rfl⟩
def zfQ:D->D->Sto->Res D:=ya2 zns
theorem znt:zfQ=shlR:=ya3 zns
def shrD(x y:D)(m:Sto):Res D:=match x,y with
 |.int i,.int j=>if 0<=j then .ok (.int (i/2^j.toNat)) m else .bad|_,_=>.bad
def andD(x y:D)(m:Sto):Res D:=match x,y with
 |.int i,.int j=>.ok (.int (ybn i j)) m|_,_=>.bad
def ztf(x:D)(m:Sto):Res D:=match x with
 |.int i=>.ok (.int (-i)) m|_=>.bad
variable{X:Cx}{K:ya}{cl:af->ac}{ex:XD}{α : List ac}{H:Hp}{i:Int}{z:af}
section
theorem zfy:Rep K α H (.int i) (.int i):=by rw[Rep]
theorem repS{i:af}:Rep K α H (.str i) (.str i):=by rw[Rep]
theorem zf2{i:Bool}:Rep K α H (.bl i) (.bl i):=by rw[Rep]
theorem repN:Rep K α H .non .non:=by rw[Rep]
theorem zaT:OpD K cl ex (rI0 fun i j=>.int (i-j)) zcd:=fun α m H x y V v Q W R r h=>by
 unfold zcd at h;split at h
 ·rw[Rep]at R r;exact⟨_,_,R,r,PQ.ok W h _ zfy⟩
 ·exact h.elim
theorem zkv:OpD K cl ex (rI (fun _ j=>0<j/\j<2^64) fun i j=>.int (i/j)) zic:=fun α m H x y V v Q W R r h=>by
 rw[zlL]at h;unfold ztE at h;split at h
 ·rw[Rep]at R r;obtain⟨a,h⟩:=PQ.if h;exact⟨_,_,R,r,a,PQ.ok W h _ zfy⟩
 ·exact h.elim
theorem zbq:OpD K cl ex (rI (fun _ j=>0<j) fun i j=>.int (i%j)) zdu:=fun α m H x y V v Q W R r h=>by
 unfold zdu at h;split at h
 ·rw[Rep]at R r;obtain⟨a,h⟩:=PQ.if h;exact⟨_,_,R,r,a,PQ.ok W h _ zfy⟩
 ·exact h.elim
theorem zrL:OpD K cl ex (rI CPow fun i j=>.int (i^j.toNat)) powD:=fun α m H x y V v Q W R r h=>by
 rw[zkg]at h;unfold powR at h;split at h
 ·rw[Rep]at R r;obtain⟨a,h⟩:=PQ.if h;exact⟨_,_,R,r,a,PQ.ok W h _ zfy⟩
 ·exact h.elim
theorem zb5:OpD K cl ex (rI CPow fun i j=>.int (i*2^j.toNat)) zfQ:=fun α m H x y V v Q W R r h=>by
 rw[znt]at h;unfold shlR at h;split at h
 ·rw[Rep]at R r;obtain⟨a,h⟩:=PQ.if h;exact⟨_,_,R,r,a,PQ.ok W h _ zfy⟩
 ·exact h.elim
theorem od_shr:OpD K cl ex (rI (fun _ j=>0<=j) fun i j=>.int (i/2^j.toNat)) shrD:=fun α m H x y V v Q W R r h=>by
 unfold shrD at h;split at h
 ·rw[Rep]at R r;obtain⟨a,h⟩:=PQ.if h;exact⟨_,_,R,r,a,PQ.ok W h _ zfy⟩
 ·exact h.elim
theorem od_and:OpD K cl ex (rI0 fun i j=>.int (ybn i j)) andD:=fun α m H x y V v Q W R r h=>by
 unfold andD at h;split at h
 ·rw[Rep]at R r;exact⟨_,_,R,r,PQ.ok W h _ zfy⟩
 ·exact h.elim
theorem zru:UnD K cl ex (rU fun i=>.int (-i)) ztf:=fun α m H x v Q W r h=>by
 unfold ztf at h;split at h
 ·rw[Rep]at r;exact⟨_,r,PQ.ok W h _ zfy⟩
 ·exact h.elim
theorem zs8:OpR X (aL .Add) (rCatQ X.K):=by
 intro pins s σ H x y v u Q I R r h;obtain⟨a,b,xs,ys,rfl,rfl,ha,g,o,q⟩:=h;by_cases j:xs=[]
 ·subst j;cases R;cases r;obtain⟨its,m,P,_⟩:=I.tuple ha.sq;obtain⟨i,w,p2,_⟩:=I.tuple g.sq;cases m;obtain⟨⟨cls,dd,data,sl⟩,k,l,n,hd⟩:=id P;obtain⟨⟨C,D,data2,S⟩,c,f,N,d⟩:=id p2;simp only at l hd f d;subst l hd f d;exact concat_meets ⟨_,k,rfl⟩ ⟨_,c,rfl⟩ cy cA ycz ycA (ycB _ _)
   (tuple_addW0 a b #[] i.toArray n N dd D sl S rfl) ⟨k,c,⟨.ref b,H,I,rfl,q b H (by rw[yc5];exact g) (L2.Same.refl H)⟩⟩
 ·refine zs6 pins s σ H (.ref a) (.ref b) v u Q I R r ⟨a,b,xs,ys,rfl,rfl,ha.sq,g.sq,j,o,fun e=>?_,fun _ p t=>?_⟩
  ·subst e;exact q a H (by rw[yaf];exact ha) (L2.Same.refl H)
  ·exact q p _ (.inl zaF) (MD.Same.new t)
def rCatR:R2:=fun x y H Q=>∃l b xs zs,x = .ref l/\y = .ref b/\Rd H l (.lst xs)/\Rd H b (.lst zs)/\xs.length+zs.length<=sizeLine/\∀p,H p=none->Q (.ref p) (upd H p (.lst (xs++zs)))
theorem zs7:OpR X (aL .Add) rCatR:=by
 intro pins s σ H x y v u Q I c a h;obtain⟨l,b,xs,Z,rfl,rfl,d,f,k,q⟩:=h;cases c;cases a;obtain⟨z,its,n,r,e⟩:=d.ok I.hok;obtain⟨j,i,N,R,g⟩:=f.ok I.hok;have hl:=r.length;have hl2:=R.length;refine PySem.P.add_list e g ?_ (by rw[yG,yG];omega);have E:its.toArray++i.toArray=(its++i).toArray:=by simp
 rw[E];exact⟨.ref _,_,I.lnew (t':=s.toks) (r.append R) (by rw[yD];omega),rfl,q _ I.fresh⟩
def rAddA(K:ya):R2:=fun x y H Q=>(rI0 (fun i j=>.int (i+j))) x y H Q∨(∃i j,x = .str i/\y = .str j/\i.length+j.length<=sizeLine/\Q (.str (i++j)) H)∨rCatQ K x y H Q∨rCatR x y H Q
theorem zaq:OpR X (aL .Add) (rAddA X.K):=OpR.or op_add (OpR.or zmo (OpR.or zs8 zs7))
theorem zaw:OpD K cl ex (rAddA K) zaP:=fun α m H x y V v Q W c R h=>by
 unfold zaP at h;split at h
 ·rw[Rep]at c R;exact .inl ⟨_,_,c,R,PQ.ok W h _ zfy⟩
 ·rw[Rep]at c R;obtain⟨f,h⟩:=PQ.if h;exact .inr (.inl ⟨_,_,c,R,f,PQ.ok W h _ repS⟩)
 ·obtain⟨f,h⟩:=PQ.if h;rw[Rep]at c R;obtain⟨a,xs,rfl,i,e⟩:=c;obtain⟨b,ys,rfl,g,d⟩:=R;refine .inr (.inr (.inl ⟨a,b,xs,ys,rfl,rfl,i,g,by rw[<- e.length,<- d.length];exact f,fun r H' hr s=>?_⟩));exact PQ.okS W s h _ (by rw[Rep];exact⟨r,_,rfl,hr,(RepL.append e d).mono W (Ext.of_same W s)⟩)
 ·obtain⟨f,h⟩:=PQ.if h;rw[Rep]at c R;obtain⟨a,xs,rfl,n1,i,e⟩:=c;obtain⟨b,ys,rfl,n,g,d⟩:=R;refine .inr (.inr (.inr ⟨a,b,xs,ys,rfl,rfl,i,g,by rw[<- e.length,<- d.length];exact f,fun p j=>?_⟩));exact PQ.okS W (Same.new j) h _ (zc2 W j (RepL.append e d))
 ·exact h.elim
def rMulQ(K:ya):R2:=fun x y H Q=>∃a v n,x = .ref a/\y = .int n/\TupAt K H a [v]/\1<=n/\n<=1000/\∀r H',TupAt K H' r (yp n.toNat v)->L2.Same H H'->Q (.ref r) H'
theorem zs5:OpR X (aL .Mult) (rMulQ X.K):=by
 intro pins s σ H x y v u Q I R r h;obtain⟨a,w,n,rfl,rfl,ha,n1,N,q⟩:=h;cases R;obtain⟨t,rfl⟩:=r;obtain⟨its,g,p,_⟩:=I.tuple ha.sq;obtain⟨u,rfl,f⟩:=zcA g;obtain⟨⟨cls,dd,data,sl⟩,c,d,k,hd⟩:=id p;simp only at d hd;subst d hd;refine wpAny_binaryOp_repeat_ref (by decide) ⟨_,c,rfl⟩ (fun s'=>cj s' n t) zfA F.fills_int_mul F.slot_int_rmul ziB F.slot_int_index.lookup
  (br F.slot_int_rmul (cj s n t) F.entry_int_rmul (F.args_int_rmul_2 _ _) (zjf n t a _ k dd sl) ⟨c,rfl,⟨_,c,rfl⟩,?_⟩)
 by_cases e:n=1
 ·subst e;exact br yb1 ⟨_,c,rfl⟩ F.entry_tuple_mul (F.args_tuple_mul_2 _ _) (zp5 a u t k dd sl) ⟨c,⟨.ref a,H,I,rfl,q a H ha (L2.Same.refl H)⟩⟩
 ·refine br yb1 ⟨_,c,rfl⟩ F.entry_tuple_mul (F.args_tuple_mul_2 _ _) (zp4 a u n t k dd sl (by omega) N) ⟨c,?_⟩;rw[zlJ];have z:(yp n.toNat w).length<=sizeLine:=by
   rw[ybt];have:sizeLine=16777216:=by decide
   omega
  exact⟨.ref s.heap.objs.size,upd H s.heap.objs.size (.tup (yp n.toNat w)),I.laid (t':=s.toks) (fun b o e=>ye _ e) (yb _) ⟨z,yp n.toNat u,zk4 f _,⟨_,yw _ rfl,rfl,0,rfl⟩,_,yw _ rfl,rfl⟩,rfl,q _ _ (.inl zaF) (Same.new (I.hok.fresh (yb _)))⟩
theorem zky{n:Int}(h:0<=n/\n<=1000/\z.length<=1000):MulOk z n:=by
 obtain⟨f,e,a⟩:=h;refine⟨by simp;omega,fun H _=>?_,fun H _=>?_⟩
 ·have d:(1000:Int)<=(2^63-1)/n:=(Int.le_ediv_iff_mul_le (by omega)).mpr (by omega);omega
 ·have c:z.length*n.toNat<=1000*1000:=Nat.mul_le_mul a (by omega);have b:=bo;unfold Builtin.Str.tooLong;simp;omega
def rMulA(K:ya):R2:=fun x y H Q=>(rI CMul fun i j=>.int (i*j)) x y H Q∨(∃z n,x = .str z/\y = .int n/\MulOk z n/\Q (.str (Txt.mul z n)) H)∨rMulQ K x y H Q
theorem zaW:OpR X (aL .Mult) (rMulA X.K):=OpR.or op_mul (OpR.or zmn zs5)
theorem RepL.rep{α : List ac}{H:Hp}{d:D}{v:V}(h:Rep K α H d v):∀n:Nat,RepL K α H (yp n d) (yp n v)
 |0=>by simp[RepL]|n+1=>by
  rw[yb2,yb2,RepL];exact⟨v,_,rfl,h,RepL.rep h n⟩
theorem zbp:OpD K cl ex (rMulA K) zcY:=fun α m H x y i V Q W b R h=>by
 rw[zgd]at h;unfold mulR at h;split at h
 ·rw[Rep]at b R;obtain⟨c,h⟩:=PQ.if h;exact .inl ⟨_,_,b,R,c,PQ.ok W h _ zfy⟩
 ·rw[Rep]at b;rw[Rep]at R;obtain⟨c,h⟩:=PQ.if h;exact .inr (.inl ⟨_,_,b,R,zky c,PQ.ok W h _ repS⟩)
 ·obtain⟨c,h⟩:=PQ.if h;rw[Rep]at b;rw[Rep]at R;obtain⟨a,xs,rfl,g,e⟩:=b;rw[RepL]at e;obtain⟨v,r,rfl,f,d⟩:=e;rw[RepL]at d;subst d;refine .inr (.inr ⟨a,v,_,rfl,R,g,c.1,c.2,fun r H' hr s=>?_⟩);exact PQ.okS W s h _ (by rw[Rep];exact⟨r,_,rfl,hr,(RepL.rep f _).mono W (Ext.of_same W s)⟩)
 ·exact h.elim
end
mutual
def py:D->PyData
 |.bl b=>.bool b|.int i=>.int i|.str x=>.str x|.tup ds=>.tuple (pyL ds)|.lst ds=>.list (pyL ds)|_=>.none
def pyL:List D->List PyData
 |[]=>[]|d::r=>py d::pyL r
end
mutual
def zf3:D->Bool
 |.non=>ae|.bl _=>ae|.int _=>ae|.str _=>ae|.tup ds=>pyOkL ds|.lst ds=>pyOkL ds|_=>ai
def pyOkL:List D->Bool
 |[]=>ae|d::r=>zf3 d&&pyOkL r
end
def zfI(d:D):Bool:=zf3 d&&SeqAt.shaped (py d)
def eqB(x y:D):Option Bool:=match x,y with
 |.int i,.int j=>aa (decide (i=j))|.str a,.str b=>aa (decide (a=b))|.bl a,.bl b=>aa (decide (a=b))|.non,.non=>aa ae|.non,.int _=>aa ai|.non,.str _=>aa ai|.non,.bl _=>aa ai|.int _,.non=>aa ai|.str _,.non=>aa ai|.bl _,.non=>aa ai|.int _,.str _=>aa ai|.str _,.int _=>aa ai|.bl _,.str _=>aa ai|.str _,.bl _=>aa ai|x,y=>if zfI x&&zfI y then aa (PyData.eqv (py x) (py y)) else none
def rs(m:Sto)(d:D):D:=match d with
 |.ob k=>match m[k]? with
  |some (.lst xs)=>.lst xs|_=>.ob k
 |d=>d
def eqD(x y:D)(m:Sto):Res D:=match eqB (rs m x) (rs m y) with
 |some b=>.ok (.bl b) m|none=>.bad
def neD(x y:D)(m:Sto):Res D:=match eqB (rs m x) (rs m y) with
 |some b=>.ok (.bl (!b)) m|none=>.bad
variable{σ : L2.St}{v:V}{m:Sto}{y:D}{vx vy:V}{b:Bool}
section
variable{pins:List (ac×av)}{s:ak}
mutual
theorem zch(I:Inv X pins σ H s):∀{d:D}{v:V}{u:ag},zf3 d=ae->Rep X.K α H d v->RelV v u->∃as,Reads s.heap u (py d) as
 |.non,v,u,_,r,R=>by rw[Rep]at r;subst r;cases R;exact⟨_,.none⟩|.bl b,v,u,_,r,R=>by rw[Rep]at r;subst r;cases R;exact⟨_,.bool b⟩|.int i,v,u,_,r,R=>by rw[Rep]at r;subst r;obtain⟨t,rfl⟩:=R;exact⟨_,.int i t⟩
 |.str x,v,u,_,r,R=>by rw[Rep]at r;subst r;obtain⟨t,rfl⟩:=R;exact⟨_,.str x t⟩
 |.tup ds,v,u,ok,r,R=>by
  rw[Rep]at r;obtain⟨a,xs,rfl,f,e⟩:=r;cases R;obtain⟨its,c,⟨o,j,g,n,E⟩,_⟩:=I.tuple f.sq;obtain⟨as,h⟩:=rep_readsL I (by rw[zf3]at ok;exact ok) e c;exact⟨as,.tuple j g E (by simpa using h)⟩
 |.lst ds,v,u,ok,r,R=>by
  rw[Rep]at r;obtain⟨a,xs,rfl,_,f,e⟩:=r;cases R;obtain⟨its,c,⟨o,n,j,g,_,E⟩,_⟩:=I.list (xs:=xs) (.inl f);obtain⟨as,h⟩:=rep_readsL I (by rw[zf3]at ok;exact ok) e c;exact⟨_,.list j g E (by simpa using h)⟩
 |.flt _,_,_,ok,_,_=>by simp[zf3]at ok|.byt _,_,_,ok,_,_=>by simp[zf3]at ok|.exn _ _,_,_,ok,_,_=>by simp[zf3]at ok|.ob _,_,_,ok,_,_=>by simp[zf3]at ok|.scr _,_,_,ok,_,_=>by simp[zf3]at ok
theorem rep_readsL(I:Inv X pins σ H s):∀{ds:List D}{vs:List V}{us:List ag},pyOkL ds=ae->RepL X.K α H ds vs->Vals vs us->∃as,ReadsAll s.heap us (pyL ds) as
 |[],vs,us,_,r,R=>by rw[RepL]at r;subst r;cases R;exact⟨_,.nil⟩|d::ds,vs,us,ok,r,R=>by
  rw[RepL]at r;obtain⟨v,r',rfl,h1,h2⟩:=r;rw[pyOkL,yL]at ok;cases R with
  |cons a b=>
   obtain⟨as,Q⟩:=zch I ok.1 h1 a;obtain⟨bs,q⟩:=rep_readsL I ok.2 h2 b;exact⟨_,.cons Q q⟩
end
def zqr(K:ya)(f:Bool->Bool):R2:=fun vx vy H Q=>∃x y α,Rep K α H x vx/\Rep K α H y vy/\zfI x=ae/\zfI y=ae/\Q (.bl (f (PyData.eqv (py x) (py y)))) H
theorem zod(c:X.A.units+64<aM):OpR X (aB .Eq) (zqr X.K id):=by
 intro pins s σ H g V v u Q I R r h;obtain⟨x,y,α,b,a,D,d,q⟩:=h;rw[zfI,yL]at D d;obtain⟨as,f⟩:=zch I D.1 b R;obtain⟨bs,e⟩:=zch I d.1 a r;exact eq_dataH f e D.2 d.2 c ⟨.bl _,H,I,rfl,q⟩
theorem zn9(c:X.A.units+64<aM):OpR X (aB .NotEq) (zqr X.K not):=by
 intro pins s σ H g V v u Q I R r h;obtain⟨x,y,α,b,a,D,d,q⟩:=h;rw[zfI,yL]at D d;obtain⟨as,f⟩:=zch I D.1 b R;obtain⟨bs,e⟩:=zch I d.1 a r;exact ne_dataH f e D.2 d.2 c ⟨.bl _,H,I,rfl,q⟩
def rEqA(K:ya):R2:=fun x y H Q=>rEq x y H Q∨zqr K id x y H Q
def rNeA(K:ya):R2:=fun x y H Q=>rNe x y H Q∨zqr K not x y H Q
theorem za0(h:X.A.units+64<aM):OpR X (aB .Eq) (rEqA X.K):=OpR.or op_eq (zod h)
theorem zg7(h:X.A.units+64<aM):OpR X (aB .NotEq) (rNeA X.K):=OpR.or op_ne (zn9 h)
mutual
theorem Rep.bare{K:ya}{α : List ac}{H:Hp}:∀{d:D}{v:V},zf3 d=ae->Rep K α H d v->Rep K [] H d v
 |.non,_,_,h=>by simpa [Rep] using h|.bl _,_,_,h=>by simpa [Rep] using h|.int _,_,_,h=>by simpa [Rep] using h|.str _,_,_,h=>by simpa [Rep] using h|.flt _,_,c,_=>by simp[zf3]at c|.byt _,_,c,_=>by simp[zf3]at c|.exn _ _,_,c,_=>by simp[zf3]at c|.ob _,_,c,_=>by simp[zf3]at c|.scr _,_,c,_=>by simp[zf3]at c|.tup ds,_,c,h=>by
  rw[Rep]at h ⊢;obtain⟨a,xs,e,h1,h2⟩:=h;rw[zf3]at c;exact⟨a,xs,e,h1,RepL.bare c h2⟩
 |.lst ds,_,c,h=>by
  rw[Rep]at h ⊢;obtain⟨a,xs,e,n,h1,h2⟩:=h;rw[zf3]at c;exact⟨a,xs,e,(by simp),h1,RepL.bare c h2⟩
theorem RepL.bare{K:ya}{α : List ac}{H:Hp}:∀{ds:List D}{vs:List V},pyOkL ds=ae->RepL K α H ds vs->RepL K [] H ds vs
 |[],_,_,h=>by rw[RepL]at h ⊢;exact h|_::_,_,c,h=>by
  rw[RepL]at h ⊢;obtain⟨v,r,e,h1,h2⟩:=h;rw[pyOkL,yL]at c;exact⟨v,r,e,Rep.bare c.1 h1,RepL.bare c.2 h2⟩
end
def RepW(K:ya)(α : List ac)(H:Hp)(x:D)(v:V):Prop:=Rep K α H x v∨∃xs a ys,x = .lst xs/\v = .ref a/\H a=aa (.lst ys)/\RepL K α H xs ys
theorem RepW.bare{x:D}(c:zfI x=ae)(h:RepW K α H x v):Rep K [] H x v:=by
 rw[zfI,yL]at c;rcases h with h|⟨xs,a,ys,rfl,rfl,d,b⟩
 ·exact h.bare c.1
 ·rw[Rep];have C:=c.1;rw[zf3]at C;exact⟨a,ys,rfl,(by simp),.inl d,b.bare C⟩
theorem zlg(W:Wd K cl α m H){x:D}(r:Rep K α H x v):RepW K α H (rs m x) v:=by
 unfold rs;split
 ·split
  ·rename_i xs h;rw[Rep]at r;obtain⟨a,d,rfl⟩:=r;obtain⟨ys,c,b⟩:=(show MoRep K cl α H a (.lst xs) from W.at' _ a _ d h);exact .inr ⟨_,a,ys,rfl,rfl,c,b⟩
  ·exact .inl r
 ·exact .inl r
theorem zpg{x:D}(e:eqB x y=aa b)(R:RepW K α H x vx)(r:RepW K α H y vy):(scal vx vy=ae/\decide (vx=vy)=b)∨(zfI x=ae/\zfI y=ae/\PyData.eqv (py x) (py y)=b):=by
 unfold eqB at e;split at e;case h_15=>
  split at e
  ·rename_i h;rw[yL]at h;exact .inr ⟨h.1,h.2,yP e⟩
  ·cases e
 all_goals (
  rcases R with R|⟨_,_,_,z,_⟩;case inr=>cases z
  rcases r with r|⟨_,_,_,z,_⟩;case inr=>cases z
  rw[Rep]at R;rw[Rep]at r;subst R r;refine .inl ⟨rfl,?_⟩;rw[<- yP e];simp)
theorem zbN:OpD K cl ex (rEqA K) eqD:=fun α m H x y V v Q W R r h=>by
 unfold eqD at h;split at h
 ·rename_i b e;have R:=zlg W R;have r:=zlg W r;rcases zpg e R r with⟨c,a⟩|⟨c,a,d⟩
  ·exact .inl ⟨c,by rw[a];exact PQ.ok W h _ zf2⟩
  ·exact .inr ⟨_,_,[],R.bare c,r.bare a,c,a,by rw[d];exact PQ.ok W h _ zf2⟩
 ·exact h.elim
theorem zmE:OpD K cl ex (rNeA K) neD:=fun α m H x y V v Q W R r h=>by
 unfold neD at h;split at h
 ·rename_i b e;have R:=zlg W R;have r:=zlg W r;rcases zpg e R r with⟨c,a⟩|⟨c,a,d⟩
  ·exact .inl ⟨c,by rw[a];exact PQ.ok W h _ zf2⟩
  ·exact .inr ⟨_,_,[],R.bare c,r.bare a,c,a,by rw[d];exact PQ.ok W h _ zf2⟩
 ·exact h.elim
end
def ltS(x y:af):Bool:=decide (x.cps.toList<y.cps.toList)
def ltD(x y:D)(m:Sto):Res D:=match x,y with
 |.int i,.int j=>.ok (.bl (decide (i<j))) m|.str a,.str b=>.ok (.bl (ltS a b)) m|_,_=>.bad
def leD(x y:D)(m:Sto):Res D:=match x,y with
 |.int i,.int j=>.ok (.bl (decide (i<=j))) m|.str a,.str b=>.ok (.bl (!ltS b a)) m|_,_=>.bad
def gtD(x y:D)(m:Sto):Res D:=match x,y with
 |.int i,.int j=>.ok (.bl (decide (j<i))) m|_,_=>.bad
def geD(x y:D)(m:Sto):Res D:=match x,y with
 |.int i,.int j=>.ok (.bl (decide (j<=i))) m|_,_=>.bad
def isB(x y:D):Option Bool:=match x,y with
 |.bl a,.bl b=>aa (a==b)|.non,.non=>aa ae|_,.non=>aa ai|_,_=>none
def isD(x y:D)(m:Sto):Res D:=match isB x y with
 |some b=>.ok (.bl b) m|none=>.bad
def zkG(x y:D)(m:Sto):Res D:=match isB x y with
 |some b=>.ok (.bl (!b)) m|none=>.bad
variable{Q:VK}
section
theorem zob:OpR X (aB .LtE) (fun x y H Q=>∃i j,x = .str i/\y = .str j/\Q (.bl (!ltS j i)) H):=by
 intro pins s σ H x y v u Q I R r h;obtain⟨i,j,rfl,rfl,q⟩:=h;obtain⟨t,rfl⟩:=R;obtain⟨t',rfl⟩:=r;exact PySem.P.le_str (zaL I q rfl)
def rLtA:R2:=fun x y H Q=>(rI0 (fun i j=>.bl (decide (i<j)))) x y H Q∨∃i j,x = .str i/\y = .str j/\Q (.bl (decide (i.cps.toList<j.cps.toList))) H
def rLeA:R2:=fun x y H Q=>(rI0 (fun i j=>.bl (decide (i<=j)))) x y H Q∨∃i j,x = .str i/\y = .str j/\Q (.bl (!ltS j i)) H
theorem zg8:OpR X (aB .Lt) rLtA:=OpR.or op_lt zoa
theorem zf6:OpR X (aB .LtE) rLeA:=OpR.or op_le zob
theorem zmF:OpD K cl ex rLtA ltD:=fun α m H x y V v Q W R r h=>by
 unfold ltD at h;split at h
 ·rw[Rep]at R r;exact .inl ⟨_,_,R,r,PQ.ok W h _ zf2⟩
 ·rw[Rep]at R r;exact .inr ⟨_,_,R,r,PQ.ok W h _ zf2⟩
 ·exact h.elim
theorem zkt:OpD K cl ex rLeA leD:=fun α m H x y V v Q W R r h=>by
 unfold leD at h;split at h
 ·rw[Rep]at R r;exact .inl ⟨_,_,R,r,PQ.ok W h _ zf2⟩
 ·rw[Rep]at R r;exact .inr ⟨_,_,R,r,PQ.ok W h _ zf2⟩
 ·exact h.elim
theorem ziY:OpD K cl ex (rI0 (fun i j=>.bl (decide (j<i)))) gtD:=fun α m H x y V v Q W R r h=>by
 unfold gtD at h;split at h
 ·rw[Rep]at R r;exact⟨_,_,R,r,PQ.ok W h _ zf2⟩
 ·exact h.elim
theorem zqP:OpD K cl ex (rI0 (fun i j=>.bl (decide (j<=i)))) geD:=fun α m H x y V v Q W R r h=>by
 unfold geD at h;split at h
 ·rw[Rep]at R r;exact⟨_,_,R,r,PQ.ok W h _ zf2⟩
 ·exact h.elim
def rIs(f:Bool->Bool):R2:=fun x y H Q=>(y = .non/\Q (.bl (f (decide (x = .non)))) H)∨∃b c,x = .bl b/\y = .bl c/\Q (.bl (f (b==c))) H
theorem zf7:OpR X (aB .Is) (rIs id):=OpR.or op_isN op_isT
theorem zll:OpR X (aB .IsNot) (rIs not):=OpR.or zs4 zqJ
def isNon:D->Bool
 |.non=>ae|_=>ai
theorem znN{x:D}(r:Rep K α H x vx):decide (vx = .non)=isNon x:=by
 cases x <;> rw[Rep]at r;case ob=>obtain⟨_,_,rfl⟩:=r;rfl
 case tup=>obtain⟨_,_,rfl,_⟩:=r;rfl
 case lst=>obtain⟨_,_,rfl,_⟩:=r;rfl
 case scr=>obtain⟨_,_,rfl,_⟩:=r;rfl
 case exn=>obtain⟨_,_,_,_,rfl,_⟩:=r;rfl
 all_goals (subst r;rfl)
theorem zoW{x:D}{f:Bool->Bool}(e:isB x y=aa b)(R:Rep K α H x vx)(r:Rep K α H y vy)(q:Q (.bl (f b)) H):rIs f vx vy H Q:=by
 unfold isB at e;split at e
 ·rw[Rep]at R r;exact .inr ⟨_,_,R,r,by rw[yP e];exact q⟩
 ·have h:=znN R;rw[Rep]at r;exact .inl ⟨r,by rw[h];show Q (.bl (f ae)) H;rw[yP e];exact q⟩
 ·rename_i hn;have h:=znN R;rw[Rep]at r;refine .inl ⟨r,?_⟩;have:isNon x=ai:=by
   cases x with
   |non=>exact(hn rfl).elim|_=>rfl
  rw[h,this,yP e];exact q
 ·cases e
theorem zku:OpD K cl ex (rIs id) isD:=fun α m H x y V v Q W R r h=>by
 unfold isD at h;split at h
 ·exact zoW (f:=id) ‹_› R r (PQ.ok W h _ zf2)
 ·exact h.elim
theorem zos:OpD K cl ex (rIs not) zkG:=fun α m H x y V v Q W R r h=>by
 unfold zkG at h;split at h
 ·exact zoW (f:=not) ‹_› R r (PQ.ok W h _ zf2)
 ·exact h.elim
end
variable{a:ac}{ds:List D}
section
theorem Wd.lst(W:Wd K cl α m H){k:Nat}(b:α[k]?=aa a)(h:m[k]?=aa (.lst ds)):∃xs,H a=aa (.lst xs)/\RepL K α H ds xs:=W.at' k a _ b h
theorem Wd.dct(W:Wd K cl α m H){k:Nat}{ds:List (L2.Key×D)}(b:α[k]?=aa a)(h:m[k]?=aa (.dct ds)):∃xs,H a=aa (.dK xs)/\RepKV K α H ds xs:=W.at' k a _ b h
theorem Wd.set(W:Wd K cl α m H){k:Nat}{u:HO}{o:MO}(d:α[k]?=aa a)(s:∀_:Ext α H α (upd H a u),MoRep K cl α (upd H a u) a o)(hn:autoParam (∀o v,H a≠aa (.frz o v)) AutoP.a5._auto_1):Wd K cl α (m.set k o) (upd H a u)/\Ext α H α (upd H a u):=by
 have ha:a∈α := yW d;have E:Ext α H α (upd H a u):=by
  refine⟨⟨[],by simp,fun _ h=>nomatch h⟩,fun b o h n=>by rw[zax (fun z=>n (by rw[z];exact ha))];exact h,fun b r=>?_,fun b o v q=>by rw[zax fun z=>hn o v (by rw[<- z];exact q)];exact q⟩;by_cases c:b=a
  ·rw[c,zaF];exact fun z=>nomatch z
  ·rw[zax c];exact W.has r
 refine⟨⟨by rw[yak];exact W.len,W.nd,fun j b o' f e=>?_⟩,E⟩;by_cases i:k=j
 ·subst i;rw[d]at f;cases f;have l:k<m.length:=by rw[<- W.len];exact(yc.mp d).1
  rw[yaB l]at e;cases e;exact s E
 ·rw[yan i]at e;have g:b≠a:=fun z=>by
   subst z;obtain⟨l,w⟩:=yc.mp d;obtain⟨p,t⟩:=yc.mp f;exact i ((ych W.nd).mp (w.trans t.symm))
  exact(W.at' j b o' f e).mono W E fun o h=>by rw[zax g];exact h
end
variable{vs:List V}{d:D}
theorem RepL.atI(r:RepL K α H ds vs)(h:L2.atI ds i=aa d):∃v,L2.atI vs i=aa v/\Rep K α H d v:=by
 unfold L2.atI at h ⊢;rw[r.length]at h;cases e:ixN vs.length i with
 |none=>rw[e]at h;cases h|some j=>
  rw[e]at h;exact r.get (i:=j) h
def zjR(kvs:List (L2.Key×D))(k:L2.Key):Option D:=match kvs with
 |[]=>none|p::r=>if p.1=k then aa p.2 else zjR r k
def zm2(kvs:List (L2.Key×D))(k:L2.Key)(d:D):List (L2.Key×D):=match kvs with
 |[]=>[(k,d)]|p::r=>if p.1=k then (p.1,d)::r.map (fun q=>if q.1=k then (q.1,d) else q) else p::zm2 r k d
theorem RepKV.val{K:ya}{α : List ac}{H:Hp}{k:L2.Key}:∀{ds:List (L2.Key×D)}{vs:List (L2.Key×V)},RepKV K α H ds vs->(∀d,zjR ds k=aa d->∃v,zjQ vs k=aa v/\Rep K α H d v)/\(zjR ds k=none->zjQ vs k=none)
 |[],_,h=>by
  cases (show _=[] from h);exact⟨fun d e=>(nomatch e),fun _=>rfl⟩
 |p::r,_,⟨v,r',e,h1,h2⟩=>by
  subst e;have i:=RepKV.val (k:=k) h2;unfold zjR;by_cases a:p.1=k
  ·rw[if_pos a,zfD a];exact⟨fun d e=>by cases e;exact⟨v,rfl,h1⟩,fun e=>nomatch e⟩
  ·rw[if_neg a,zfE a];exact i
theorem RepKV.length{K:ya}{α : List ac}{H:Hp}:∀{ds:List (L2.Key×D)}{vs:List (L2.Key×V)},RepKV K α H ds vs->ds.length=vs.length
 |[],_,h=>by
  have h:_=[]:=h;subst h;rfl
 |p::r,_,⟨v,r',e,b,a⟩=>by subst e;rw[yx,yx,RepKV.length a]
theorem RepKV.map{K:ya}{α : List ac}{H:Hp}{k:L2.Key}{d:D}{v:V}(r:Rep K α H d v):∀{ds:List (L2.Key×D)}{vs:List (L2.Key×V)},RepKV K α H ds vs->RepKV K α H (ds.map fun q=>if q.1=k then (q.1,d) else q) (vs.map fun q=>if q.1=k then (q.1,v) else q)
 |[],_,h=>by
  have h:_=[]:=h;subst h;rfl
 |p::t,_,⟨w,r',e,c,b⟩=>by
  subst e;rw[yy,yy];by_cases a:p.1=k
  ·rw[if_pos a,if_pos a];exact⟨v,_,rfl,r,RepKV.map r b⟩
  ·rw[if_neg a,if_neg a];exact⟨w,_,rfl,c,RepKV.map r b⟩
theorem RepKV.put{K:ya}{α : List ac}{H:Hp}{k:L2.Key}{d:D}{v:V}(r:Rep K α H d v):∀{ds:List (L2.Key×D)}{vs:List (L2.Key×V)},RepKV K α H ds vs->RepKV K α H (zm2 ds k d) (zf4 vs k v)
 |[],_,h=>by
  have h:_=[]:=h;subst h;exact⟨v,[],rfl,r,rfl⟩
 |p::t,_,⟨w,r',e,f,b⟩=>by
  subst e;unfold zm2;by_cases a:p.1=k
  ·rw[if_pos a];have E:zf4 ((p.1,w)::r') k v=(p.1,v)::r'.map fun q=>if q.1=k then (q.1,v) else q:=by
    unfold zf4;rw[if_pos (by simp[a]),yy,if_pos a]
   rw[E];exact⟨v,_,rfl,r,RepKV.map r b⟩
  ·rw[if_neg a];have i:=RepKV.put (k:=k) r b;have E:zf4 ((p.1,w)::r') k v=(p.1,w)::zf4 r' k v:=by
    unfold zf4;by_cases ha:(r'.any fun c=>decide (c.1=k))=ae
    ·rw[if_pos (by rw[yaH,ha,Bool.or_true]),if_pos ha,yy,if_neg a]
    ·rw[if_neg ha,if_neg (by rw[yaH];simp only[decide_eq_false a,ybW];exact ha)];rfl
   rw[E];exact⟨w,_,rfl,f,i⟩
variable{τ : Type}
def opt(o:Option τ)(m:Sto):Res τ := match o with
 |some d=>.ok d m|none=>.bad
def ixD(x y:D)(m:Sto):Res D:=match x,y with
 |.tup ds,.int i=>opt (L2.atI ds i) m|.lst ds,.int i=>opt (L2.atI ds i) m|.str z,.int i=>if z.length<=sizeLine then opt ((L2.atI z.cps.toList i).map fun c=>D.str ⟨#[c]⟩) m else .bad|.ob k,.int i=>match m[k]? with
  |some (.lst ds)=>opt (L2.atI ds i) m|some (.dct kvs)=>opt (zjR kvs (.inl i)) m|_=>.bad
 |.ob k,.str z=>match m[k]? with
  |some (.dct kvs)=>opt (zjR kvs (.inr z)) m|_=>.bad
 |_,_=>.bad
variable{R:RD τ}
section
def rIxD:R2:=fun x y H Q=>∃a v,x = .ref a/\DGet H a y (aa v)/\Q v H
theorem zto(k:X.A.units+1<aM):IxR X rIxD:=by
 intro value b pins s σ H x y v u Q I j i h hs;obtain⟨a,w,rfl,g,q⟩:=h;cases j;have d:=zkL I g;unfold cB;refine aj ?_;rw[getitemInPython_of_ne d.not_modules];refine aj (wpAny_specialOf d PySem.F.slot_dict_getitem.lookup ?_);have f:wpAny (ao X.prog X.w) X.A (subscripted b ai (.ref a) u) (fun r S=>wpAny (ao X.prog X.w) X.A (letTemporaryGo value (.ref a) r >>= fun _=>pure r) (EP X pins σ Q) X.xe S) X.xe s:=by
  rw[hs];exact wpAny_operating (aA (zpt k I g i fun W e l R=>(⟨w,H,l,R,q⟩:EP X pins σ Q W e)) (fun r S c=>aj (wpAny_letTemporaryGo (aw c))) fun _ _ x=>x)
 first
  |exact aw (aj f)
  |exact aj (aw (aj f))
  |exact aj f
def rIxA(K:ya):R2:=fun x y H Q=>rIx K x y H Q∨rIxD x y H Q
theorem ix_A(h:X.A.units+1<aM):IxR X (rIxA X.K):=IxR.or ix_seq (zto h)
theorem ze3{o:Option τ}(h:PQ K cl ex (opt o m) α H R):∃d,o=aa d/\PQ K cl ex (.ok d m) α H R:=by
 cases o with
 |none=>exact h.elim|some d=>exact⟨d,rfl,h⟩
theorem od_ix:OpD K cl ex (rIxA K) ixD:=fun α m H x y j V Q W R r h=>by
 unfold ixD at h;split at h
 ·obtain⟨d,e,h⟩:=ze3 h;rw[Rep]at R;rw[Rep]at r;obtain⟨a,xs,rfl,g,f⟩:=R;obtain⟨v,E,b⟩:=f.atI e;exact .inl (.inr (.inl ⟨a,xs,_,v,rfl,r,g.sq,E,PQ.ok W h _ b⟩))
 ·obtain⟨d,e,h⟩:=ze3 h;rw[Rep]at R;rw[Rep]at r;obtain⟨a,xs,rfl,_,g,f⟩:=R;obtain⟨v,E,b⟩:=f.atI e;exact .inl (.inl ⟨a,xs,_,v,rfl,r,.inl g,E,PQ.ok W h _ b⟩)
 ·obtain⟨i,h⟩:=PQ.if h;obtain⟨d,e,h⟩:=ze3 h;rw[Rep]at R;rw[Rep]at r;obtain⟨c,E,rfl⟩:=yag.mp e;exact .inl (.inr (.inr ⟨_,_,c,R,r,i,E,PQ.ok W h _ repS⟩))
 ·rw[Rep]at R;rw[Rep]at r;obtain⟨a,ha,rfl⟩:=R;split at h
  ·obtain⟨d,e,h⟩:=ze3 h;obtain⟨xs,g,f⟩:=W.lst ha ‹_›;obtain⟨v,E,b⟩:=f.atI e;exact .inl (.inl ⟨a,xs,_,v,rfl,r,SqL.of g,E,PQ.ok W h _ b⟩)
  ·obtain⟨d,e,h⟩:=ze3 h;obtain⟨xs,g,f⟩:=W.dct ha ‹_›;obtain⟨v,E,b⟩:=(RepKV.val f).1 d e;refine .inr ⟨a,v,rfl,?_,PQ.ok W h _ b⟩;rw[r,<- E];exact DGet.k (k := .inl _) g
  ·exact h.elim
 ·rw[Rep]at R;rw[Rep]at r;obtain⟨a,ha,rfl⟩:=R;split at h
  ·obtain⟨d,e,h⟩:=ze3 h;obtain⟨xs,g,f⟩:=W.dct ha ‹_›;obtain⟨v,E,b⟩:=(RepKV.val f).1 d e;refine .inr ⟨a,v,rfl,?_,PQ.ok W h _ b⟩;rw[r,<- E];exact DGet.k (k := .inr _) g
  ·exact h.elim
 ·exact h.elim
end
def zlR(xs:List τ)(lo hi:Option Int):List τ := (xs.drop (HT.sIx xs.length 0 lo)).take (HT.sIx xs.length xs.length hi-HT.sIx xs.length 0 lo)
theorem RepL.take{K:ya}{α : List ac}{H:Hp}:∀{ds:List D}{vs:List V}(n:Nat),RepL K α H ds vs->RepL K α H (ds.take n) (vs.take n)
 |[],_,_,h=>by rw[RepL]at h;subst h;simp[RepL]|_::_,_,0,h=>by simp[RepL]|_::_,_,n+1,h=>by
  rw[RepL]at h;obtain⟨v,r,rfl,a,b⟩:=h;rw[ydO,ydO,RepL];exact⟨v,_,rfl,a,RepL.take n b⟩
theorem RepL.drop{K:ya}{α : List ac}{H:Hp}:∀{ds:List D}{vs:List V}(n:Nat),RepL K α H ds vs->RepL K α H (ds.drop n) (vs.drop n)
 |_,_,0,h=>h|[],_,n+1,h=>by rw[RepL]at h;subst h;simp[RepL]|_::_,_,n+1,h=>by
  rw[RepL]at h;obtain⟨v,r,rfl,a,b⟩:=h;exact RepL.drop n b
theorem RepL.cut(lo hi:Option Int)(r:RepL K α H ds vs):RepL K α H (zlR ds lo hi) (zr2 vs lo hi):=by
 unfold zlR zr2;rw[r.length];exact RepL.take _ (RepL.drop _ r)
abbrev OV:=En->Sto->Res (Option Int)
def ziZ:OV:=fun _ m=>.ok none m
def zfz(f:EV):OV:=fun ρ m=>(f ρ m).bind fun d m1=>match d with
 |.int i=>.ok (aa i) m1|_=>.bad
def tDO(K:ya)(cl:af->ac)(ex:XD)(f:OV):TO:=fun σ H Q=>∃α ρ m,Wd K cl α m H/\RepE K α H ρ σ /\ PQ K cl ex (f ρ m) α H fun d _ _ H'=>Q d H'
structure QO(X:Cx)(cl:af->ac)(ex:XD)(e:Option am)(f:OV):Prop where
 out:PO X e (tDO X.K cl ex f)
theorem PO.weak{e:Option am}{t t':TO}(h:PO X e t)(w:∀σ H Q,t' σ H Q->t σ H Q):PO X e t':=fun pins s σ H Q I q=>h pins s σ H Q I (w σ H Q q)
def slD(x:D)(lo hi:Option Int)(m:Sto):Res D:=match x with
 |.tup ds=>if HT.sIx ds.length 0 lo=0/\HT.sIx ds.length ds.length hi=ds.length then .bad else .ok (.tup (zlR ds lo hi)) m|.lst ds=>.ok (.lst (zlR ds lo hi)) m|.scr ds=>.ok (.lst (zlR ds lo hi)) m|.str z=>if z.length<=sizeLine then .ok (.str (Txt.slice z lo hi)) m else .bad|.ob k=>match m[k]? with
  |some (.lst ds)=>.ok (.lst (zlR ds lo hi)) m|_=>.bad
 |_=>.bad
def eSl(f:EV)(lo hi:OV):EV:=fun ρ m=>(f ρ m).bind fun x m1=>(lo ρ m1).bind fun l m2=>(hi ρ m2).bind fun h m3=>slD x l h m3
variable{fa:EV}{pos:ax}
section
variable{e:am}{lo hi:OV}{el eh:Option am}{p2:ax}
theorem ze2:QO X cl ex none ziZ:=⟨PO.weak zsV fun σ H Q a=>ex3 a fun α ρ m W hr h=>PQ.ok W h⟩
theorem zcB(b:QE X cl ex e fa):QO X cl ex (aa e) (zfz fa):=⟨PO.weak (zsU b.out) fun σ H Q c=>ex3 c fun α ρ m W hr h=>tD.use W hr h fun a m1 f d v E w hr1 r q=>by
 split at q
 ·rw[Rep]at r;exact⟨_,r,PQ.ok w q⟩
 ·exact q.elim⟩
theorem tDO.use{ρ : En}{f:OV}{k:Option Int->Sto->Res τ}{Q:Option Int->Hp->Prop}(W:Wd K cl α m H)(hr:RepE K α H ρ σ)(h:PQ K cl ex ((f ρ m).bind k) α H R)(b:∀a m1 H1 d,Ext α H a H1->Wd K cl a m1 H1->RepE K a H1 ρ σ -> PQ K cl ex (k d m1) a H1 R->Q d H1):tDO K cl ex f σ H Q :=
 ⟨α,ρ,m,W,hr,PQ.mono (Ext.refl W) h.bind fun d a m1 H1 E w q=>b a m1 H1 d E w (hr.mono W E) q⟩
theorem ziH(s:QE X cl ex e fa)(hl:QO X cl ex el lo)(f:QO X cl ex eh hi):QE X cl ex (.Subscript e (.Slice el eh none p2) pos) (eSl fa lo hi) :=
 ⟨PE.weak (zqE (SlR.or sl_tup (SlR.or zso sl_txt)) s.out hl.out f.out) fun σ H Q f=>ex3 f fun α ρ m W hr h=>
  tD.use W hr h fun k m1 B d v C g hr1 r o=>tDO.use g hr1 o fun j m2 A l y x hr2 n=>tDO.use x hr2 n fun i m3 z u E w hr3 q=>by
   have r:=r.mono g (y.trans E);unfold slD at q;split at q
   ·split at q
    ·exact q.elim
    ·rename_i hn;rw[Rep]at r;obtain⟨a,xs,rfl,c,R⟩:=r;refine .inl ⟨a,xs,rfl,c.sq,by rw[<- R.length];exact hn,fun p b=>?_⟩;exact PQ.okS w (Same.new b) q _ (zby w b (R.cut l u))
   ·rw[Rep]at r;obtain⟨a,xs,rfl,_,c,R⟩:=r;exact .inr (.inl ⟨a,xs,rfl,.inl c,fun p b=>PQ.okS w (Same.new b) q _ (zc2 w b (R.cut l u))⟩)
   ·rw[Rep]at r;obtain⟨a,xs,rfl,c,R⟩:=r;exact .inr (.inl ⟨a,xs,rfl,c.sq,fun p b=>PQ.okS w (Same.new b) q _ (zc2 w b (R.cut l u))⟩)
   ·rw[Rep]at r;obtain⟨t,q⟩:=PQ.if q;exact .inr (.inr ⟨_,r,t,PQ.ok w q _ repS⟩)
   ·rw[Rep]at r;obtain⟨a,ha,rfl⟩:=r;split at q
    ·obtain⟨xs,c,R⟩:=w.lst ha ‹_›;exact .inr (.inl ⟨a,xs,rfl,SqL.of c,fun p b=>PQ.okS w (Same.new b) q _ (zc2 w b (R.cut l u))⟩)
    ·exact q.elim
   ·exact q.elim⟩
end
section
theorem RepL.one_of(h:RepL K α H [d] vs):∃v,vs=[v]/\Rep K α H d v:=by
 rw[RepL]at h;obtain⟨v,r,rfl,a,b⟩:=h;rw[RepL]at b;subst b;exact⟨v,rfl,a⟩
theorem RepL.two_of{e:D}(h:RepL K α H [d,e] vs):∃v w,vs=[v,w]/\Rep K α H d v/\Rep K α H e w:=by
 rw[RepL]at h;obtain⟨v,r,rfl,a,b⟩:=h;obtain⟨w,rfl,c⟩:=b.one_of;exact⟨v,w,rfl,a,c⟩
def zdb(ds:List D)(m:Sto):Res D:=match ds with
 |[.tup xs]=>.ok (.int xs.length) m|[.lst xs]=>.ok (.int xs.length) m|[.scr xs]=>.ok (.int xs.length) m|[.str z]=>if z.length<=sizeLine then .ok (.int z.length) m else .bad|[.ob k]=>match m[k]? with
  |some (.lst xs)=>.ok (.int xs.length) m|some (.dct xs)=>.ok (.int xs.length) m|_=>.bad
 |_=>.bad
def rLen(K:ya):List V->Hp->VK->Prop:=fun xs H Q=>(∃p ys,xs=[.ref p]/\(SqL K H p ys∨SqT K H p ys)/\Q (.int ys.length) H)∨(∃z,xs=[.str z]/\z.length<=sizeLine/\Q (.int z.length) H)∨∃a kvs,xs=[V.ref a]/\H a=aa (.dK kvs)/\Q (.int kvs.length) H
theorem zpE:CallR X (.builtin "len") (fun xs H Q=>∃a kvs,xs=[V.ref a]/\H a=aa (.dK kvs)/\Q (.int kvs.length) H):=by
 intro pins s σ H xs us Q I r h;obtain⟨a,kvs,rfl,e,q⟩:=h;obtain⟨u,rfl,R⟩:=zcA r;cases R;exact d_len I (.inl e) fun t s' i=>⟨.int kvs.length,H,i,⟨t,rfl⟩,q⟩
theorem zaG:CallR X (.builtin "len") (rLen X.K):=CallR.or zjI (CallR.or zjH zpE)
theorem zbF:FnD K cl ex (rLen K) zdb:=fun α m H x V Q W c h=>by
 unfold zdb at h;split at h
 ·obtain⟨v,rfl,r⟩:=c.one_of;rw[Rep]at r;obtain⟨a,xs,rfl,b,R⟩:=r;exact .inl ⟨a,xs,rfl,.inr b.sq,by rw[<- R.length];exact PQ.ok W h _ zfy⟩
 ·obtain⟨v,rfl,r⟩:=c.one_of;rw[Rep]at r;obtain⟨a,xs,rfl,_,b,R⟩:=r;exact .inl ⟨a,xs,rfl,.inl (.inl b),by rw[<- R.length];exact PQ.ok W h _ zfy⟩
 ·obtain⟨v,rfl,r⟩:=c.one_of;rw[Rep]at r;obtain⟨a,xs,rfl,b,R⟩:=r;exact .inl ⟨a,xs,rfl,.inl b.sq,by rw[<- R.length];exact PQ.ok W h _ zfy⟩
 ·obtain⟨v,rfl,r⟩:=c.one_of;rw[Rep]at r;subst r;obtain⟨d,h⟩:=PQ.if h;exact .inr (.inl ⟨_,rfl,d,PQ.ok W h _ zfy⟩)
 ·obtain⟨v,rfl,r⟩:=c.one_of;rw[Rep]at r;obtain⟨a,ha,rfl⟩:=r;split at h
  ·obtain⟨xs,b,R⟩:=W.lst ha ‹_›;exact .inl ⟨a,xs,rfl,.inl (SqL.of b),by rw[<- R.length];exact PQ.ok W h _ zfy⟩
  ·obtain⟨xs,b,R⟩:=W.dct ha ‹_›;exact .inr (.inr ⟨a,xs,rfl,b,by rw[<- R.length];exact PQ.ok W h _ zfy⟩)
  ·exact h.elim
 ·exact h.elim
def zfH(ds:List D)(m:Sto):Res D:=match ds with
 |[.int i]=>.ok (.int i) m|[.bl b]=>.ok (.int (if b then 1 else 0)) m|[.str z]=>match yaO z with
  |some n=>if z.length<=640 then .ok (.int n) m else .bad|none=>.bad
 |_=>.bad
def rInt:List V->Hp->VK->Prop:=fun xs H Q=>((∃i,xs=[.int i]/\Q (.int i) H)∨∃k,xs=[.bl k]/\Q (.int (if k then 1 else 0)) H)∨∃z n,xs=[.str z]/\yaO z=aa n/\z.length<=640/\Q (.int n) H
theorem zbX:CallR X (.type "int") rInt:=CallR.or zpK zjJ
theorem zfp:FnD K cl ex rInt zfH:=fun α m H x V Q W R h=>by
 unfold zfH at h;split at h
 ·obtain⟨v,rfl,r⟩:=R.one_of;rw[Rep]at r;subst r;exact .inl (.inl ⟨_,rfl,PQ.ok W h _ zfy⟩)
 ·obtain⟨v,rfl,r⟩:=R.one_of;rw[Rep]at r;subst r;exact .inl (.inr ⟨_,rfl,PQ.ok W h _ zfy⟩)
 ·obtain⟨v,rfl,r⟩:=R.one_of;rw[Rep]at r;subst r;split at h
  ·obtain⟨a,h⟩:=PQ.if h;exact .inr ⟨_,_,rfl,‹_›,a,PQ.ok W h _ zfy⟩
  ·exact h.elim
 ·exact h.elim
def zrz(ds:List D)(m:Sto):Res D:=match ds with
 |[.int i]=>if i.natAbs.log2<1920 then .ok (.str (toString i)) m else .bad|_=>.bad
theorem zrU:FnD K cl ex (fun xs H Q=>∃i,xs=[.int i]/\i.natAbs.log2<1920/\Q (.str (toString i)) H) zrz:=fun α m H x V Q W R h=>by
 unfold zrz at h;split at h
 ·obtain⟨v,rfl,r⟩:=R.one_of;rw[Rep]at r;subst r;obtain⟨a,h⟩:=PQ.if h;exact⟨_,rfl,a,PQ.ok W h _ repS⟩
 ·exact h.elim
def zi6(ds:List D)(m:Sto):Res D:=match ds with
 |[.int i,.int j]=>.ok (.int (if j>i then j else i)) m|_=>.bad
theorem zid:FnD K cl ex (fun xs H Q=>∃i j,xs=[.int i,.int j]/\Q (.int (if j>i then j else i)) H) zi6:=fun α m H x V Q W a h=>by
 unfold zi6 at h;split at h
 ·obtain⟨v,w,rfl,R,r⟩:=a.two_of;rw[Rep]at R r;subst R r;exact⟨_,_,rfl,PQ.ok W h _ zfy⟩
 ·exact h.elim
def zed(ds:List D)(m:Sto):Res D:=match ds with
 |[.int i,.int j]=>.ok (.int (if j<i then j else i)) m|_=>.bad
theorem zc8:FnD K cl ex (fun xs H Q=>∃i j,xs=[.int i,.int j]/\Q (.int (if j<i then j else i)) H) zed:=fun α m H x V Q W a h=>by
 unfold zed at h;split at h
 ·obtain⟨v,w,rfl,R,r⟩:=a.two_of;rw[Rep]at R r;subst R r;exact⟨_,_,rfl,PQ.ok W h _ zfy⟩
 ·exact h.elim
def zeS(ds:List D)(m:Sto):Res D:=match ds with
 |[.lst xs]=>.ok (.tup xs) m|[.tup xs]=>.ok (.tup xs) m|[.ob k]=>match m[k]? with
  |some (.lst xs)=>.ok (.tup xs) m|_=>.bad
 |[.str z]=>if z.cps.size<=sizeLine then .ok (.tup (zfu z)) m else .bad|_=>.bad
def rTup(K:ya):List V->Hp->VK->Prop:=fun xs H Q=>(∃p ys,xs=[.ref p]/\((SqL K H p ys/\∀l,H l=none->Q (.ref l) (upd H l (.tup ys)))∨(SqT K H p ys/\Q (.ref p) H)))∨∃z,xs=[.str z]/\z.cps.size<=sizeLine/\∀l,H l=none->Q (.ref l) (upd H l (.tup ((yC z.cps.size).map (sgn z))))
theorem zbv(h:X.calm=ae):CallR X (.type "tuple") (rTup X.K):=CallR.or zig (zgY h)
theorem znM:RepL K α H (zfu z) ((yC z.cps.size).map (sgn z)):=by
 unfold zfu;generalize yC z.cps.size=l;induction l with
 |nil=>simp[RepL]|cons i r I=>rw[yy,yy,RepL];exact⟨_,_,rfl,by rw[Rep];rfl,I⟩
theorem zdY:FnD K cl ex (rTup K) zeS:=fun α m H x V Q W R h=>by
 unfold zeS at h;split at h
 ·obtain⟨v,rfl,r⟩:=R.one_of;rw[Rep]at r;obtain⟨a,xs,rfl,_,b,c⟩:=r;exact .inl ⟨a,xs,rfl,.inl ⟨.inl b,fun l hl=>PQ.okS W (Same.new hl) h _ (zby W hl c)⟩⟩
 ·obtain⟨v,rfl,r⟩:=R.one_of;have d:=r;rw[Rep]at r;obtain⟨a,xs,rfl,b,c⟩:=r;exact .inl ⟨a,xs,rfl,.inr ⟨b.sq,PQ.ok W h _ d⟩⟩
 ·obtain⟨v,rfl,r⟩:=R.one_of;rw[Rep]at r;obtain⟨a,ha,rfl⟩:=r;split at h
  ·obtain⟨xs,b,c⟩:=W.lst ha ‹_›;exact .inl ⟨a,xs,rfl,.inl ⟨SqL.of b,fun l hl=>PQ.okS W (Same.new hl) h _ (zby W hl c)⟩⟩
  ·exact h.elim
 ·obtain⟨v,rfl,r⟩:=R.one_of;rw[Rep]at r;subst r;obtain⟨e,h⟩:=PQ.if h;exact .inr ⟨_,rfl,e,fun l hl=>PQ.okS W (Same.new hl) h _ (zby W hl znM)⟩
 ·exact h.elim
def zeM:List D->Option (List Int)
 |[]=>aa []|.int i::r=>(zeM r).map (i :: ·)|_=>none
def zih:List D->Option (List Bool)
 |[]=>aa []|.bl i::r=>(zih r).map (i :: ·)|_=>none
def zfs:List D->Option (List af)
 |[]=>aa []|.str i::r=>(zfs r).map (i :: ·)|_=>none
theorem zcX:∀{ds:List D}{ns:List Int}{vs:List V},zeM ds=aa ns->RepL K α H ds vs->vs=ns.map V.int
 |[],ns,vs,e,r=>by cases e;rw[RepL]at r;exact r|d::t,ns,vs,e,r=>by
  unfold zeM at e;split at e
  ·exact absurd ‹d::t=[]› (by simp)
  ·rename_i i t' e1;cases e1;obtain⟨m,e2,rfl⟩:=yag.mp e;rw[RepL]at r;obtain⟨v,r',rfl,a,b⟩:=r;rw[Rep]at a;subst a;rw[zcX e2 b];rfl
  ·cases e
theorem zgG:∀{ds:List D}{ns:List Bool}{vs:List V},zih ds=aa ns->RepL K α H ds vs->vs=ns.map V.bl
 |[],ns,vs,e,r=>by cases e;rw[RepL]at r;exact r|d::t,ns,vs,e,r=>by
  unfold zih at e;split at e
  ·exact absurd ‹d::t=[]› (by simp)
  ·rename_i i t' e1;cases e1;obtain⟨m,e2,rfl⟩:=yag.mp e;rw[RepL]at r;obtain⟨v,r',rfl,a,b⟩:=r;rw[Rep]at a;subst a;rw[zgG e2 b];rfl
  ·cases e
theorem zhs:∀{ds:List D}{ns:List af}{vs:List V},zfs ds=aa ns->RepL K α H ds vs->vs=ns.map V.str
 |[],ns,vs,e,r=>by cases e;rw[RepL]at r;exact r|d::t,ns,vs,e,r=>by
  unfold zfs at e;split at e
  ·exact absurd ‹d::t=[]› (by simp)
  ·rename_i i t' e1;cases e1;obtain⟨m,e2,rfl⟩:=yag.mp e;rw[RepL]at r;obtain⟨v,r',rfl,a,b⟩:=r;rw[Rep]at a;subst a;rw[zhs e2 b];rfl
  ·cases e
def lOf(d:D)(m:Sto):Option (List D):=match d with
 |.lst xs=>aa xs|.ob k=>match m[k]? with
  |some (.lst xs)=>aa xs|_=>none
 |_=>none
theorem ze7{xs:List D}(W:Wd K cl α m H)(e:lOf d m=aa xs)(r:Rep K α H d v):∃p ys,v = .ref p/\SqL K H p ys/\RepL K α H xs ys:=by
 unfold lOf at e;split at e
 ·cases e;rw[Rep]at r;obtain⟨a,ys,rfl,_,h,R⟩:=r;exact⟨a,ys,rfl,.inl h,R⟩
 ·rw[Rep]at r;obtain⟨a,ha,rfl⟩:=r;split at e
  ·cases e;obtain⟨ys,h,R⟩:=W.lst ha ‹_›;exact⟨a,ys,rfl,SqL.of h,R⟩
  ·cases e
 ·cases e
def zsk(ns:List Int):Prop:=(∀a,a∈ns->0<=a/\a<=2^50)/\ns.length<=1000
instance(ns:List Int):Decidable (zsk ns):=by unfold zsk;infer_instance
def zpV(ds:List D)(m:Sto):Res D:=match ds with
 |[d]=>match (lOf d m).bind zeM with
  |some ns=>if zsk ns then .ok (.int ns.sum) m else .bad|none=>.bad
 |_=>.bad
theorem zlM:FnD K cl ex (fun xs H Q=>∃(l:ac)(ns:List Int),xs=[.ref l]/\SqL K H l (ns.map V.int)/\(∀a,a∈ns->0<=a/\a<=2^50)/\ns.length<=1000/\Q (.int ns.sum) H) zpV:=fun α m H x g Q W r h=>by
 unfold zpV at h;split at h
 ·split at h
  ·rename_i ns e;obtain⟨b,h⟩:=PQ.if h;obtain⟨v,rfl,R⟩:=r.one_of;obtain⟨xs,f,E⟩:=yax.mp e;obtain⟨p,ys,rfl,c,d⟩:=ze7 W f R;rw[zcX E d]at c;exact⟨p,ns,rfl,c,b.1,b.2,PQ.ok W h _ zfy⟩
  ·exact h.elim
 ·exact h.elim
def zm5(ds:List D)(m:Sto):Res D:=match ds with
 |[d]=>match (lOf d m).bind zih with
  |some bs=>.ok (.bl (bs.all id)) m|none=>.bad
 |_=>.bad
theorem zpd:FnD K cl ex (fun xs H Q=>∃(l:ac)(bs:List Bool),xs=[.ref l]/\SqL K H l (bs.map V.bl)/\Q (.bl (bs.all id)) H) zm5:=fun α m H x d Q W r h=>by
 unfold zm5 at h;split at h
 ·split at h
  ·rename_i ns e;obtain⟨v,rfl,R⟩:=r.one_of;obtain⟨xs,c,E⟩:=yax.mp e;obtain⟨p,ys,rfl,a,b⟩:=ze7 W c R;rw[zgG E b]at a;exact⟨p,ns,rfl,a,PQ.ok W h _ zf2⟩
  ·exact h.elim
 ·exact h.elim
end
def zb2(ty:D->Sto->Bool)(g:D->List D->Sto->Res D)(fo:EV)(fr:AV):EV:=fun ρ m=>(fo ρ m).bind fun o m1=>if ty o m1=ae then (fr ρ m1).bind fun ds m2=>g o ds m2 else .bad
def MtD(K:ya)(cl:af->ac)(ex:XD)(r:V->List V->Hp->VK->Prop)(g:D->List D->Sto->Res D):Prop :=
 ∀(α : List ac)(m:Sto)(H:Hp)(x:D)(xs:List D)(vx:V)(vs:List V)(Q:VK),Wd K cl α m H->Rep K α H x vx->RepL K α H xs vs->PQ K cl ex (g x xs m) α H (fun d α' _ H'=>∀v,Rep K α' H' d v->Q v H')->r vx vs H Q
def zq0(d:D)(_:Sto):Bool:=match d with
 |.str _=>ae|_=>ai
def zcj(d:D)(m:Sto):Bool:=match d with
 |.lst _=>ae|.ob k=>match m[k]? with
  |some (.lst _)=>ae|_=>ai
 |_=>ai
def zqZ(d:D)(_:Sto):Bool:=match d with
 |.tup _=>ae|_=>ai
variable{o:am}{es:List am}{fo:EV}{name:af}{apos cpos:ax}{r:V->List V->Hp->VK->Prop}
section
variable{e:am}{fr:AV}{T id:String}{g:D->List D->Sto->Res D}{ty:D->Sto->Bool}
theorem zrv(h:zq0 d m=ae)(W:Wd K cl α m H)(r:Rep K α H d v):tyV K "str" v H:=by
 cases d with
 |str z=>rw[Rep]at r;subst r;rfl|_=>cases h
theorem zc9(h:zcj d m=ae)(W:Wd K cl α m H)(r:Rep K α H d v):tyV K "list" v H:=by
 unfold zcj at h;split at h
 ·rw[Rep]at r;obtain⟨a,ys,rfl,_,b,R⟩:=r;exact .inl ⟨rfl,ys,.inl b⟩
 ·rw[Rep]at r;obtain⟨a,ha,rfl⟩:=r;split at h
  ·obtain⟨ys,b,_⟩:=W.lst ha ‹_›;exact .inl ⟨rfl,ys,SqL.of b⟩
  ·cases h
 ·cases h
theorem tBM_of(b:∀{α : List ac}{m:Sto}{H:Hp}{d:D}{v:V},ty d m=ae->Wd X.K cl α m H->Rep X.K α H d v->tyV X.K T v H)(hd:MtD X.K cl ex r g):∀σ H Q,tD X.K cl ex (zb2 ty g fo fr) σ H Q->tBM X.K T r (tD X.K cl ex fo) (tDA X.K cl ex fr) σ H Q:=fun σ H Q j=>ex3 j fun α ρ m W hr h=>
 tD.use W hr h fun e m1 n d v o w hr1 c q=>by
  obtain⟨i,q⟩:=PQ.if q;exact⟨b i w c,tDA.use w hr1 q fun a m2 l ds vs E k hr2 R f=>hd a m2 l d ds v vs Q k (c.mono w E) R f⟩
theorem zeo(p:PlainAttrs T)(slot:Slot T name id)(f:typeOf (.builtin id)=pure (.type "method_descriptor"))(hm:MtR X id r)(j:∀{α : List ac}{m:Sto}{H:Hp}{d:D}{v:V},ty d m=ae->Wd X.K cl α m H->Rep X.K α H d v->tyV X.K T v H)(hd:MtD X.K cl ex r g)(i:QE X cl ex o fo)(ha:QA X cl ex (e::es) fr)(b:autoParam (bc o name X.env (eval o X.env)=eval o X.env) AutoP.a3._auto_1)(c:autoParam (((aC cpos (ap (e::es) X.env)).all (fun x=> !x.1)&&(bd cpos (be [] X.env)).all (fun x=>x.1.isSome)&&decide ((e::es).length+([]:List bq).length+(if ([]:List bq).isEmpty then 0 else 1)<30))=ae) AutoP.a3._auto_1)(a:autoParam ((apos.endLine==cpos.line)=ae) AutoP.a3._auto_1)(hs:autoParam (ap (e::es) X.env=(ai,eval e X.env)::ap es X.env) AutoP.a3._auto_1)(h:autoParam ((aC cpos (ap es X.env)).any (·.1)=ai) AutoP.a3._auto_1) : QE X cl ex (.Call (.Attribute o name apos) (e::es) [] cpos) (zb2 ty g fo fr) :=
 ⟨PE.weak (pe_bm p slot f hm i.out ha.out b c a hs h) (tBM_of j hd)⟩
def zjc(o:D)(ds:List D)(m:Sto):Res D:=match o,ds with
 |.str z,[d]=>match (lOf d m).bind zfs with
  |some ts=>if JoinOk z ts=ae then .ok (.str (Txt.join z ts)) m else .bad|none=>.bad
 |_,_=>.bad
theorem zoB:MtD K cl ex (fun x xs H Q=>∃(z:af)(l:ac)(ts:List af),x = .str z/\xs=[.ref l]/\SqL K H l (ts.map V.str)/\JoinOk z ts=ae/\Q (.str (Txt.join z ts)) H) zjc:=fun α m H x xs g vs Q W R r h=>by
 unfold zjc at h;split at h
 ·split at h
  ·rename_i e;obtain⟨d,h⟩:=PQ.if h;rw[Rep]at R;obtain⟨v,rfl,b⟩:=r.one_of;obtain⟨xs,f,E⟩:=yax.mp e;obtain⟨p,ys,rfl,a,c⟩:=ze7 W f b;rw[zhs E c]at a;exact⟨_,p,_,R,rfl,a,d,PQ.ok W h _ repS⟩
  ·exact h.elim
 ·exact h.elim
def za9(o:D)(ds:List D)(m:Sto):Res D:=match o,ds with
 |.ob k,[d]=>match m[k]? with
  |some (.lst xs)=>if xs.length<sizeLine then .ok .non (m.set k (.lst (xs++[d]))) else .bad|_=>.bad
 |_,_=>.bad
theorem zbg:MtD K cl ex znO za9:=fun α m H x xs V vs Q W R r h=>by
 unfold za9 at h;split at h
 ·split at h
  ·rename_i k d _ ds e;obtain⟨f,h⟩:=PQ.if h;rw[Rep]at R;obtain⟨a,ha,rfl⟩:=R;obtain⟨v,rfl,c⟩:=r.one_of;obtain⟨ys,g,b⟩:=W.lst ha e;obtain⟨w,i⟩:=W.set (u := .lst (ys++[v])) (o := .lst (ds++[d])) ha fun E=>⟨_,zaF,RepL.append (b.mono W E) (RepL.one (c.mono W E))⟩;exact⟨a,ys,v,rfl,rfl,g,by rw[<- b.length];exact f,h _ _ i w _ repN⟩
  ·exact h.elim
 ·exact h.elim
def popM(o:D)(ds:List D)(m:Sto):Res D:=match o,ds with
 |.ob k,[.int i]=>match m[k]? with
  |some (.lst xs)=>if -(2^63)<=i/\i<2^63 then match bQ i xs.length with
   |some j=>match xs[j]? with
    |some d=>.ok d (m.set k (.lst (xs.eraseIdx j)))|none=>.bad
   |none=>.bad else .bad
  |_=>.bad
 |_,_=>.bad
theorem RepL.erase(j:Nat)(r:RepL K α H ds vs):RepL K α H (ds.eraseIdx j) (vs.eraseIdx j):=by
 rw[ydP,ydP];exact RepL.append (r.take j) (r.drop (j+1))
theorem md_pop:MtD K cl ex zrB popM:=fun α m H x xs V vs Q W c r h=>by
 unfold popM at h;split at h
 ·split at h
  ·rename_i k i _ ds e;obtain⟨g,h⟩:=PQ.if h;rw[Rep]at c;obtain⟨a,ha,rfl⟩:=c;obtain⟨v,rfl,f⟩:=r.one_of;rw[Rep]at f;subst f;obtain⟨ys,p,b⟩:=W.lst ha e;split at h
   ·rename_i j q;split at h
    ·rename_i d s;obtain⟨w,n,R⟩:=b.get s;obtain⟨t,l⟩:=W.set (u := .lst (ys.eraseIdx j)) (o := .lst (ds.eraseIdx j)) ha fun E=>⟨_,zaF,(b.mono W E).erase j⟩;exact⟨a,ys,i,j,w,rfl,rfl,p,g.1,g.2,by rw[<- b.length];exact q,n,h _ _ l t _ (R.mono W l)⟩
    ·exact h.elim
   ·exact h.elim
  ·exact h.elim
 ·exact h.elim
end
variable{x:af}{p:ax}
section
theorem zmI:MtM X "tuple.index" (fun x xs H Q=>∃(a:ac)(ns:List Int)(v:Int)(j:Nat)(h:j<ns.length),x = .ref a/\xs=[.int v]/\SqT X.K H a (ns.map V.int)/\ns[j]=v/\(∀m (hm:m<ns.length),m<j->ns[m]≠v)/\Q (.int (j:Int)) H):=by
 intro pins s σ H x xs v us Q I R rs h;obtain⟨a,ns,z,j,A,rfl,rfl,ha,o,d,q⟩:=h;cases R;obtain⟨u,rfl,t,rfl⟩:=zcA rs;obtain⟨its,r,p,_⟩:=I.tuple ha;have k:ns.length=its.length:=by rw[<- r.length,yd]
 have c:∀m (hm:m<ns.length),∃t',its[m]'(by omega) = .int ns[m] t':=fun m hm=>by
  obtain⟨t',e⟩:=znc r (i:=m) (v:=its[m]'(by omega)) (by simp);refine⟨t',?_⟩;rw[e,zo3 hm]
 have f1:zjv (.int z)=ae:=rfl;have f2:(ns.map V.int).all zjv=ae:=by simp[zjv]
 obtain⟨⟨cls,dd,data,sl⟩,g,l,n,hd⟩:=id p;simp only at l hd;subst l hd;refine br ydQ ⟨_,g,rfl⟩ PySem.F.entry_tuple_index (PySem.F.args_tuple_index_2 _ _) (zhC a its.toArray n dd sl (.int z t) (eqU (.int z)) j (by simp;omega) ?_ ?_) ⟨g,?_,?_⟩
 ·obtain⟨t',e⟩:=c j A;simp only[ydR];rw[e,o];show eqV (.int z) (.int z)=ae;simp[eqV]
 ·intro m hm f;have b:m<ns.length:=by simp at hm;omega
  obtain⟨t',e⟩:=c m b;simp only[ydR];rw[e];show eqV (.int ns[m]) (.int z)=ai;have:=d m b f;simp[eqV,this]
 ·intro y w;exact zlp (x := .int z) ⟨t,rfl⟩ f1 r f2 y (by simpa using w)
 ·exact⟨.int (j:Int),H,I.tok _,⟨_,rfl⟩,q⟩
def tBMQ(K:ya)(r:V->List V->Hp->VK->Prop)(T:TE)(t:TA):TE:=fun σ H Q=>T σ H fun x H1=>(∃p xs,x = .ref p/\TupAt K H1 p xs)/\t σ H1 fun ys H2=>r x ys H2 Q
theorem pe_bmQ{e:am}{T:TE}{t:TA}{id:String}(slot:Slot "tuple" name id)(i:typeOf (.builtin id)=pure (.type "method_descriptor"))(hm:MtR X id r)(y:PE X o T)(ha:PA X [e] t)(c:autoParam (bc o name X.env (eval o X.env)=eval o X.env) AutoP.a3._auto_1)(d:autoParam (((aC cpos (ap [e] X.env)).all (fun x=> !x.1)&&(bd cpos (be [] X.env)).all (fun x=>x.1.isSome)&&decide (([e]:List am).length+([]:List bq).length+(if ([]:List bq).isEmpty then 0 else 1)<30))=ae) AutoP.a3._auto_1)(b:autoParam ((apos.endLine==cpos.line)=ae) AutoP.a3._auto_1)(hs:autoParam (ap [e] X.env=[(ai,eval e X.env)]) AutoP.a3._auto_1) : PE X (.Call (.Attribute o name apos) [e] [] cpos) (tBMQ X.K r T t):=by
 intro pins s σ H Q I h;refine wpAny_Call_method_late c d b rfl (thn (y pins s σ H _ I h) ?_);rintro v s1 ⟨x,n,l,q,⟨p,xs,ex,j⟩,w⟩;subst ex;cases q;obtain⟨ob,f,k,g⟩:∃ob,s1.heap.get? p=aa ob/\ob.cls = .type "tuple" /\ ob.dict=none:=by
  rcases j with j|⟨o,_,_,k1,k2,k3,_⟩
  ·obtain⟨_,_,_,⟨ob,f,k,_⟩,od,g,z⟩:=(show ObjOk X.prog X.w n s1.heap p (.tup xs) from l.hok p _ j);rw[f]at g;cases g;exact⟨ob,f,k,z⟩
  ·exact⟨o,l.kIn p o k1,k2,k3⟩
 refine⟨"tuple", id,PySem.F.plainAttrs_tuple,slot,i,⟨ob,f,k⟩,fun a e=>by cases e;exact⟨ob,f,g⟩,?_⟩;have m:=ha cpos pins s1 σ n _ l w;rw[hs]at m ⊢;refine ycF rfl (ydv ?_);refine thn m ?_;rintro us s2 ⟨vs,B,A,R,u⟩;exact hm pins s2 σ B (.ref p) vs (.ref p) us Q A rfl R u
def zd1(o:D)(ds:List D)(m:Sto):Res D:=match o,ds with
 |.tup xs,[.int v]=>match zeM xs with
  |some ns=>if v∈ns then .ok (.int (ns.idxOf v)) m else .bad|none=>.bad
 |_,_=>.bad
theorem zoA:MtD K cl ex (fun x xs H Q=>∃(a:ac)(ns:List Int)(v:Int)(j:Nat)(h:j<ns.length),x = .ref a/\xs=[.int v]/\SqT K H a (ns.map V.int)/\ns[j]=v/\(∀m (hm:m<ns.length),m<j->ns[m]≠v)/\Q (.int (j:Int)) H) zd1:=fun α m H x xs i vs Q W R r h=>by
 unfold zd1 at h;split at h
 ·split at h
  ·rename_i ns e;obtain⟨g,h⟩:=PQ.if h;rw[Rep]at R;obtain⟨a,ys,rfl,d,f⟩:=R;obtain⟨v,rfl,c⟩:=r.one_of;rw[Rep]at c;subst c;have hl:=List.idxOf_lt_length_of_mem g;rw[zcX e f]at d;refine⟨a,ns,_,_,hl,rfl,rfl,d.sq,List.getElem_idxOf hl,fun k l b z=>?_,PQ.ok W h _ zfy⟩;have:=List.not_of_lt_findIdx (xs:=ns) (p:=(· == _)) (by unfold List.idxOf at b;exact b);simp[z]at this
  ·exact h.elim
 ·exact h.elim
theorem ziG{e:am}{fr:AV}(l:QE X cl ex o fo)(ha:QA X cl ex [e] fr)(c:autoParam (bc o "index" X.env (eval o X.env)=eval o X.env) AutoP.a3._auto_1)(f:autoParam (((aC cpos (ap [e] X.env)).all (fun x=> !x.1)&&(bd cpos (be [] X.env)).all (fun x=>x.1.isSome)&&decide (([e]:List am).length+([]:List bq).length+(if ([]:List bq).isEmpty then 0 else 1)<30))=ae) AutoP.a3._auto_1)(b:autoParam ((apos.endLine==cpos.line)=ae) AutoP.a3._auto_1)(hs:autoParam (ap [e] X.env=[(ai,eval e X.env)]) AutoP.a3._auto_1) : QE X cl ex (.Call (.Attribute o "index" apos) [e] [] cpos) (zb2 zqZ zd1 fo fr) :=
 ⟨PE.weak (pe_bmQ ydQ PySem.F.type_tuple_index zmI l.out ha.out c f b hs) fun σ H Q n=>ex3 n fun α ρ m W hr h=>tD.use W hr h fun i m1 u d v y w hr1 R q=>by
  obtain⟨k,q⟩:=PQ.if q;refine⟨?_,tDA.use w hr1 q fun g m2 t ds vs E s hr2 r j=>zoA g m2 t d ds v vs Q s (R.mono w E) r j⟩;cases d with
  |tup ds=>rw[Rep]at R;obtain⟨a,ys,rfl,p,_⟩:=R;exact⟨a,ys,rfl,p⟩
  |_=>cases k⟩
def tyN(d:D)(m:Sto):Option String:=match d with
 |.non=>aa "NoneType"|.bl _=>aa "bool"|.int _=>aa "int"|.str _=>aa "str"|.flt _=>aa "float"|.tup _=>aa "tuple"|.lst _=>aa "list"|.ob k=>match m[k]? with
  |some (.lst _)=>aa "list"|some (.dct _)=>aa "dict"|_=>none
 |_=>none
def isiB(t n:String):Bool:=t==n||(t == "bool" && n == "int")
def zil(n:String)(d:D)(m:Sto):Res D:=match tyN d m with
 |some t=>.ok (.bl (isiB t n)) m|none=>.bad
def zrp:List String:=["int", "bool", "str", "tuple", "list", "dict"]
theorem ztk{t n:String}(h:tyN d m=aa t)(hn:n∈zrp):yau K (.type t) (.type n)=aa (isiB t n):=by
 have H:t∈["NoneType", "bool", "int", "str", "float", "tuple", "list", "dict"]:=by
  unfold tyN at h;split at h <;> first | (cases h;simp;done) | (split at h <;> first | (cases h;simp;done) | cases h) | cases h
 simp only[zrp,yA,yK,or_false]at hn H;rcases hn with rfl|rfl|rfl|rfl|rfl|rfl <;> rcases H with rfl|rfl|rfl|rfl|rfl|rfl|rfl|rfl <;> rfl
theorem zpJ{n:String}(hn:n∈zrp):CallR X (.builtin "isinstance") (fun xs H Q=>∃cl α m d v t,xs=[v,.ty n]/\Wd X.K cl α m H/\Rep X.K α H d v/\tyN d m=aa t/\Q (.bl (isiB t n)) H):=by
 intro pins s σ H xs us Q I r h;obtain⟨cl,α,m,d,v,t,rfl,W,R,b,q⟩:=h;obtain⟨u,w,rfl,g,f⟩:=zhB r;cases f;have k:=ztk (K:=X.K) b hn;have O:∀{t':ag},TyOf X.K H v t'->t' = .type t->wpAny (ao X.prog X.w) X.A (call (.builtin "isinstance") [u,.type n]) (EP X pins σ Q) X.xe s:=fun {t'} ty e=>by
  subst e;exact zgj I g ty k fun T=>⟨.bl _,H,I.tok _,rfl,q⟩
 unfold tyN at b;split at b
 ·cases b;rw[Rep]at R;subst R;exact O .non rfl
 ·cases b;rw[Rep]at R;subst R;exact O (.bl _) rfl
 ·cases b;rw[Rep]at R;subst R;exact O (.int _) rfl
 ·cases b;rw[Rep]at R;subst R;exact O (.str _) rfl
 ·cases b;rw[Rep]at R;subst R;exact O (.flt _) rfl
 ·cases b;rw[Rep]at R;obtain⟨a,xs,rfl,c,_⟩:=R;rcases c with c|⟨o,_,_,k1,k2,_⟩
  ·exact O (.tup c) rfl
  ·cases g;exact yae ydo I.kIn ⟨o,I.kIn a o k1,k2⟩ k (fun z=>nomatch z) fun T=>⟨.bl _,H,I.tok _,rfl,q⟩
 ·cases b;rw[Rep]at R;obtain⟨a,xs,rfl,_,c,_⟩:=R;rcases c with c|⟨o,c⟩
  ·exact O (.lst c) rfl
  ·exact O (.frz c) rfl
 ·rw[Rep]at R;obtain⟨a,ha,rfl⟩:=R;split at b
  ·cases b;obtain⟨xs,c,_⟩:=W.lst ha ‹_›;exact O (.lst c) rfl
  ·cases b;obtain⟨xs,c,_⟩:=W.dct ha ‹_›;exact O (.dK c) rfl
  ·cases b
 ·cases b
theorem zen{e:am}{p2:ax}{n:String}(hn:n∈zrp)(s:Gl X "isinstance")(hm:X.mg "isinstance" = none)(f:Gl X x)(c:X.mg x=none)(l:aT x=aa (.type n))(ha:QE X cl ex e fa)(k:autoParam (x ≠ "__name__") AutoP.a1._auto_1)(i:autoParam ((x==("__debug__" : af))=ai) AutoP.a1._auto_1)(j:autoParam (ap [e,.Name x p2] X.env=(ai,eval e X.env)::ap [.Name x p2] X.env) AutoP.a3._auto_1)(g:autoParam (ap [.Name x p2] X.env=(ai,eval (.Name x p2) X.env)::ap [] X.env) AutoP.a3._auto_1)(b:autoParam ((aC pos (ap [.Name x p2] X.env)).any (·.1)=ai) AutoP.a3._auto_1) : QE X cl ex (.Call (.Name "isinstance" p) [e,.Name x p2] [] pos) (eUn (zil n) fa) :=
 ⟨PE.weak (zeq (zpJ hn) s hm cq (za2 ha.out (za2 (zn3 (v := .ty n) f c l rfl k i) zda g) j) (by decide) (by decide) j b) fun σ H Q o=>ex3 o fun α ρ m W hr h=>tD.use W hr h fun a m1 t d v E w hr1 r q=>by
  unfold zil at q;split at q
  ·exact⟨cl,a,m1,d,v,_,rfl,w,r,‹_›,PQ.ok w q _ zf2⟩
  ·exact q.elim⟩
def inB(x:D)(ds:List D):Option Bool:=if zfI x&&(pyOkL ds&&PyData.canLayAll0 (pyL ds)) then aa ((pyL ds).any fun y=>PyData.eqv y (py x)) else none
def inO(x y:D)(m:Sto):Option Bool:=match y with
 |.tup ds=>inB x ds|.lst ds=>inB x ds|.ob k=>match m[k]? with
  |some (.lst ds)=>inB x ds|some (.dct kvs)=>match x with
   |.int i=>aa (zjR kvs (.inl i)).isSome|.str z=>aa (zjR kvs (.inr z)).isSome|_=>none
  |_=>none
 |.str j=>match x with
  |.str i=>aa (!(ybK j i 0 j.length 1).isEmpty)|_=>none
 |_=>none
def inD(x y:D)(m:Sto):Res D:=match inO x y m with
 |some b=>.ok (.bl b) m|none=>.bad
def zi2(x y:D)(m:Sto):Res D:=match inO x y m with
 |some b=>.ok (.bl (!b)) m|none=>.bad
def rInS(K:ya)(f:Bool->Bool):R2:=fun vx vy H Q=>∃(α : List ac)(x:D)(ds:List D)(p:ac)(ys:List V),vy = .ref p/\(SqL K H p ys∨SqT K H p ys)/\RepL K α H ds ys/\Rep K α H x vx/\zfI x=ae/\pyOkL ds=ae/\PyData.canLayAll0 (pyL ds)=ae/\Q (.bl (f ((pyL ds).any fun y=>PyData.eqv y (py x)))) H
def rInD(f:Bool->Bool):R2:=fun x y H Q=>∃a o,y = .ref a/\DGet H a x o/\Q (.bl (f o.isSome)) H
def rInT(f:Bool->Bool):R2:=fun x y H Q=>∃i j,x = .str i/\y = .str j/\Q (.bl (f (!(ybK j i 0 j.length 1).isEmpty))) H
def zsx(K:ya)(f:Bool->Bool):R2:=fun x y H Q=>rInS K f x y H Q∨rInD f x y H Q∨rInT f x y H Q
theorem op_inS(l:X.A.units+65<aM):OpR X (aB .In) (rInS X.K id):=by
 intro pins s σ H m V v u Q I j i h;obtain⟨α,x,ds,p,ys,rfl,sq,c,k,d,ok,C,q⟩:=h;cases i;rw[zfI,yL]at d;obtain⟨bs,f⟩:=zch I d.1 k j;have g:=SeqAt.canLay_of_shaped d.2;have R:=PyProof.Rows.room_in_shaped (A:=X.A) (xs:=pyL ds) d.2 l;rcases sq with sq|sq
 ·obtain⟨its,r,⟨o,n,b,E,_,e⟩,_⟩:=I.list sq;obtain⟨as,a⟩:=rep_readsL I ok c r;exact SeqAt.in_list_reads (Reads.list b E e (by simpa using a)) f C g R ⟨.bl _,H,I,rfl,q⟩
 ·obtain⟨its,r,⟨o,b,E,n,e⟩,_⟩:=I.tuple sq;obtain⟨as,a⟩:=rep_readsL I ok c r;exact SeqAt.in_tuple_reads (Reads.tuple b E e (by simpa using a)) f C g R ⟨.bl _,H,I,rfl,q⟩
theorem zn6(l:X.A.units+65<aM):OpR X (aB .NotIn) (rInS X.K not):=by
 intro pins s σ H m V v u Q I j i h;obtain⟨α,x,ds,p,ys,rfl,sq,c,k,d,ok,C,q⟩:=h;cases i;rw[zfI,yL]at d;obtain⟨bs,f⟩:=zch I d.1 k j;have g:=SeqAt.canLay_of_shaped d.2;have R:=PyProof.Rows.room_in_shaped (A:=X.A) (xs:=pyL ds) d.2 l;rcases sq with sq|sq
 ·obtain⟨its,r,⟨o,n,b,E,_,e⟩,_⟩:=I.list sq;obtain⟨as,a⟩:=rep_readsL I ok c r;exact SeqAt.notIn_list_reads (Reads.list b E e (by simpa using a)) f C g R ⟨.bl _,H,I,rfl,q⟩
 ·obtain⟨its,r,⟨o,b,E,n,e⟩,_⟩:=I.tuple sq;obtain⟨as,a⟩:=rep_readsL I ok c r;exact SeqAt.notIn_tuple_reads (Reads.tuple b E e (by simpa using a)) f C g R ⟨.bl _,H,I,rfl,q⟩
theorem op_inD(b:X.A.units+1<aM):OpR X (aB .In) (rInD id):=by
 intro pins s σ H x y v u Q I R r h;obtain⟨a,o,rfl,g,q⟩:=h;cases r;exact d_in b I g R fun s' i=>⟨.bl _,H,i,rfl,q⟩
theorem zn7(b:X.A.units+1<aM):OpR X (aB .NotIn) (rInD not):=by
 intro pins s σ H x y v u Q I R r h;obtain⟨a,o,rfl,g,q⟩:=h;cases r;exact ztI b I g R fun s' i=>⟨.bl _,H,i,rfl,q⟩
theorem hu65{A:az}{k:Nat}(hr:Room k A):A.units+65<aM:=by have:=hr.un;omega
theorem op_inA{k:Nat}(hr:Room k X.A):OpR X (aB .In) (zsx X.K id):=OpR.or (op_inS (hu65 hr)) (OpR.or (op_inD (zmP hr)) zoc)
theorem zn8{k:Nat}(hr:Room k X.A):OpR X (aB .NotIn) (zsx X.K not):=OpR.or (zn6 (hu65 hr)) (OpR.or (zn7 (zmP hr)) ziO)
theorem zoZ{f:Bool->Bool}{x:D}(W:Wd K cl α m H)(e:inO x y m=aa b)(c:Rep K α H x vx)(r:Rep K α H y vy)(q:Q (.bl (f b)) H):zsx K f vx vy H Q:=by
 have seq:∀{ds:List D}{p:ac}{ys:List V},inB x ds=aa b->vy = .ref p->(SqL K H p ys∨SqT K H p ys)->RepL K α H ds ys->zsx K f vx vy H Q:=fun {ds p ys} E l s o=>by
  unfold inB at E;split at E
  ·rename_i j;rw[yL,yL]at j;exact .inl ⟨α,x,ds,p,ys,l,s,o,c,j.1,j.2.1,j.2.2,by rw[yP E];exact q⟩
  ·cases E
 unfold inO at e;split at e
 ·rw[Rep]at r;obtain⟨a,ys,rfl,g,R⟩:=r;exact seq e rfl (.inr g.sq) R
 ·rw[Rep]at r;obtain⟨a,ys,rfl,_,g,R⟩:=r;exact seq e rfl (.inl (.inl g)) R
 ·rw[Rep]at r;obtain⟨a,ha,rfl⟩:=r;split at e
  ·obtain⟨ys,g,R⟩:=W.lst ha ‹_›;exact seq e rfl (.inl (SqL.of g)) R
  ·obtain⟨ys,g,R⟩:=W.dct ha ‹_›;have i:∀{k:L2.Key},vx=kV k->aa (zjR _ k).isSome=aa b->zsx K f vx (.ref a) H Q:=fun {k} E l=>by
    refine .inr (.inl ⟨a,zjQ ys k,rfl,by rw[E];exact DGet.k g,?_⟩);have:(zjQ ys k).isSome=b:=by
     rw[<- yP l];cases h:zjR _ k with
     |none=>rw[(RepKV.val R).2 h];rfl|some d=>obtain⟨v,n,_⟩:=(RepKV.val R).1 d h;rw[n];rfl
    rw[this];exact q
   split at e
   ·rw[Rep]at c;exact i (k := .inl _) c e
   ·rw[Rep]at c;exact i (k := .inr _) c e
   ·cases e
  ·cases e
 ·split at e
  ·rw[Rep]at c;rw[Rep]at r;exact .inr (.inr ⟨_,_,c,r,by rw[yP e];exact q⟩)
  ·cases e
 ·cases e
theorem od_in:OpD K cl ex (zsx K id) inD:=fun α m H x y V v Q W R r h=>by
 unfold inD at h;split at h
 ·exact zoZ (f:=id) W ‹_› R r (PQ.ok W h _ zf2)
 ·exact h.elim
theorem zqO:OpD K cl ex (zsx K not) zi2:=fun α m H x y V v Q W R r h=>by
 unfold zi2 at h;split at h
 ·exact zoZ (f:=not) W ‹_› R r (PQ.ok W h _ zf2)
 ·exact h.elim
end
variable{ks:List (Option am)}
section
variable{i e value:am}{fi fv:EV}{fr:AV}{pos':ax}
def zoL(d:D):Option L2.Key:=match d with
 |.int i=>aa (.inl i)|.str z=>aa (.inr z)|_=>none
def putS(x y v:D)(m:Sto):Res Unit:=match x with
 |.ob k=>match m[k]?,zoL y with
  |some (.dct kvs),aa q=>if kvs.length<sizeLine then .ok () (m.set k (.dct (zm2 kvs q v))) else .bad|some (.lst ds),aa (.inl i)=>match ixN ds.length i with
   |some j=>.ok () (m.set k (.lst (ds.set j v)))|none=>.bad
  |_,_=>.bad
 |_=>.bad
theorem zoK{k:L2.Key}(h:zoL d=aa k)(r:Rep K α H d v):v=kV k:=by
 unfold zoL at h;split at h
 ·cases h;rw[Rep]at r;exact r
 ·cases h;rw[Rep]at r;exact r
 ·cases h
def ziL(x y v:D)(m:Sto):Res Unit:=match x with
 |.ob k=>match m[k]? with
  |some (.dct kvs)=>match zoL y with
   |some q=>if kvs.length<sizeLine then .ok () (m.set k (.dct (zm2 kvs q v))) else .bad|none=>.bad
  |_=>.bad
 |_=>.bad
def ziz(fo F f:EV):SV:=fun ρ m=>(f ρ m).bind fun v m1=>(fo ρ m1).bind fun x m2=>(F ρ m2).bind fun y m3=>(ziL x y v m3).bind fun _ M=>.ok (.nx ρ) M
theorem zkd(B:X.A.units+1<aM)(C:QE X cl ex o fo)(hi:QE X cl ex i fi)(A:QE X cl ex value fv)(hs:aQ value (aa (.Subscript o i pos')) pos.line X.env=pure ai) : QS X cl ex (.Assign [.Subscript o i pos'] value pos) (ziz fo fi fv) :=
 ⟨PS.weak (zsQ B C.out hi.out A.out hs) fun D σ H F=>ex3 F fun α ρ m W hr h=>tD.use W hr h fun p m1 S d v T g hr1 R z=>tD.use g hr1 z fun n m2 P dx x N f hr2 r t=>tD.use f hr2 t fun b m3 M O y l w hr3 s Q=>by
  have R:=R.mono g (N.trans l);have r:=r.mono f l;unfold ziL at Q;split at Q
  ·rw[Rep]at r;obtain⟨a,ha,rfl⟩:=r;split at Q
   ·rename_i k _ kvs e;split at Q
    ·rename_i q K;split at Q
     ·rename_i G;obtain⟨ys,I,c⟩:=w.dct ha e;obtain⟨L,j⟩:=w.set (u := .dK (zf4 ys q v)) (o := .dct (zm2 kvs q d)) ha fun E=>⟨_,zaF,RepKV.put (R.mono w E) (c.mono w E)⟩;refine⟨a,_,rfl,by rw[zoK K s];exact DPut.k I (by rw[<- c.length];exact G),?_⟩;exact(show PQ X.K cl ex (.ok (.nx ρ) (m3.set k (.dct (zm2 kvs q d)))) b M fun J α' _ H'=>zdK X.K D J α' H' from Q) _ _ j L _ (hr3.mono w j)
     ·exact Q.elim
    ·exact Q.elim
   ·exact Q.elim
  ·exact Q.elim⟩
def zfi:List (af×EV)->En->Sto->Res (List (L2.Key×D))
 |[],_,m=>.ok [] m| (k,f)::r,ρ,m=>(f ρ m).bind fun d m1=>(zfi r ρ m1).bind fun ps m2=>.ok ((.inr k,d)::ps) m2
def zlo(more:List (L2.Key×D)):List (L2.Key×D):=more.foldl (fun a k=>zm2 a k.1 k.2) []
def zmV(fs:List (af×EV)):EV:=fun ρ m=>(zfi fs ρ m).bind fun ps m1=>.ok (.ob m1.length) (m1++[.dct (zlo ps)])
inductive QPs(X:Cx)(cl:af->ac)(ex:XD):List (Option am)->List am->List (af×EV)->Prop where
 |nil:QPs X cl ex [] [] []
 |cons {k:af} {j} {pk:ax} {v:am} {f:EV} {ks:List (Option am)} {vs:List am} {fs:List (af×EV)}:QE X cl ex v f->QPs X cl ex ks vs fs->QPs X cl ex (aa (.Constant (.str k) j pk)::ks) (v::vs) ((k,f)::fs)
theorem QPs.pps{vs:List am}{fs:List (af×EV)}(h:QPs X cl ex ks vs fs):PPs X pos ks vs (fs.map fun q=>(tC (.str q.1),tD X.K cl ex q.2)):=by
 induction h with
 |nil=>exact zsR|cons H _ i=>exact zqz zrG H.out i
theorem QPs.keys{vs:List am}{fs:List (af×EV)}(h:QPs X cl ex ks vs fs):ks.all (·.isSome)=ae/\ks.length=vs.length/\ks.length=fs.length:=by
 induction h with
 |nil=>exact⟨rfl,rfl,rfl⟩|cons _ _ i=>exact⟨by rw[ybP,i.1];rfl,by rw[yx,yx,i.2.1],by rw[yx,yx,i.2.2]⟩
theorem zir{K:ya}{σ : L2.St}{ρ : En}{R:RD (List (L2.Key×D))}:∀(fs:List (af×EV)){α : List ac}{m:Sto}{H:Hp}{Q:List (V×V)->Hp->Prop},Wd K cl α m H->RepE K α H ρ σ -> PQ K cl ex (zfi fs ρ m) α H R →
  (∀a m1 H1 ps vs,Ext α H a H1->Wd K cl a m1 H1->RepE K a H1 ρ σ -> ps.length=fs.length->RepKV K a H1 ps vs->R ps a m1 H1->Q (vs.map fun l=>(kV l.1,l.2)) H1)->zlb (fs.map fun q=>(tC (.str q.1),tD K cl ex q.2)) σ H Q
 |[],α,m,H,Q,W,hr,h,i=>i α m H [] [] (Ext.refl W) W hr rfl rfl (PQ.ok W h)| (k,f)::r,α,m,H,Q,W,hr,h,i=>by
  refine tD.use W hr h fun a m1 H1 d v p j hr1 n o=>?_;refine zir (R:=fun ps b m2 c=>R ((.inr k,d)::ps) b m2 c) r j hr1 (PQ.mono (Ext.refl j) o.bind fun ps b m2 c E w g=>PQ.ok w g) fun b m2 c ps vs E w hr2 hl e g=>?_;exact i b m2 c ((.inr k,d)::ps) ((.inr k,v)::vs) (p.trans E) w hr2 (by rw[yx,yx,hl]) ⟨v,vs,rfl,n.mono j E,e⟩ g
theorem ziC{K:ya}{α : List ac}{H:Hp}:∀(ps:List (L2.Key×D)){vs:List (L2.Key×V)}{q:List (L2.Key×D)}{us:List (L2.Key×V)},RepKV K α H ps vs->RepKV K α H q us->RepKV K α H (ps.foldl (fun a k=>zm2 a k.1 k.2) q) (zdv us vs)
 |[],_,_,_,h,h'=>by
  cases (show _=[] from h);exact h'
 |p::r,_,_,_,⟨v,r',e,h1,h2⟩,h'=>by
  subst e;exact(show RepKV K α H _ (zdv (zf4 _ p.1 v) r') from ziC r h2 (RepKV.put h1 h'))
theorem zsH{vs:List am}{fs:List (af×EV)}(h:QPs X cl ex ks vs fs)(G:ks≠[])(k:ks.length<=15):QE X cl ex (.Dict ks vs pos) (zmV fs) :=
 ⟨PE.weak (zs1 h.pps h.keys.1 h.keys.2.1 G k) fun σ H Q F=>ex3 F fun α ρ m W hr q p j=>by
  have S:=Same.new (o := .dK []) j;have I:=W.same S;have E0:=Ext.of_same W S;refine zir (R:=fun ps f m1 g=>PQ X.K cl ex (.ok (.ob m1.length) (m1++[.dct (zlo ps)])) α H fun d α' _ H'=>∀v,Rep X.K α' H' d v->Q v H') fs I (hr.mono W E0) ?_ fun f m1 g ps us B C hr1 hl r D=>?_
  ·cases t:zfi fs ρ m with
   |ok ps m1=>rw[show zmV fs ρ m=(zfi fs ρ m).bind _ from rfl,t]at q;exact fun _ _ _ _=>q|exc c m1=>rw[show zmV fs ρ m=(zfi fs ρ m).bind _ from rfl,t]at q;exact fun l J A y=>q l J (E0.trans A) y|bad=>rw[show zmV fs ρ m=(zfi fs ρ m).bind _ from rfl,t]at q;exact q
  have pn:p∉α := W.nin j;have pk:g p=aa (.dK []):=B.keep p _ zaF pn;have E:Ext α H f g:=E0.trans B;have P:p∉f:=fun z=>by
   obtain⟨β,rfl,x⟩:=B.pre;rcases y6.mp z with z|z
   ·exact pn z
   ·have:=x p z;rw[zaF]at this;cases this
  refine⟨pk,us,rfl,by rw[<- r.length,hl,<- h.keys.2.2];exact k,?_⟩;have keep:∀a o,g a=aa o->a≠p->upd g p (.dK (zdv [] us)) a=aa o:=fun a o e n=>by rw[zax n];exact e
  have kp:Kp f g (f++[p]) (upd g p (.dK (zdv [] us))):=by
   refine⟨⟨[p],rfl⟩,(fun a xs e=>keep a _ e fun z=>by rw[z,pk]at e;cases e),(fun a xs n e=>?_),(fun a xs e=>keep a _ e fun z=>by rw[z,pk]at e;cases e),fun a xs e=>keep a _ e fun z=>by rw[z,pk]at e;cases e⟩;have i:a≠p:=fun z=>by
    rcases e with e|⟨_,e⟩ <;> rw[z,pk]at e <;> cases e
   refine⟨fun z=>?_,?_⟩
   ·rcases y6.mp z with z|z
    ·exact n z
    ·exact i (yS.mp z)
   ·rcases e with e|⟨o,e⟩
    ·exact .inl (keep a _ e i)
    ·exact .inr ⟨o,keep a _ e i⟩
  have y:=C.join (u := .dK (zdv [] us)) (o := .dct (zlo ps)) P kp ⟨_,zaF,ziC ps (r.kp kp) (show RepKV X.K _ _ [] [] from rfl)⟩;have A:Ext α H (f++[p]) (upd g p (.dK (zdv [] us))):=by
   obtain⟨β,s,x⟩:=E.pre;refine⟨⟨β ++ [p],by rw[s,yaS],fun b w=>?_⟩,fun a o e n=>?_,fun a ha=>?_,fun a o u e=>keep a _ (E.frzs a o u e) (zar e j)⟩
   ·rcases y6.mp w with z|z
    ·exact x b z
    ·rw[yS.mp z];exact j
   ·exact keep a o (E.keep a o e n) (zar e j)
   ·rw[zax (fun z=>pn (by rw[<- z];exact ha))];exact E.there a ha
  refine D _ _ A y _ ?_;rw[Rep];refine⟨p,?_,rfl⟩;rw[<- C.len,yaF (yb _)];simp⟩
def zqq(ds:List D)(m:Sto):Res (List D):=match ds with
 |[.int n]=>if 0<=n/\n<2^62 then .ok ((yC n.toNat).map fun i:Nat=>.int (n-1-i)) m else .bad|_=>.bad
theorem znK:∃f:List D->Sto->Res (List D),f=zqq:=⟨_,rfl⟩
def revR:List D->Sto->Res (List D):=ya2 znK
theorem znL:revR=zqq:=ya3 znK
theorem zsC{a:am}{tg:am}{p2 P:ax}(n:Gl X "reversed")(hm:X.mg "reversed" = none)(f:Gl X "range")(e:X.mg "range" = none)(ha:QA X cl ex [a] fr)(b:autoParam (ap [a] X.env=(ai,eval a X.env)::ap [] X.env) AutoP.a3._auto_1)(hs:autoParam (ap [.Call (.Name "range" p2) [a] [] P] X.env=[(ai,eval (.Call (.Name "range" p2) [a] [] P) X.env)]) AutoP.a3._auto_1):QI X cl ex tg (.Call (.Name "reversed" p) [.Call (.Name "range" p2) [a] [] P] [] pos) (zhv revR fr) :=
 ⟨PI.weak (pi_rev n hm (ziN zro f e boot_range ha.out (by decide) (by decide) b rfl) hs) fun σ H R l=>ex3 l fun α ρ m W hr q=>tDA.use W hr q fun g m1 t d v E s hr1 j Q=>by
  rw[znL]at Q;unfold zqq at Q;split at Q
  ·obtain⟨h,o⟩:=PQ.if Q;obtain⟨w,rfl,r⟩:=j.one_of;rw[Rep]at r;subst r;refine⟨_,rfl,h.1,h.2,fun k c=>⟨k,_,rfl,zaF,h.1,h.2,PQ.okS s (Same.new c) o _ (itd_f fun i α H=>by rw[Rep])⟩⟩
  ·exact Q.elim⟩
end
structure FnX(P:ar)(w:al)(K:ya)(mg:af->Option ag)(base:au)(cl:af->ac)(x:af)(k n:Nat)(g:List D->Sto->Res D):Prop where
 ex:∃(f:ac)(fd:aJ)(ps:List af),mg x=aa (.ref f)/\yaD K (.ref f)=ae/\Binds K fd ps []/\FnOk P w K mg base CX0 k f fd ps (spD K cl X0 n g)
variable{n:Nat}
theorem qe_fn{e:am}{fr:AV}{k:Nat}{g:List D->Sto->Res D}(h:FnX X.prog X.w X.K X.mg X.base cl x k n g)(hn:n=(e::es).length)(hr:Room k X.A)(c:Gl X x)(ha:QA X cl X0 (e::es) fr)(H:∀ρ m ds m1,fr ρ m = .ok ds m1->ds.length=(e::es).length)(b:autoParam ((x==("__debug__" : af))=ai) AutoP.a1._auto_1)(d:autoParam (ap (e::es) X.env=(ai,eval e X.env)::ap es X.env) AutoP.a3._auto_1)(a:autoParam ((aC pos (ap es X.env)).any (·.1)=ai) AutoP.a3._auto_1) : QE X cl X0 (.Call (.Name x p) (e::es) [] pos) (eFn g fr):=by
 obtain⟨f,fd,ps,o,l,j,i⟩:=h.ex;exact zsI i hn hr c o l j ha H b d a
variable{f:ac}{P:ar}{mg:af->Option ag}{base:au}{qual:af}{st:aq}{fd:aJ}{N ps:List af}{body:SV}
theorem FnX.mk'{w:al}{k:Nat}(F:Fun K x qual st f fd)(b:Binds K fd ps [])(m:mg x=aa (.ref f))(S:FnScope N ps (zai st))(hn:n=ps.length)(h:∀(cdv:ag)(A:az)(outer:List yaJ)(s:ak)(H:Hp)(E:XK),Room k (A.deeper (aN qual (zai st) s.heap.objs.size f cdv))->QSs (zkN CX0 P w K mg base N qual (zai st) f cdv A outer s H E).nox cl X0 (zbs st) body):FnX P w K mg base cl x (k+1) n (zaZ N.length body) :=
 ⟨f,fd,ps,m,F.kp,b,F.ok S (fun vs H Q E h=>by rw[<- hn];exact h.1) fun cdv A outer s H vs Q E hr q=>⟨_,(h cdv A outer s H E hr).out,fn_d q⟩⟩
theorem FnX.none{w:al}{k:Nat}(F:Fun K x qual st f fd)(b:Binds K fd ps [])(m:mg x=aa (.ref f)):FnX P w K mg base cl x k n (fun _ _=>.bad) :=
 ⟨f,fd,ps,m,F.kp,b,⟨fun vs H Q E h=>(by obtain⟨_,_,_,_,_,_,q⟩:=h;exact q.elim),fun A outer s H args us vs Q E _ _ _ _ h=>(by obtain⟨_,_,_,_,_,_,q⟩:=h;exact q.elim)⟩⟩
mutual
def clsd(n:Nat):D->Bool
 |.ob k=>decide (k<n)|.tup ds=>clsdL n ds|.lst ds=>clsdL n ds|.scr ds=>clsdL n ds|.exn _ ds=>clsdL n ds|_=>ae
def clsdL(n:Nat):List D->Bool
 |[]=>ae|d::r=>clsd n d&&clsdL n r
end
variable{β : List ac}{m1:Sto}
section
mutual
theorem Rep.clsd:∀{d:D}{v:V},Rep K α H d v->MD.clsd α.length d=ae
 |.non,_,_=>by simp[MD.clsd]|.bl _,_,_=>by simp[MD.clsd]|.int _,_,_=>by simp[MD.clsd]|.str _,_,_=>by simp[MD.clsd]|.flt _,_,_=>by simp[MD.clsd]|.byt _,_,_=>by simp[MD.clsd]|.ob k,_,h=>by
  rw[Rep]at h;obtain⟨a,h1,_⟩:=h;rw[MD.clsd];exact decide_eq_true (yc.mp h1).1
 |.tup ds,_,h=>by
  rw[Rep]at h;obtain⟨_,_,_,_,b⟩:=h;rw[MD.clsd];exact RepL.clsd b
 |.lst ds,_,h=>by
  rw[Rep]at h;obtain⟨_,_,_,_,_,b⟩:=h;rw[MD.clsd];exact RepL.clsd b
 |.scr ds,_,h=>by
  rw[Rep]at h;obtain⟨_,_,_,_,b⟩:=h;rw[MD.clsd];exact RepL.clsd b
 |.exn _ ds,_,h=>by
  rw[Rep]at h;obtain⟨_,_,_,_,_,_,_,_,b⟩:=h;rw[MD.clsd];exact RepL.clsd b
theorem RepL.clsd:∀{ds:List D}{vs:List V},RepL K α H ds vs->clsdL α.length ds=ae
 |[],_,_=>by simp[clsdL]|_::_,_,h=>by
  rw[RepL]at h;obtain⟨_,_,_,h1,h2⟩:=h;rw[clsdL,yL];exact⟨Rep.clsd h1,RepL.clsd h2⟩
end
mutual
theorem Rep.less:∀{d:D}{v:V},MD.clsd α.length d=ae->Rep K (α ++ β) H d v->Rep K α H d v
 |.non,_,_,h=>by simpa [Rep] using h|.bl _,_,_,h=>by simpa [Rep] using h|.int _,_,_,h=>by simpa [Rep] using h|.str _,_,_,h=>by simpa [Rep] using h|.flt _,_,_,h=>by simpa [Rep] using h|.byt _,_,_,h=>by simpa [Rep] using h|.ob k,_,c,h=>by
  rw[Rep]at h ⊢;obtain⟨a,h1,h2⟩:=h;rw[MD.clsd]at c;rw[yO (of_decide_eq_true c)]at h1;exact⟨a,h1,h2⟩
 |.tup ds,_,c,h=>by
  rw[Rep]at h ⊢;obtain⟨a,xs,e,h1,h2⟩:=h;rw[MD.clsd]at c;exact⟨a,xs,e,h1,RepL.less c h2⟩
 |.lst ds,_,c,h=>by
  rw[Rep]at h ⊢;obtain⟨a,xs,e,n,h1,h2⟩:=h;rw[MD.clsd]at c;exact⟨a,xs,e,fun z=>n (yaV _ z),h1,RepL.less c h2⟩
 |.scr ds,_,c,h=>by
  rw[Rep]at h ⊢;obtain⟨a,xs,e,h1,h2⟩:=h;rw[MD.clsd]at c;refine⟨a,xs,e,?_,RepL.less c h2⟩;rcases h1 with h1|h1
  ·exact .inl ⟨fun z=>h1.1 (yaV _ z),h1.2⟩
  ·exact .inr h1
 |.exn _ ds,_,c,h=>by
  rw[Rep]at h ⊢;obtain⟨a,C,dd,xs,e,n,h1,h2,b⟩:=h;rw[MD.clsd]at c;exact⟨a,C,dd,xs,e,n,h1,h2,RepL.less c b⟩
theorem RepL.less:∀{ds:List D}{vs:List V},clsdL α.length ds=ae->RepL K (α ++ β) H ds vs->RepL K α H ds vs
 |[],_,_,h=>by rw[RepL]at h ⊢;exact h|_::_,_,c,h=>by
  rw[RepL]at h ⊢;obtain⟨v,r,e,h1,h2⟩:=h;rw[clsdL,yL]at c;exact⟨v,r,e,Rep.less c.1 h1,RepL.less c.2 h2⟩
end
theorem RepKV.less{a:Hp}:∀{ds:List (L2.Key×D)}{vs us:List (L2.Key×V)},RepKV K α a ds us->RepKV K (α ++ β) H ds vs->RepKV K α H ds vs
 |[],_,_,_,h=>h|_::_,_,_,⟨_,_,_,c1,c2⟩,⟨v,r,e,h1,h2⟩=>⟨v,r,e,h1.less c1.clsd,RepKV.less c2 h2⟩
theorem RepF.less{a:Hp}:∀{ds:List (af×D)}{vs us:List (af×V)},RepF K α a ds us->RepF K (α ++ β) H ds vs->RepF K α H ds vs
 |[],_,_,_,h=>h|_::_,_,_,⟨_,_,_,c1,c2⟩,⟨v,r,e,h1,h2⟩=>⟨v,r,e,h1.less c1.clsd,RepF.less c2 h2⟩
theorem Wd.less{g:Hp}(w:Wd K cl α m g)(W:Wd K cl (α ++ β) m1 H)(e:m1.take m.length=m):Wd K cl α m H:=by
 refine⟨w.len,(ydK.mp W.nd).1,fun k a o b h=>?_⟩;have d:=(yc.mp b).1;have hm:k<m.length:=(yc.mp h).1;have f:m1[k]?=aa o:=by
  rw[<- e,ydr hm]at h;exact h
 have q:=W.at' k a o (by rw[yO d];exact b) f;have Q:=w.at' k a o b h;cases o with
 |lst ds=>obtain⟨xs,a1,a2⟩:=q;obtain⟨_,_,b2⟩:=Q;exact⟨xs,a1,a2.less b2.clsd⟩
 |dct ds=>obtain⟨xs,a1,a2⟩:=q;obtain⟨_,_,b2⟩:=Q;exact⟨xs,a1,RepKV.less b2 a2⟩
 |ins c ds=>obtain⟨dx,xs,a1,a2⟩:=q;obtain⟨_,_,_,b2⟩:=Q;exact⟨dx,xs,a1,RepF.less b2 a2⟩
 |hid=>exact q
end
def frz(m:Sto)(n:Nat)(d:D):D:=match d with
 |.ob k=>if n<=k then match m[k]? with
  |some (.lst xs)=>.lst xs|_=>.ob k else .ob k
 |d=>d
open Classical in
def zti(g:List D->Sto->Res D):List D->Sto->Res D:=fun ds m=>(g ds m).bind fun d m1=>if m1.take m.length=m/\clsd m.length (frz m1 m.length d)=ae then .ok (frz m1 m.length d) m else .bad
theorem zo9(m:Sto)(n:Nat)(d:D):frz m n d=d∨∃k xs,d = .ob k/\n<=k/\m[k]?=aa (.lst xs)/\frz m n d = .lst xs:=by
 cases d with
 |ob k=>
  by_cases H:n<=k
  ·cases h:m[k]? with
   |none=>left;simp[frz,h]|some o=>
    cases o with
    |lst xs=>right;exact⟨k,xs,rfl,H,h,by simp[frz,H,h]⟩|dct _=>left;simp[frz,h]|ins _ _=>left;simp[frz,h]|hid=>left;simp[frz,h]
  ·left;simp[frz,H]
 |_=>left;rfl
theorem zsw(W:Wd K cl (α ++ β) m1 H)(e:α.length=m.length)(c:clsd m.length (frz m1 m.length d)=ae)(r:Rep K (α ++ β) H d v):Rep K α H (frz m1 m.length d) v:=by
 rw[<- e]at c ⊢;rcases zo9 m1 α.length d with h|⟨k,xs,rfl,q,n,h⟩
 ·rw[h]at c ⊢;exact Rep.less c r
 ·rw[h]at c ⊢;rw[Rep]at r;obtain⟨a,l,rfl⟩:=r;obtain⟨ys,p,R⟩:=W.lst l n;rw[clsd]at c;rw[Rep];refine⟨a,ys,rfl,fun z=>?_,.inl p,R.less c⟩;obtain⟨j,o,g⟩:=yb4.mp z;obtain⟨f,b⟩:=yc.mp l;have:j=k:=(ych (i:=j) (j:=k) (h₀ := by rw[yD];omega) (h₁ := f) W.nd).mp (by rw[List.getElem_append_left o,g,b]);omega
open Classical in
theorem FnX.loc{w:al}{k:Nat}{g:List D->Sto->Res D}(h:FnX P w K mg base cl x k n g):FnX P w K mg base cl x k n (zti g):=by
 obtain⟨f,fd,ps,u,t,s,p⟩:=h.ex;refine⟨f,fd,ps,u,t,s,p.imp fun vs H Q E ⟨hn,α,m,ds,W,r,q⟩=>⟨hn,α,m,ds,W,r,?_⟩⟩;unfold zti at q;cases a:g ds m with
 |bad=>rw[a]at q;exact q.elim|exc c m1=>rw[a]at q;exact q|ok d m1=>
  rw[a]at q;have o:PQ K cl X0 (if m1.take m.length=m/\clsd m.length (frz m1 m.length d)=ae then .ok (frz m1 m.length d) m else .bad) α H fun d α' _ H'=>∀v,Rep K α' H' d v->Q v H':=q;obtain⟨⟨y,C⟩,l⟩:=PQ.if o;intro j i e b v R;obtain⟨β,rfl,A⟩:=e.pre;have z:Ext α H α i:=⟨⟨[],by simp,fun _ h=>nomatch h⟩,e.keep,e.there,e.frzs⟩;exact l α i z (W.less b y) v (zsw b W.len C R)
theorem fnO{w:al}{k:Nat}(F:Fun K x qual st f fd)(S:FnScope N ps (zai st))(hn:n=ps.length)(h:∀(cdv:ag)(A:az)(outer:List yaJ)(s:ak)(H:Hp)(E:XK),Room k (A.deeper (aN qual (zai st) s.heap.objs.size f cdv))->QSs (zkN CX0 P w K mg base N qual (zai st) f cdv A outer s H E).nox cl X0 (zbs st) body):FnOk P w K mg base CX0 (k+1) f fd ps (spD K cl X0 n (zaZ N.length body)) :=
 F.ok S (fun vs H Q E h=>by rw[<- hn];exact h.1) fun cdv A outer s H vs Q E hr q=>⟨_,(h cdv A outer s H E hr).out,fn_d q⟩
def spLaw(K:ya):Sp:=fun vs H Q _=>∃(a:ac)(ns:List Int),vs=[.ref a]/\SqL K H a (ns.map V.int)/\ns.length<=63/\∀H',Q (.bl ae) H'
theorem ziD{K:ya}{α : List ac}{H:Hp}:∀ns:List Int,RepL K α H (ns.map D.int) (ns.map V.int)
 |[]=>by simp[RepL]|a::r=>by
  rw[yy,yy,RepL];exact⟨_,_,rfl,by rw[Rep],ziD r⟩
theorem law_sp{g:List D->Sto->Res D}(h:∀ns:List Int,ns.length<=63->∃a m,g [.scr (ns.map D.int)] [] = .ok a m/\a = .bl ae):∀vs H Q E,spLaw K vs H Q E->spD K cl X0 1 g vs H Q E:=by
 rintro vs H Q E ⟨a,ns,rfl,c,b,q⟩;obtain⟨_,m',e,rfl⟩:=h ns b;refine⟨rfl,[],[],[.scr (ns.map D.int)],⟨rfl,List.nodup_nil,fun k a o h=>by simp at h⟩,?_,?_⟩
 ·rw[RepL];refine⟨_,_,rfl,?_,by rw[RepL]⟩;rw[Rep];refine⟨a,_,rfl,?_,ziD ns⟩;rcases c with c|c
  ·exact .inl ⟨by simp,c⟩
  ·exact .inr c
 ·rw[e];intro α' H' _ _ v r;rw[Rep]at r;subst r;exact q H'
theorem law_fn{w:al}{k:Nat}{g:List D->Sto->Res D}(F:FnOk P w K mg base CX0 k f fd ps (spD K cl X0 1 g))(h:∀ns:List Int,ns.length<=63->∃a m,g [.scr (ns.map D.int)] [] = .ok a m/\a = .bl ae):FnOk P w K mg base CX0 k f fd ps (spLaw K):=F.imp (law_sp h)
variable{us:List ag}
theorem usS(hl:us.length=n+1):∃a r,us=a::r/\r.length=n:=by
 cases us with
 |nil=>exact absurd hl (by simp)|cons a r=>exact⟨a,r,rfl,Nat.succ.inj hl⟩
theorem us0(hl:us.length=0):us=[]:=ydA.mp hl
theorem us1(hl:us.length=1):∃(a0:ag),us=[a0]:=by
 obtain⟨a0,r,rfl,h⟩:=usS hl;obtain rfl:=us0 h;exact⟨a0,rfl⟩
theorem us2(hl:us.length=2):∃(a0 a1:ag),us=[a0,a1]:=by
 obtain⟨a0,r,rfl,h⟩:=usS hl;obtain⟨a1,rfl⟩:=us1 h;exact⟨a0,a1,rfl⟩
theorem us3(hl:us.length=3):∃(a0 a1 a2:ag),us=[a0,a1,a2]:=by
 obtain⟨a0,r,rfl,h⟩:=usS hl;obtain⟨a1,a2,rfl⟩:=us2 h;exact⟨a0,a1,a2,rfl⟩
theorem us4(hl:us.length=4):∃(a0 a1 a2 a3:ag),us=[a0,a1,a2,a3]:=by
 obtain⟨a0,r,rfl,h⟩:=usS hl;obtain⟨a1,a2,a3,rfl⟩:=us3 h;exact⟨a0,a1,a2,a3,rfl⟩
theorem us5(hl:us.length=5):∃(a0 a1 a2 a3 a4:ag),us=[a0,a1,a2,a3,a4]:=by
 obtain⟨a0,r,rfl,h⟩:=usS hl;obtain⟨a1,a2,a3,a4,rfl⟩:=us4 h;exact⟨a0,a1,a2,a3,a4,rfl⟩
section
theorem zow:MtR X "int.bit_length" (fun x xs H Q=>∃i:Int,x = .int i/\xs=[]/\Q (.int ((yar i:Nat):Int)) H):=by
 intro pins s σ H x xs v us Q I r rs h;obtain⟨i,rfl,rfl,q⟩:=h;obtain⟨t,rfl⟩:=r;cases rs;exact call_gives ydS (cj _ _ _) F.entry_int_bit_length (F.args_int_bit_length_1 _) (AutoIntG2.int_bit_length_int_0 i t) ⟨.int _,H,I.tok _,⟨_,rfl⟩,q⟩
def zpO(d:D)(m:Sto):Res D:=match d with
 |.int i=>.ok (.int ((yar i:Nat):Int)) m|_=>.bad
theorem ziJ(e:QE X cl ex o fo)(b:autoParam (bc o "bit_length" X.env (eval o X.env)=eval o X.env) AutoP.a3._auto_1)(a:autoParam ((apos.endLine==cpos.line)=ae) AutoP.a3._auto_1):QE X cl ex (.Call (.Attribute o "bit_length" apos) [] [] cpos) (eUn zpO fo) :=
 ⟨PE.weak (pe_bm0 F.plainAttrs_int ydS F.type_int_bit_length zow e.out b a) fun σ H Q f=>ex3 f fun α ρ m W hr h=>tD.use W hr h fun c m1 g d v E w hr1 r q=>by
  cases d with
  |int i=>
   rw[Rep]at r;subst r;exact⟨rfl,i,rfl,rfl,PQ.ok w q _ (by rw[Rep])⟩
  |_=>exact q.elim⟩
end
def zm3(ns:List Int):Int:=ns.getD (bL (fun i j=>decide (ns.getD i 0<ns.getD j 0)) (ns.length-1)) 0
def maxV(ns:List Int):Int:=ns.getD (bL (fun i j=>decide (ns.getD i 0>ns.getD j 0)) (ns.length-1)) 0
variable{ns:List Int}
theorem znk{its:List ag}(r:Vals (ns.map V.int) its):∃xs:Array (Int×Tok),its.toArray=intItems xs/\xs.size=ns.length/\∀i,numAt xs i=ns.getD i 0:=by
 induction ns generalizing its with
 |nil=>cases r;exact⟨#[],by simp[intItems],rfl,fun i=>by simp[numAt]⟩|cons a ns I=>
  cases r with
  |cons h r=>
   obtain⟨t,rfl⟩:=h;obtain⟨xs,e,hs,H⟩:=I r;refine⟨⟨(a,t)::xs.toList⟩,?_,by simp[hs],fun i=>?_⟩
   ·have E:=congrArg ycj e;simp only[intItems]at E ⊢;apply ybT;simpa using E
   ·cases i with
    |zero=>rfl|succ i=>
     have:=H i;simpa [numAt] using this
theorem zjG(g:X.calm=ae):CallR X (.builtin "min") (fun xs H Q=>∃(l:ac)(ns:List Int),xs=[.ref l]/\SqL X.K H l (ns.map V.int)/\ns≠[]/\Q (.int (zm3 ns)) H):=by
 intro pins s σ H xs us Q I r h;obtain⟨l,ns,rfl,d,a,q⟩:=h;obtain⟨u,rfl,R⟩:=zcA r;cases R;obtain⟨its,r',pl,j⟩:=I.list d;have hl:=pl.isList;obtain⟨ys,e,hs,b⟩:=znk r';rw[e]at hl;refine min_intList (I.ok.hd g) hl (by rw[hs];exact yb6.mpr a) fun v h' T c f=>?_;obtain⟨t,rfl⟩:=intItems_at c;refine⟨_,H,I.kept f,?_,q⟩;have E:numAt ys=fun i=>ns.getD i 0:=funext b;refine⟨t,?_⟩;rw[E,hs];rfl
theorem zpD(g:X.calm=ae):CallR X (.builtin "max") (fun xs H Q=>∃(l:ac)(ns:List Int),xs=[.ref l]/\SqL X.K H l (ns.map V.int)/\ns≠[]/\Q (.int (maxV ns)) H):=by
 intro pins s σ H xs us Q I r h;obtain⟨l,ns,rfl,d,a,q⟩:=h;obtain⟨u,rfl,R⟩:=zcA r;cases R;obtain⟨its,r',pl,j⟩:=I.list d;have hl:=pl.isList;obtain⟨ys,e,hs,b⟩:=znk r';rw[e]at hl;refine max_intList (I.ok.hd g) hl (by rw[hs];exact yb6.mpr a) fun v h' T c f=>?_;obtain⟨t,rfl⟩:=intItems_at c;refine⟨_,H,I.kept f,?_,q⟩;have E:numAt ys=fun i=>ns.getD i 0:=funext b;refine⟨t,?_⟩;rw[E,hs];rfl
section
def zkB(ds:List D)(m:Sto):Res D:=match ds with
 |[d]=>match (lOf d m).bind zeM with
  |some ns=>if ns≠[] then .ok (.int (zm3 ns)) m else .bad|none=>.bad
 |_=>.bad
def zmJ(ds:List D)(m:Sto):Res D:=match ds with
 |[d]=>match (lOf d m).bind zeM with
  |some ns=>if ns≠[] then .ok (.int (maxV ns)) m else .bad|none=>.bad
 |_=>.bad
theorem zpc:FnD K cl ex (fun xs H Q=>∃(l:ac)(ns:List Int),xs=[.ref l]/\SqL K H l (ns.map V.int)/\ns≠[]/\Q (.int (zm3 ns)) H) zkB:=fun α m H x f Q W r h=>by
 unfold zkB at h;split at h
 ·split at h
  ·rename_i ns e;obtain⟨c,h⟩:=PQ.if h;obtain⟨v,rfl,R⟩:=r.one_of;obtain⟨xs,d,E⟩:=yax.mp e;obtain⟨p,ys,rfl,a,b⟩:=ze7 W d R;rw[zcX E b]at a;exact⟨p,ns,rfl,a,c,PQ.ok W h _ zfy⟩
  ·exact h.elim
 ·exact h.elim
theorem ztF:FnD K cl ex (fun xs H Q=>∃(l:ac)(ns:List Int),xs=[.ref l]/\SqL K H l (ns.map V.int)/\ns≠[]/\Q (.int (maxV ns)) H) zmJ:=fun α m H x f Q W r h=>by
 unfold zmJ at h;split at h
 ·split at h
  ·rename_i ns e;obtain⟨c,h⟩:=PQ.if h;obtain⟨v,rfl,R⟩:=r.one_of;obtain⟨xs,d,E⟩:=yax.mp e;obtain⟨p,ys,rfl,a,b⟩:=ze7 W d R;rw[zcX E b]at a;exact⟨p,ns,rfl,a,c,PQ.ok W h _ zfy⟩
  ·exact h.elim
 ·exact h.elim
end
theorem zhu{bt:Nat->Nat->Bool}:∀n,bL bt n<=n
 |0=>yb _|n+1=>by
  unfold bL;split
  ·exact yb _
  ·exact yc6 (zhu n)
theorem zkT(f:Nat->Int):∀n i,i<=n->f (bL (fun i j=>decide (f i<f j)) n)<=f i
 |0,i,h=>by
  have:i=0:=by omega
  subst this;exact Int.le_refl _
 |n+1,i,h=>by
  unfold bL;by_cases c:f (n+1)<f (bL (fun i j=>decide (f i<f j)) n)
  ·rw[if_pos (decide_eq_true c)];rcases ya4 n i with hi|hi
   ·rw[show i=n+1 by omega];exact Int.le_refl _
   ·have:=zkT f n i hi;omega
  ·rw[if_neg (by rw[decide_eq_true_eq];exact c)];rcases ya4 n i with hi|hi
   ·rw[show i=n+1 by omega];omega
   ·exact zkT f n i hi
theorem zrb{i:Nat}(h:i<ns.length):ns.getD i 0∈ns:=by
 rw[y9,yf h];exact yaG h
theorem zqS(h:ns≠[]):zm3 ns∈ns:=zrb (by have:=zhu (bt:=fun i j=>decide (ns.getD i 0<ns.getD j 0)) (ns.length-1);have:=yb6.mpr h;omega)
theorem zoy{a:Int}(h:a∈ns):zm3 ns<=a:=by
 obtain⟨i,hi,rfl⟩:=yb4.mp h;have:=zkT (fun i=>ns.getD i 0) (ns.length-1) i (by omega);have e:ns.getD i 0=ns[i]:=by rw[y9,yf hi];rfl
 rw[<- e];exact this
end MD
namespace HT
open PySem PySem.Spec PyProof.Rows L2
end HT
namespace MD
open PySem PySem.Spec PyProof.Rows L2
def slA(x:D)(lo hi:Option Int)(m:Sto):Res D:=match x with
 |.tup ds=>.ok (.tup (zlR ds lo hi)) m|d=>slD d lo hi m
def eSlA(f:EV)(lo hi:OV):EV:=fun ρ m=>(f ρ m).bind fun x m1=>(lo ρ m1).bind fun l m2=>(hi ρ m2).bind fun h m3=>slA x l h m3
end MD
namespace HT
open PySem PySem.Spec PyProof.Rows L2
end HT
namespace MD
open PySem PySem.Spec PyProof.Rows L2
def zre:Nat:=1000000
def zhd:SV:=by walk_at "#:Lt{uZ3gsUJ/Myv_vU0/"
def zdz:List D->Sto->Res D:=zaZ 3 zhd
def zeh:SV:=by walk_at "#t3t4:LswuZ/tylsi*?{6$tI3sp8spE8P2sU8PswvV"
def zcO:List D->Sto->Res D:=zti (zaZ 5 zeh)
def zlx:SV:=by walk_at "#0p3s!/"
def zbB:List D->Sto->Res D:=zaZ 2 zlx
def zhc:SV:=by walk_at "#0E3(uEs9/3u["
def zdy:List D->Sto->Res D:=zaZ 3 zhc
def zlH:SV:=by walk_at "#IuE?{7s9/*Qt5tT"
def zgz:List D->Sto->Res D:=zaZ 5 zlH
def zhm:SV:=by walk_at "#IwXFuAsft{tHsH)"
def zco:List D->Sto->Res D:=zaZ 1 zhm
def zlv:SV:=by walk_at "#sF{8/30/s5t/vWv%xSxTvX*tUtT"
def zgo:List D->Sto->Res D:=zaZ 3 zlv
def zhl:SV:=by walk_at "#:tIu]/sp)uFs#u^tVu_/s&CsutQsVwpIuEs4sxJtWPs,%t|tQsVsOI{9$tWsWt5t|tQsVwqvYvZtWu_tWt}IuEs4sxJtQMWs,%s5sx"
def zdF:List D->Sto->Res D:=zaZ 9 zhl
def zjg:SV:=by walk_at "#susfVw20Lt|sfVuG0t/)s5/"
def zb7:List D->Sto->Res D:=zaZ 2 zjg
def zlu:SV:=by walk_at "#IwX9w3sHM(xUtTs#tu1s;t6{:_t7"
def zc4:List D->Sto->Res D:=zaZ 2 zlu
def zgn:SV:=by walk_at "#susfVw2vVt|sfVuGI{;X_u`MQu`uas58"
def zcK:List D->Sto->Res D:=zaZ 4 zgn
def zlz:SV:=by walk_at "#<s`tXub({<_?wrs=2s#>ucud{=s'tYQs,qU.sUsXv[?{>$nsHMsy$nu]sy)N.sWh70sX"
def zgq:List D->Sto->Res D:=zaZ 9 zlz
def zlC:SV:=by walk_at "#<xNs4VxVJV{?BxWvU:B7gt3sjuZtI3uFspB{Av]EEJ*B{BpszxXBv,BxXgt(ow4PcxYB=Bv-si8$pP/%s5{Cthw5ws8w5v)Lw5wt*w5sOL"
def zgt:List D->Sto->Res D:=zaZ 5 zlC
def zo4:SV:=by walk_at "#tqt~teu!Lov.t1wswV%v^v)yo{Dt1wss<%ZsFsau!LxCu!/glv^v)v_u!/vVZlv^sOEt1sO):t1sOswu#Et1wtJJ88Bw6J8BxZv]Jszx[Bx]v]JPEpszx^Bx_Bx`ty0pv_szw6/"
def zaj:List D->Sto->Res D:=zaZ 5 zo4
def zji:SV:=by walk_at "#:s!*swueG.sJsFtJsz1IsYwpsktZ?sPQGm2tZQv`92t|sz1u#)JMsc{EtXueQU><sPQs4Msc[hCIsYsO?vax>sWU.tHvWsyJWsX82vbt~tJsz>osa/LIsYwqtZvTsksls9sc{F%B{GtR92s5tO?sY{HsZsY{Iv`9%"
def zez:List D->Sto->Res D:=zaZ 8 zji
def zhi:SV:=by walk_at "#t3vU:B{Jgt[uXvLskt8vcGs0t]2sju#vd$vesa*LtOG1G.Gtit]%u$sJvY*Pg:JnV{K8E)vftXsi/?s`s,q?{Ls'Qq2%vg?uCvTskslt8$cxYB=B>vhxWv`-2"
def zdB:List D->Sto->Res D:=zaZ 6 zhi
def zhg:SV:=by walk_at "#:/t)vRtuu%tVs!8s&7tqt~tet^sVsOosasc1u&0nt^vdu'$t^)2s5vis9sX)tZs,sZuR?sPs,G72tR-%"
def zbU:List D->Sto->Res D:=zaZ 6 zhg
def zjj:SV:=by walk_at "#IvauAufgt6xas'_2"
def zeA:List D->Sto->Res D:=zaZ 2 zjj
def zeD:SV:=by walk_at "#:u]/t)vRu^uctVu_/t}suvQsVwpsUWJPt_t}vbt~tevQsVsOo{MWt_0nt_vWv%xSxTt_N.%PtU$t_%t|vQsVwqvYvZt_u_t_s&msUWJvQMsKt}s5pWs!sy"
def zaM:List D->Sto->Res D:=zaZ 10 zeD
def zjl:SV:=by walk_at "#<s`sJubufs#u^udwuXs,_qQvjueG.U.suWB7s_fEsxscm%B-s&Ct|WB>vkxas'tYvjZsUP(wYpsxs!tWsJ0P"
def zeB:List D->Sto->Res D:=zaZ 9 zjl
def zlA:SV:=by walk_at "#uevct4sFtJ*M0tO?sYw2sZsYv/2*Zu#vdXsjvYs!8)tyIsYuGQsks<qtZs4P)sZsPqtZG72tR-2"
def zgr:List D->Sto->Res D:=zaZ 5 zlA
def zjn:SV:=by walk_at "#<vauAufswt6{Ns'$vZ)h9vgvhti%vhti%u["
def zeC:List D->Sto->Res D:=zaZ 3 zjn
def zjo:SV:=by walk_at "#:Vw7gt[Xsju#(xb$p3M%*gs_v_3Ms&sCvV"
def zeE:List D->Sto->Res D:=zaZ 4 zjo
def zhf:SV:=by walk_at "#susHsVuG0sH)s5Jt/)t`tasHsVv/%"
def zbj:List D->Sto->Res D:=zaZ 2 zhf
def zgu:SV:=by walk_at "#:Vw7swwW{OsfsHM*t)u%eu^udwvqs,vjsU8({P$psys!sxsWsj08"
def zcR:List D->Sto->Res D:=zaZ 8 zgu
def zgw:SV:=by walk_at "#:Lt{uZ3gsUJM/t`ta*VxVvU0/"
def zcT:List D->Sto->Res D:=zaZ 3 zgw
def zgv:SV:=by walk_at "#<s`tXubsfs#>uctVnsHMsyt}<wvsWN.Um<{Q$tI*uFspsKU=:tI*spsKuFgsFv.sE.sVv/<wus'tYQs,qU[susE.sVuGs_fvlsE.Ms&[Zs_vWvlpf^=vls!sKs!t_s&=ZsUsXv[N=tX0sX"
def zcS:List D->Sto->Res D:=zaZ 12 zgv
def zey(self:List D->Sto->Res D):SV :=
 (zat (sIf (tV (eUn (zil "tuple") (zag 1)))
 (zat (sIf (tOrM (zhD (tV (eUn (zil "tuple") (zag 0)))) (tV (eOp neD (eFn zdb (zac (zag 0) zak)) (eFn zdb (zac (zag 1) zak)))))
 (zaJ (eC (.bl ai)))
 zbG)
 (zaJ (eFn zm5 (zac (eFn gL1 (zbM 2 (zr6 (zag 0) (zag 1)) (gT 2 (zas (gN 2) (zas (gN 3) zbn))) za7 (eFn self (zac (zag 2) (zac (zag 3) zak))))) zak))))
 zbG)
 (zat (sIf (tV (eOp isD (zag 1) (eC .non)))
 (zaJ (eOp isD (zag 0) (eC .non)))
 zbG)
 (zat (sIf (tV (eUn (zil "str") (zag 1)))
 (zaJ (zm4 (eUn (zil "str") (zag 0)) (eOp eqD (zag 0) (zag 1))))
 zbG)
 (zaJ (zm4 (eUn (zil "int") (zag 0)) (zm4 (eNot (eUn (zil "bool") (zag 0))) (eOp eqD (zag 0) (zag 1))))))))
def zbK:Nat->List D->Sto->Res D
 |0=>fun _ _=>.bad|n+1=>zaZ 2 (zey (zbK n))
def zdO:List D->Sto->Res D:=zbK 12
def zlG:SV:=by walk_at "#0v%xcxdVw7xDw/{RXt4t6xb$c{Sc{T3*)2"
def zcp:List D->Sto->Res D:=zaZ 2 zlG
def zly:SV:=by walk_at "#0v%xcxdVw7vmw3*(wrs=%s#u%s;t6w8?uEQt5q2"
def zc5:List D->Sto->Res D:=zaZ 3 zly
def zlB:SV:=by walk_at "#t3?{Us=h1t[s9*)sJsi8?{Vs=$vZsQww)sl208"
def zgs:List D->Sto->Res D:=zaZ 5 zlB
def zdD:SV:=by walk_at "#:s!nu]8)tyt3tXuZ*s#>uctVpfsH8(wus'QsWXtY%Pt}sisXs9WJPt`cw4JMWP20sX"
def zcm:List D->Sto->Res D:=zti (zaZ 9 zdD)
def zgx:SV:=by walk_at "#t3sJubufs#u^tVEwVs<%({WX_Qs,vjl{X.m?xesWsZ{YsW2<sP$tWs9(v0sl$sQwxfsKW%t`tjcsafsKW)tavfu&h=<sPs4sQwwWt`tavfu&%s9s!^=)U[<xH?sYuGN=N[sZsYv/sZsYw2hs0siP$sEs0vetJWsKvis<s<slt8tR7%tOt8t8s<t]2IuCt5"
def zcU:List D->Sto->Res D:=zaZ 13 zgx
def zfl:SV:=by walk_at "#Ivaw/xfsls4(sP_vT)sjt6s`Qu`f/82"
def zbD:List D->Sto->Res D:=zaZ 3 zfl
def zjp:SV:=by walk_at "#0tjsQwyxg3{ZsQwyxh3"
def zeF:List D->Sto->Res D:=zaZ 1 zjp
def zgy:SV:=by walk_at "#0tj({[tTxitktk/3*"
def zcV:List D->Sto->Res D:=zaZ 3 zgy
def zjq:SV:=by walk_at "#I{]s's<s9s!/ua"
def zdP:List D->Sto->Res D:=zaZ 2 zjq
def zo6:SV:=by walk_at "#0tjsQwyxj3xitktk/tUtT*"
def zjr:List D->Sto->Res D:=zaZ 3 zo6
def zlw:SV:=by walk_at "#Iw9?wrs=2"
def zfa:List D->Sto->Res D:=zaZ 2 zlw
def zfm:SV:=by walk_at "#ub/s#tu1s;t(ov.8t/*vg_t7s5s>"
def zcn:List D->Sto->Res D:=zaZ 4 zfm
def zo7:SV:=by walk_at "#<xks=_sJub8s#7xFs#>ucs;ud{^_?{_s=qsWtYh.t(oxlWs>0Ev[s,%Ws5s>"
def zjs:List D->Sto->Res D:=zaZ 9 zo7
section
variable{X:Cx}{K:ya}{cl:af->ac}{ex:XD}{o i:am}{fo fi:EV}{pos:ax}
def putL(x y v:D)(m:Sto):Res Unit:=match x,y with
 |.ob k,.int i=>match m[k]? with
  |some (.lst ds)=>match ixN ds.length i with
   |some j=>.ok () (m.set k (.lst (ds.set j v)))|none=>.bad
  |_=>.bad
 |_,_=>.bad
def gI(fo f:EV):GV:=fun d ρ m=>(fo ρ m).bind fun x m1=>(f ρ m1).bind fun y m2=>(putL x y d m2).bind fun _ m3=>.ok ρ m3
end
def zlE:SV:=by walk_at "#<xUs't4tqvn({`Xu'_sZtf_2voZIxmvmw3/*s#u%s;t6{aQq2"
def zfb:List D->Sto->Res D:=zaZ 3 zlE
end MD
namespace L2
open PySem PySem.Spec PyProof.Rows
variable{X:Cx}{e:am}{te:TE}{pos:ax}
end L2
namespace MD
open PySem PySem.Spec PyProof.Rows L2
open Classical in
def grd{a : Type}(k:Nat)(o:MO)(m:Sto)(r:Res a):Res a := if m[k]?=aa o then r else .bad
variable{m:Sto}
theorem zlt{a : Type}{k:Nat}{o:MO}{r:Res a}(h:m[k]?=aa o):grd k o m r=r:=if_pos h
def zoE(k:Nat)(o:MO)(g:GV)(b:SV):List D->En->Sto->Res Fl
 |[],ρ,m=>grd k o m (.ok (.nx ρ) m)|d::r,ρ,m=>grd k o m ((g d ρ m).bind fun c m1=>(b c m1).bind fun f m2=>match f with
  |.nx a=>zoE k o g b r a m2|.ct a=>zoE k o g b r a m2|.bk a=>.ok (.nx a) m2|.rt d=>.ok (.rt d) m2)
abbrev OI:=En->Sto->Res (Nat×MO×List D)
def zkX(d:D)(m:Sto):Res (Nat×MO×List D):=match d with
 |.ob k=>match m[k]? with
  |some (.lst xs)=>.ok (k,.lst xs,xs) m|_=>.bad
 |_=>.bad
def zpT(f:EV):OI:=fun ρ m=>(f ρ m).bind zkX
def sForO(it:OI)(g:GV)(b:SV):SV:=fun ρ m=>(it ρ m).bind fun t m1=>zoE t.1 t.2.1 g b t.2.2 ρ m1
def zcq(k:Nat)(o:MO)(g:GV)(c:TV)(el:EV)(ρ : En):List D->Sto->Res (List D)
 |[],m=>grd k o m (.ok [] m)|d::r,m=>grd k o m ((g d ρ m).bind fun a m1=>(c a m1).bind fun b m2=>if b=ae then (el a m2).bind fun x m3=>(zcq k o g c el ρ r m3).bind fun xs M=>.ok (x::xs) M else zcq k o g c el ρ r m2)
def zdd(n:Nat)(it:OI)(g:GV)(c:TV)(el:EV):AV:=fun ρ m=>(it ρ m).bind fun t m1=>if t.2.2.length<=1000000 then zcq t.1 t.2.1 g c el (ρ ++ yp n none) t.2.2 m1 else .bad
def ItO(K:ya)(cl:af->ac)(α : List ac)(H:Hp)(J:It)(k:Nat)(o:MO)(ds:List D):Prop :=
 ∀(i:Nat)(a:List ac)(m1:Sto)(H1:Hp),Ext α H a H1->Wd K cl a m1 H1->m1[k]?=aa o->(∀d,ds[i]?=aa d->J.go i H1/\∀x H2,J.yld i H1 x H2->Same H1 H2/\Rep K a H2 d x)/\(i=ds.length->J.stop i H1)
def tDIO(K:ya)(cl:af->ac)(ex:XD)(f:OI):TI:=fun σ H R=>∃α ρ m,Wd K cl α m H/\RepE K α H ρ σ /\ PQ K cl ex (f ρ m) α H fun t α' _ H'=>∀J,ItO K cl α' H' J t.1 t.2.1 t.2.2->R J H'
structure QIO(X:Cx)(cl:af->ac)(ex:XD)(tg it:am)(f:OI):Prop where
 out:PI X tg it (tDIO X.K cl ex f)
variable{K:ya}{cl:af->ac}{ex:XD}{H:Hp}{σ : L2.St}
section
variable{α α':List ac}{m1:Sto}{H':Hp}{ρ : En}
theorem ito_l{k:Nat}{a:ac}{ds:List D}(ha:α[k]?=aa a):ItO K cl α H (Itl K a) k (.lst ds) ds:=fun i c m1 b E W f=>by
 obtain⟨β,rfl,_⟩:=E.pre;have hl:=(yc.mp ha).1;obtain⟨vs,j,r⟩:=W.at' k a (.lst ds) (by rw[yO hl];exact ha) f;have sq:SqL K b a vs := .inl (.inl j);have un:∀ys,SqL K b a ys->True:=fun _ _=>trivial;refine⟨fun d e=>?_,fun e=>⟨vs,sq,by rw[e,r.length];exact yb _⟩⟩;obtain⟨v,h,g⟩:=r.get e;refine⟨⟨vs,v,sq,h⟩,fun x l y=>?_⟩;obtain⟨rfl,y⟩:=y;have:=y vs sq;rw[h]at this;cases this;exact⟨Same.refl _,g⟩
end
variable{X:Cx}{tg it:am}{fa:EV}{gt:GV}{pos:ax}
section
variable{e:am}{fr:OI}{f:SV}{sts:List aq}
theorem zrD(h:QE X cl ex e fa):QIO X cl ex tg e (zpT fa) :=
 ⟨PI.weak (znY h.out) fun σ H R g=>ex3 g fun α ρ m W hr q=>⟨α,ρ,m,W,hr,PQ.mono (Ext.refl W) q.bind fun d c m1 j E w q v b=>by
  unfold zkX at q;split at q
  ·rename_i k;split at q
   ·rename_i xs f;rw[Rep]at b;obtain⟨a,ha,rfl⟩:=b;obtain⟨vs,i,r⟩:=w.at' k a _ ha f;exact⟨a,rfl,⟨vs,.inl (.inl i)⟩,PQ.ok w q _ (ito_l ha)⟩
   ·exact q.elim
  ·exact q.elim⟩⟩
end
variable{ta:TV}
section
variable{fr:OI}
theorem zis{n:Nat}{f:List V->Hp->Prop}(h:∃α ρ m,Wd K cl α m H/\RepE K α H ρ σ /\ PQ K cl ex (zdd n fr gt ta fa ρ m) α H fun ds α' _ H'=>∀vs,RepL K α' H' ds vs->f vs H') : zhE n (tDIO K cl ex fr) (tDG K cl ex gt) (tDT K cl ex ta) (tD K cl ex fa) f σ H:=by
 obtain⟨α,ρ,m,W,hr,h⟩:=h;refine⟨α,ρ,m,W,hr,PQ.mono (Ext.refl W) h.bind fun t u m1 H1 E1 I q J U=>?_⟩;obtain⟨k,o,ds⟩:=t;obtain⟨hk,q⟩:=PQ.if q;have hr1:=hr.mono W E1;refine zpA (k:=ds.length) (fun i ys c=>∃a m2 done,Ext u H1 a c/\Wd K cl a m2 c/\RepL K a c done ys/\done.length<=i/\PQ K cl ex ((zcq k o gt ta fa (ρ ++ yp n none) (ds.drop i) m2).bind fun xs M=>.ok (done++xs) M) a c fun ds α' _ H'=>∀vs,RepL K α' H' ds vs->f vs H') hk ?_ ?_ ?_ ?_
 ·refine⟨u,m1,[],Ext.refl I,I,by rw[RepL],yb _,?_⟩;simp only[yc5,yc2,Res.bind_ok'];exact q
 ·rintro i ys c ⟨_,_,done,_,_,r,l,_⟩;rw[<- r.length];exact l
 ·rintro i ys c hi ⟨a,m2,done,B,w,R,l2,Q⟩;have hd:ds[i]?=aa ds[i]:=by simp[hi]
  rw[yc3 hi,zcq]at Q;have e:m2[k]?=aa o/\PQ K cl ex (((gt ds[i] (ρ ++ yp n none) m2).bind fun p m1=>(ta p m1).bind fun b m2=>if b=ae then (fa p m2).bind fun x m3=>(zcq k o gt ta fa (ρ ++ yp n none) (ds.drop (i+1)) m3).bind fun xs M=>.ok (x::xs) M else zcq k o gt ta fa (ρ ++ yp n none) (ds.drop (i+1)) m2).bind fun xs M=>.ok (done++xs) M) a c fun ds α' _ H'=>∀vs,RepL K α' H' ds vs->f vs H':=by
   unfold grd at Q;split at Q
   ·exact⟨‹_›,Q⟩
   ·exact Q.elim
  obtain⟨g,Q⟩:=e;obtain⟨g1,g2⟩:=(U i a m2 c B w g).1 _ hd;refine⟨g1,fun x H3 y=>?_⟩;obtain⟨S,rx⟩:=g2 x H3 y;have A:=Ext.of_same w S;have G:=w.same S;rw[Res.bind_assoc]at Q;have j:=B.trans A;refine⟨a,ρ ++ yp n none,m2,ds[i],G,(hr1.mono I j).more n,rx,PQ.mono A Q.bind fun C Z M H4 E4 W4 O Y hr4=>?_⟩;rw[Res.bind_assoc]at O;refine tDT.use W4 hr4 O fun s T H5 b E5 F hr5 N=>?_;have E:=E4.trans E5;cases b with
  |false=>exact⟨s,T,done,j.trans E,F,(R.mono w A).mono G E,yc6 l2,N⟩|true=>
   have z:PQ K cl ex (((fa C T).bind fun x m3=>(zcq k o gt ta fa (ρ ++ yp n none) (ds.drop (i+1)) m3).bind fun xs M=>.ok (x::xs) M).bind fun xs M=>.ok (done++xs) M) s H5 fun ds α' _ H'=>∀vs,RepL K α' H' ds vs->f vs H':=N;rw[Res.bind_assoc]at z;refine tD.use F hr5 z fun D m6 H6 d v X W6 hr6 rv L=>?_;rw[Res.bind_assoc]at L;refine⟨D,m6,done++[d],j.trans (E.trans X),W6,RepL.append (((R.mono w A).mono G E).mono F X) (RepL.one rv),by rw[yD];show done.length+1<=i+1;omega,?_⟩;simp only[yaS,ydM];exact L
 ·rintro ys c ⟨a,m2,done,B,w,R,l2,Q⟩;rw[yc4 (yb _),zcq]at Q;have e:m2[k]?=aa o/\PQ K cl ex (.ok (done++[]) m2) a c fun ds α' _ H'=>∀vs,RepL K α' H' ds vs->f vs H':=by
   unfold grd at Q;split at Q
   ·exact⟨‹_›,Q⟩
   ·exact Q.elim
  obtain⟨g,P⟩:=e;refine⟨(U ds.length a m2 c B w g).2 rfl,?_⟩;rw[yaf]at P;exact PQ.ok w P ys R
end
section
variable{N0:List af}{e:am}{ifs:List am}{fr:OI}{scope:aO}{xs:List af}{clo:List (af×ac)}
theorem zqu(k:X.calm=ae)(c:X.xe=fun _ _=>False)(S:CompOk X N0 scope xs clo)(hi:QIO X cl ex tg it fr)(f:∀C s H fp,QG (X.comp N0 scope xs clo C s H fp) cl ex tg gt)(i:∀C s H fp,PIf (X.comp N0 scope xs clo C s H fp) ifs (tDT X.K cl ex ta))(j:∀C s H fp,QE (X.comp N0 scope xs clo C s H fp) cl ex e fa)(hs:autoParam (∀x,bb it X.env x=pure x) AutoP.a2._auto_1):QE X cl ex (.ListComp e [⟨tg,it,ifs,0⟩] scope pos) (eFn gL1 (zdd xs.length fr gt ta fa)) :=
 ⟨PE.weak (zn2 (g:=tDG X.K cl ex gt) (tf:=tDT X.K cl ex ta) (te:=tD X.K cl ex fa) k c S hi.out (fun C s H fp=>(f C s H fp).out) i (fun C s H fp=>(j C s H fp).out) hs) fun σ H Q d=>ex3 d fun α ρ m W hr h=>zis ⟨α,ρ,m,W,hr,PQ.mono (Ext.refl W) h.bind fun ds b m1 l E w q vs r p a=>PQ.okS w (Same.new a) q _ (zc2 w a r)⟩⟩
end
end MD
namespace L2
open PySem PySem.Spec PyProof.Rows
end L2
namespace MD
open PySem L2
variable{K:ya}{cl:af->ac}{ex:XD}
end MD
namespace MD
open PySem PySem.Spec PyProof.Rows L2
def zpY(c f:af)(x:D)(m:Sto):Res D:=match x with
 |.ob k=>match m[k]? with
  |some (.ins c' fs)=>if c'=c then opt (fs.lookup f) m else .bad|_=>.bad
 |_=>.bad
def zeQ(c f:af)(F:EV):EV:=fun ρ m=>(F ρ m).bind (zpY c f)
def ziK(f:af)(v:D):List (af×D)->List (af×D)
 |[]=>[(f,v)]| (g,x)::r=>if g=f then (g,v)::r else (g,x)::ziK f v r
def setM(c f:af)(x y:D)(m:Sto):Res Unit:=match x with
 |.ob k=>match m[k]? with
  |some (.ins c' fs)=>if c'=c/\fs.length<1000 then .ok () (m.set k (.ins c (ziK f y fs))) else .bad|_=>.bad
 |_=>.bad
def zj9(c f:af)(fo F:EV):SV:=fun ρ m=>(F ρ m).bind fun y m1=>(fo ρ m1).bind fun x m2=>(setM c f x y m2).bind fun _ m3=>.ok (.nx ρ) m3
def zeg(c mth:af)(x:D)(m:Sto):Bool:=match x with
 |.ob k=>match m[k]? with
  |some (.ins c' fs)=>decide (c'=c)&&(fs.lookup mth).isNone|_=>ai
 |_=>ai
def zgC(c mth:af)(g:List D->Sto->Res D)(fo:EV)(fr:AV):EV:=fun ρ m=>(fo ρ m).bind fun x m1=>if zeg c mth x m1=ae then (fr ρ m1).bind fun ds m2=>g (x::ds) m2 else .bad
def mkEnd(n:Nat)(v:D)(m:Sto):Res D:=match v with
 |.non=>.ok (.ob n) m|_=>.bad
def mkM(c:af)(g:List D->Sto->Res D)(ds:List D)(m:Sto):Res D:=(g (.ob m.length::ds) (m++[.ins c []])).bind (mkEnd m.length)
variable{K:ya}{cl:af->ac}{ex:XD}{α : List ac}{H:Hp}{c:af}
section
variable{m:Sto}
theorem RepF.look{f:af}:∀{ds:List (af×D)}{xs:List (af×V)},RepF K α H ds xs->(∀d,ds.lookup f=aa d->∃v,xs.lookup f=aa v/\Rep K α H d v)/\(ds.lookup f=none->xs.lookup f=none)
 |[],_,h=>by
  cases (show _=[] from h);exact⟨fun d e=>(nomatch e),fun _=>rfl⟩
 |p::ds,_,⟨v,r,rfl,h1,h2⟩=>by
  obtain⟨a,b⟩:=RepF.look (f:=f) h2;obtain⟨g,x⟩:=p;simp only[yaP];cases c:f==g with
  |true=>exact⟨fun d e=>by simp only[yay]at e;subst e;exact⟨v,rfl,h1⟩,fun e=>by simp at e⟩|false=>exact⟨a,b⟩
theorem RepF.put{f:af}{d:D}{v:V}(b:Rep K α H d v):∀{ds:List (af×D)}{xs:List (af×V)},RepF K α H ds xs->RepF K α H (ziK f d ds) (zgN f v xs)
 |[],_,h=>by
  cases (show _=[] from h);exact⟨v,[],rfl,b,rfl⟩
 |p::ds,_,⟨u,r,rfl,h1,h2⟩=>by
  obtain⟨g,x⟩:=p;unfold ziK zgN;by_cases a:g=f
  ·rw[if_pos a];show RepF K α H ((g,d)::ds) (if g=f then (g,v)::r else (g,u)::zgN f v r);rw[if_pos a];exact⟨v,r,rfl,b,h2⟩
  ·rw[if_neg a];show RepF K α H ((g,x)::ziK f d ds) (if g=f then (g,v)::r else (g,u)::zgN f v r);rw[if_neg a];exact⟨u,_,rfl,h1,RepF.put b h2⟩
theorem RepF.length:∀{ds:List (af×D)}{xs:List (af×V)},RepF K α H ds xs->ds.length=xs.length
 |[],_,h=>by cases (show _=[] from h);rfl|p::ds,_,⟨u,r,rfl,h1,h2⟩=>by rw[yx,yx,RepF.length h2]
theorem Wd.ins(W:Wd K cl α m H){k:Nat}{a:ac}{ds:List (af×D)}(b:α[k]?=aa a)(h:m[k]?=aa (.ins c ds)):∃dx xs,H a=aa (.ins (cl c) dx xs)/\RepF K α H ds xs:=W.at' k a _ b h
end
variable{x:af}{n:Nat}{mm:Sto}{pl:Sem Bool}{P:ar}{mg:af->Option ag}{base:au}{qual:af}{st:aq}{fd:aJ}{N ps:List af}{body:SV}
section
variable{X:Cx}{o e value:am}{es:List am}{f m:af}{pos pos' apos p:ax}{fa fv:EV}{fr:AV}{k:Nat}{g:List D->Sto->Res D}
theorem zbE(q:QE X cl ex e fa)(s:Cls X.K (cl c))(hn:NoAttr X.K (cl c) f)(t:autoParam (bc e f X.env (eval e X.env)=eval e X.env) AutoP.a3._auto_1):QE X cl ex (.Attribute e f pos) (zeQ c f fa) :=
 ⟨PE.weak (pe_fld q.out t) fun σ H Q p=>ex3 p fun α ρ m W hr h=>tD.use W hr h fun j m1 u d v E w hr1 r b=>by
  unfold zpY at b;split at b
  ·rename_i k;split at b
   ·rename_i C fs o;obtain⟨i,g⟩:=PQ.if b;clear b;subst i;rw[Rep]at r;obtain⟨a,ha,rfl⟩:=r;obtain⟨dx,xs,l,R⟩:=w.ins ha o;cases hl:fs.lookup f with
    |none=>rw[hl]at g;exact g.elim|some d=>
     rw[hl]at g;obtain⟨v,n,r⟩:=R.look.1 d hl;exact⟨a,_,dx,xs,v,rfl,l,s,hn,n,PQ.ok w g v r⟩
   ·exact b.elim
  ·exact b.elim⟩
theorem ziE(t:QE X cl ex o fa)(s:QE X cl ex value fv)(z:Cls X.K (cl c))(hn:NoAttr X.K (cl c) f)(hs:autoParam (aQ value (aa (.Attribute o f pos')) pos.line X.env=pure ai) AutoP.a3._auto_1):QS X cl ex (.Assign [.Attribute o f pos'] value pos) (zj9 c f fa fv) :=
 ⟨PS.weak (ps_fld t.out s.out hs) fun D σ H y=>ex3 y fun α ρ m W hr h=>tD.use W hr h fun n m1 J d v K i hr1 p A=>tD.use i hr1 A fun l m2 I G V F w hr2 r b=>by
  unfold setM at b;split at b
  ·rename_i k;split at b
   ·rename_i C fs x;by_cases e:C=c/\fs.length<1000
    ·rw[if_pos e]at b;obtain⟨rfl,hl⟩:=e;rw[Rep]at r;obtain⟨a,ha,rfl⟩:=r;obtain⟨dx,xs,q,g⟩:=w.ins ha x;have R:=p.mono i F;refine⟨a,_,dx,xs,rfl,q,z,hn,by rw[<- g.length];exact hl,?_⟩;obtain⟨B,j⟩:=w.set (u := .ins (cl C) dx (zgN f v xs)) (o := .ins C (ziK f d fs)) ha fun E=>⟨dx,_,zaF,(g.put R).mono w E⟩;exact b _ _ j B _ (hr2.mono w j)
    ·rw[if_neg e]at b;exact b.elim
   ·exact b.elim
  ·exact b.elim⟩
structure FnM(P:ar)(w:al)(K:ya)(mg:af->Option ag)(base:au)(cl:af->ac)(c m:af)(k n:Nat)(g:List D->Sto->Res D):Prop where
 ex:∃(f:ac)(fd:aJ)(ps:List af),Meth K (cl c) m f/\Binds K fd ps []/\FnOk P w K mg base CX0 k f fd ps (spD K cl X0 n g)
structure FnC(P:ar)(w:al)(K:ya)(mg:af->Option ag)(base:au)(cl:af->ac)(c:af)(k n:Nat)(g:List D->Sto->Res D):Prop where
 ex:∃(f:ac)(fd:aJ)(ps:List af),mg c=aa (.ref (cl c))/\Mk K (cl c) f/\Binds K fd ps []/\FnOk P w K mg base CX0 k f fd ps (spD K cl X0 n g)
theorem zgl{d:D}{v:V}(W:Wd K cl α mm H)(h:zeg c m d mm=ae)(r:Rep K α H d v):∃a dx fs,v = .ref a/\H a=aa (.ins (cl c) dx fs)/\fs.lookup m=none:=by
 unfold zeg at h;split at h
 ·rename_i k;split at h
  ·rename_i C fs e;rw[yL,decide_eq_true_eq,Option.isNone_iff_eq_none]at h;obtain⟨rfl,f⟩:=h;rw[Rep]at r;obtain⟨a,ha,rfl⟩:=r;obtain⟨dx,xs,b,R⟩:=W.ins ha e;exact⟨a,dx,xs,rfl,b,R.look.2 f⟩
  ·cases h
 ·cases h
theorem ziI(h:FnM X.prog X.w X.K X.mg X.base cl c m k n g)(x:QE X cl X0 o fa)(A:Cls X.K (cl c))(hn:n=(e::es).length+1)(hr:Room k X.A)(ha:QA X cl X0 (e::es) fr)(b:∀ρ m ds m1,fr ρ m = .ok ds m1->ds.length=(e::es).length)
  (l:autoParam (ap (e::es) X.env=(ai,eval e X.env)::ap es X.env) AutoP.a3._auto_1) (p:autoParam ((aC pos (ap es X.env)).any (·.1)=ai) AutoP.a3._auto_1)
  (u:autoParam (eval (.Call (.Attribute o m apos) (e::es) [] pos) X.env=(do
   let O <- eval o X.env
   bv apos.atName
   let (f,first) <- holding [O] (getMethod O m pl)
   bY pos f first (aC pos (ap (e::es) X.env)) (bd pos (be [] X.env)))) AutoP.a3._auto_1):QE X cl X0 (.Call (.Attribute o m apos) (e::es) [] pos) (zgC c m g fa fr):=by
 obtain⟨f,fd,ps,D,C,B⟩:=h.ex
 refine⟨PE.weak (zsZ (E:=E0) x.out A D B hr C .nil zqI ha.out l p u) fun σ H Q y=>ex3 y fun α ρ M W hr h=>tD.use W hr h fun t m1 J d v K w hr1 R q=>?_⟩
 obtain⟨hi,q⟩:=PQ.if q
 obtain⟨a,dx,fs,rfl,F,el⟩:=zgl w hi R
 refine⟨a,dx,fs,rfl,F,el,?_⟩
 cases i:fr ρ m1 with
 |bad=>rw[i]at q;exact q.elim
 |exc c m2=>exact tDA.exc w hr1 i q
 |ok ds m2=>
  rw[i]at q
  refine tDA.at w hr1 i fun j I vs s G hr2 r=>?_
  refine⟨?_,j,m2,d::ds,G,?_,PQ.mono s q fun _ _ _ _ _ _ z=>z⟩
  ·rw[yaf,yx,<- r.length,b ρ m1 ds m2 i,hn]
  ·rw[yaf,RepL]
   exact⟨_,_,rfl,R.mono w s,r⟩
theorem zd9(h:FnM X.prog X.w X.K X.mg X.base cl c m k n g)(i:QE X cl X0 o fa)(l:Cls X.K (cl c))(hn:n=1)(hr:Room k X.A)
  (e:autoParam (eval (.Call (.Attribute o m apos) [] [] pos) X.env=(do
   let O <- eval o X.env
   bv apos.atName
   let (f,first) <- holding [O] (getMethod O m pl)
   bY pos f first (aC pos (ap [] X.env)) (bd pos (be [] X.env)))) AutoP.a3._auto_1):QE X cl X0 (.Call (.Attribute o m apos) [] [] pos) (zgC c m g fa zak):=by
 obtain⟨f,fd,ps,t,s,p⟩:=h.ex
 refine⟨PE.weak (zqF (E:=E0) i.out l t p hr s .nil zqI e) fun σ H Q j=>ex3 j fun α ρ M W hr h=>tD.use W hr h fun b m1 x d v y w hr1 r q=>?_⟩
 obtain⟨hi,q⟩:=PQ.if q
 obtain⟨a,dx,fs,rfl,u,el⟩:=zgl w hi r
 refine⟨a,dx,fs,rfl,u,el,?_⟩
 refine⟨by rw[hn];rfl,b,m1,[d],w,?_,q⟩
 rw[yaf,RepL]
 exact⟨_,_,rfl,r,by rw[RepL]⟩
theorem zth{ds:List D}{vs:List V}{Q:VK}{R:RD D}(W:Wd K cl α mm H)(r:RepL K α H ds vs)(hl:n=ds.length+1)(h:PQ K cl X0 (mkM c g ds mm) α H R)(p:∀d α' m' H',R d α' m' H'->∀v,Rep K α' H' d v->Q v H') : ∀x dx,H x=none->H dx=none->dx≠x->spD K cl X0 n g (.ref x::(vs++[])) (upd (upd H dx (.own x)) x (.ins (cl c) dx [])) (fun v H2=>v = .non/\Q (.ref x) H2) E0:=by
 intro x dx m i f;have s:Same H (upd H dx (.own x)):=Same.new i;have k:=W.same s;have l:=Ext.of_same W s;have e:upd H dx (.own x) x=none:=by rw[zax (Ne.symm f)];exact m
 obtain⟨w,E⟩:=k.new (u := .ins (cl c) dx []) (o := .ins c []) e ⟨dx,[],zaF,rfl⟩;have a:Rep K (α ++ [x]) (upd (upd H dx (.own x)) x (.ins (cl c) dx [])) (.ob mm.length) (.ref x):=by
  rw[Rep];refine⟨x,?_,rfl⟩;rw[<- W.len,yaF (yb _)];simp
 refine⟨by rw[yaf,yx,<- r.length,hl],α ++ [x],mm++[.ins c []],.ob mm.length::ds,w,?_,?_⟩
 ·rw[yaf,RepL];exact⟨_,_,rfl,a,(r.mono W l).mono k E⟩
 ·unfold mkM at h;refine PQ.mono (l.trans E) h.bind fun d b m1 y z t q v j=>?_;cases d with
  |non=>
   rw[Rep]at j;exact⟨j,p _ _ _ _ (PQ.ok t (show PQ K cl X0 (.ok (.ob mm.length) m1) b y R from q)) _ (a.mono w z)⟩
  |_=>exact q.elim
theorem zsD(h:FnC X.prog X.w X.K X.mg X.base cl c k n g)(hn:n=(e::es).length+1)(hr:Room (k+1) X.A)(o:Gl X c)(ha:QA X cl X0 (e::es) fr)(a:∀ρ m ds m1,fr ρ m = .ok ds m1->ds.length=(e::es).length)(i:autoParam ((c==("__debug__" : af))=ai) AutoP.a1._auto_1)(q:autoParam (ap (e::es) X.env=(ai,eval e X.env)::ap es X.env) AutoP.a3._auto_1)(d:autoParam ((aC pos (ap es X.env)).any (·.1)=ai) AutoP.a3._auto_1):QE X cl X0 (.Call (.Name c p) (e::es) [] pos) (eFn (mkM c g) fr):=by
 obtain⟨f,fd,ps,w,u,t,s⟩:=h.ex;refine⟨PE.weak (zs0 (E:=E0) u s hr o w t .nil zqI ha.out i q d) fun σ H Q l=>ex3 l fun α ρ M W hr h=>?_⟩;unfold eFn at h;cases b:fr ρ M with
 |bad=>rw[b]at h;exact h.elim|exc c m2=>exact tDA.exc W hr b h|ok ds m1=>
  rw[b]at h;exact tDA.at W hr b fun j A v y x hr1 r=>zth x r (by rw[hn,a ρ M ds m1 b]) (PQ.mono y h fun _ _ _ _ _ _ z=>z) fun _ _ _ _ z=>z
theorem FnM.mk'{w:al}{f:ac}{k:Nat}(F:Fun K x qual st f fd)(b:Binds K fd ps [])(m:Meth K (cl c) x f)(S:FnScope N ps (zai st))(hn:n=ps.length)(h:∀(cdv:ag)(A:az)(outer:List yaJ)(s:ak)(H:Hp)(E:XK),Room k (A.deeper (aN qual (zai st) s.heap.objs.size f cdv))->QSs (zkN CX0 P w K mg base N qual (zai st) f cdv A outer s H E).nox cl X0 (zbs st) body):FnM P w K mg base cl c x (k+1) n (zaZ N.length body) :=
 ⟨f,fd,ps,m,b,F.ok S (fun vs H Q E h=>by rw[<- hn];exact h.1) fun cdv A outer s H vs Q E hr q=>⟨_,(h cdv A outer s H E hr).out,fn_d q⟩⟩
theorem FnC.mk'{w:al}{f:ac}{k:Nat}(F:Fun K x qual st f fd)(b:Binds K fd ps [])(M:mg c=aa (.ref (cl c)))(m:Mk K (cl c) f)(S:FnScope N ps (zai st))(hn:n=ps.length)(h:∀(cdv:ag)(A:az)(outer:List yaJ)(s:ak)(H:Hp)(E:XK),Room k (A.deeper (aN qual (zai st) s.heap.objs.size f cdv))->QSs (zkN CX0 P w K mg base N qual (zai st) f cdv A outer s H E).nox cl X0 (zbs st) body):FnC P w K mg base cl c (k+1) n (zaZ N.length body) :=
 ⟨f,fd,ps,M,m,b,F.ok S (fun vs H Q E h=>by rw[<- hn];exact h.1) fun cdv A outer s H vs Q E hr q=>⟨_,(h cdv A outer s H E hr).out,fn_d q⟩⟩
end
end MD
namespace L2
open PySem PySem.Spec PyProof.Rows
theorem zg3:∀(bs:List Bool),((yC bs.length).any fun i=>bs.getD i ai)=bs.any id
 |[]=>rfl|b::r=>by
  rw[yx,ybx,yaH,yb7,yaH];have e:((fun i=>(b::r).getD i ai)∘Nat.succ)=fun i=>r.getD i ai:=by
   funext i;simp
  rw[e,zg3 r];simp
theorem zpM{bs:List Bool}{its:List ag}(r:Vals (bs.map V.bl) its){i:Nat}{v:ag}(h:its.toArray[i]?=aa v):v = .bool (bs.getD i ai):=by
 have hi:i<its.length:=by
  have:=(yc7.mp h).1;simpa using this
 have hl:=r.length;rw[yd]at hl;have:=zl0 r h;rw[this];congr 1;simp[ya5,show i<bs.length by omega]
theorem zpL{X:Cx}(g:X.calm=ae):CallR X (.builtin "any") (fun xs H Q=>∃(l:ac)(bs:List Bool),xs=[.ref l]/\SqL X.K H l (bs.map V.bl)/\Q (.bl (bs.any id)) H):=by
 intro pins s σ H xs us Q I r h;obtain⟨l,bs,rfl,d,q⟩:=h;obtain⟨u,rfl,R⟩:=zcA r;cases R;obtain⟨its,r',pl,m⟩:=I.list d;have hl:=pl.isList;have c:l<s.heap.objs.size:=by obtain⟨_,e,_⟩:=hl;exact yg e
 have a:bs.length=its.length:=by rw[<- r'.length,yd]
 refine call_any_walk (bW hl ?_);refine⟨s.heap.objs.size,_,_,its.toArray.size,_,_,fun i=>bs.getD i ai,rfl,ycN (A:=X.A.in1) (I.ok.hd g) _ l (yB c) its.toArray,⟨⟨_,yw _ rfl,rfl,rfl⟩,hl.push _⟩,fun i v s' n E k j=>?_,fun h' t f=>?_⟩
 ·rw[zpM r' k];exact bx j
 ·rw[yG,<- a,zg3];exact⟨.bl (bs.any id),H,I.kept fun b o e=>f b o (fun z=>yB (yg e) (yS.mp z)) (ye _ e),rfl,q⟩
end L2
namespace MD
open PySem PySem.Spec PyProof.Rows L2
def anyF(ds:List D)(m:Sto):Res D:=match ds with
 |[d]=>match (lOf d m).bind zih with
  |some bs=>.ok (.bl (bs.any id)) m|none=>.bad
 |_=>.bad
theorem fd_any{K:ya}{cl:af->ac}{ex:XD}:FnD K cl ex (fun xs H Q=>∃(l:ac)(bs:List Bool),xs=[.ref l]/\SqL K H l (bs.map V.bl)/\Q (.bl (bs.any id)) H) anyF:=fun α m H x d Q W r h=>by
 unfold anyF at h;split at h
 ·split at h
  ·rename_i ns e;obtain⟨v,rfl,R⟩:=r.one_of;obtain⟨xs,c,E⟩:=yax.mp e;obtain⟨p,ys,rfl,a,b⟩:=ze7 W c R;rw[zgG E b]at a;exact⟨p,ns,rfl,a,PQ.ok W h _ zf2⟩
  ·exact h.elim
 ·exact h.elim
end MD
namespace PySem
open Sem (wp)
open Builtin
end PySem
namespace L2
open PySem PySem.Spec PyProof.Rows
end L2
namespace MD
open PySem PySem.Spec PyProof.Rows L2
def zmR:SV:=by walk_at "#:Lt{:)gl{bxnotJ*3:J*MgsU/)t{0/"
def zck:List D->Sto->Res D:=zaZ 3 zmR
def zlF:SV:=by walk_at "#sFv1/s>IwY)u`)$Jv[?sYv/2tU$u]L2s5nt/M/"
def zei:List D->Sto->Res D:=zaZ 2 zlF
def zgp:SV:=by walk_at "#IxouXtUu`M2"
def zbT:List D->Sto->Res D:=zaZ 1 zgp
def zfn:SV:=by walk_at "#Ixo$u]ua"
def zbk:List D->Sto->Res D:=zaZ 1 zfn
def zfk:SV:=by walk_at "#<xps=t40EEE(xqtTu_)({c$sfu[(xrtT"
def zbC:List D->Sto->Res D:=zaZ 3 zfk
end MD
namespace MxD
open PySem PySem.Spec PyProof.Rows
end MxD
namespace MD
open PySem PySem.Spec PyProof.Rows L2
end MD
namespace L2
open PySem PySem.Spec PyProof.Rows
end L2
namespace MD
open PySem PySem.Spec PyProof.Rows L2
end MD
namespace L2
open PySem PySem.Spec PyProof.Rows
end L2
namespace MD
open PySem PySem.Spec PyProof.Rows L2
end MD
namespace L2
open PySem PySem.Spec PyProof.Rows
end L2
namespace PySem
open Sem (wp)
end PySem
namespace L2
open PySem PySem.Spec PyProof.Rows
end L2
namespace MD
open PySem PySem.Spec PyProof.Rows L2
section
variable{K:ya}{cl:af->ac}{ex:XD}{gt:GV}{ta:TV}{fk fv:EV}{fr:AV}
end
def zjt:SV:=by walk_at "#0vW/(w9vmxO*s#u%s;tHJE8MP%t/)"
def zdQ:List D->Sto->Res D:=zaZ 3 zjt
def zhe:SV:=by walk_at "#<xps=sJ<w8$vev1/s>LE)/?xqs'h7<w8?uE_$t^ua$t^)U><w8?{d$sf_QsZxrs'hC0EEEsXsy(xk$sfqt7sx"
def zcP:List D->Sto->Res D:=zaZ 8 zhe
def zeG:SV:=by walk_at "#<tfs't4Ivaw/xfsls4(sPXu[)sjt6s`Qu`f*82"
def zcy:List D->Sto->Res D:=zaZ 3 zeG
def zex:SV:=by walk_at "#lvpyn/lvpw:3(v&%lvpwz3s>lvpw{3s>vpxs3L"
def zaU:List D->Sto->Res D:=zaZ 2 zex
def zb1:SV:=by walk_at "#t(vn({e$t9LvTxtZ"
def zbi:List D->Sto->Res D:=zaZ 2 zb1
def zew:SV:=by walk_at "#Itf$t0w:xE"
def zaB:List D->Sto->Res D:=zaZ 1 zew
def zcl:SV:=by walk_at "#:nt9u$u$t{0tjcv./Ltapvq/L"
def zaY:List D->Sto->Res D:=zaZ 2 zcl
def zcM:SV:=by walk_at "#:vev1t0w{3s>(v&%(v&$t0w{3t4vYfvq)nt9u$LswsFw48t0xs3si*t7ZI{f?wfxuFxv*tytHcw4Pfvq/%"
def zbb:List D->Sto->Res D:=zaZ 4 zcM
def zcv:SV:=by walk_at "#:tIt9u$sp)spu$s#tu1udv0s<s9fvq)*sJsFxlt0wz3s>vkv0qs9t0wz38sJs5csas!/fEvq8P"
def za4:List D->Sto->Res D:=zaZ 5 zcv
def zdc:SV:=by walk_at "#I{g$t0w:vX"
def zbh:List D->Sto->Res D:=zaZ 2 zdc
def zcw:SV:=by walk_at "#:tInt9M*uFspMs#u%s;tqu}tS{h{ixE0V{jvbvntS{k{l3t70Vw|vbvntS{m{n3t50V{oZI{p$t9L$nt9M*X$tS{q{r3Q2"
def za5:List D->Sto->Res D:=zaZ 5 zcw
def zcL:SV:=by walk_at "#:s>gt[u'$t9Mh1t(t~tJ(xw$w[t7(xw$w[u[ov1tS{s{t3Xt7s>s_8gs5*"
def zaX:List D->Sto->Res D:=zaZ 4 zcL
def zcE:SV:=by walk_at "#lxKtS{u{vvX:y{3t4su*s!t9)xtZ<{w$w[$tS{x{yvX_Xsjlsit0w:vX08"
def zb8:List D->Sto->Res D:=zaZ 4 zcE
end MD
namespace L2
open PySem PySem.Spec PyProof.Rows
variable{vs:Array ag}
theorem zdG{h:au}{a:ac}{o:av}{i:Nat}{x:ag}(H:h.get? a=aa o)(hd:o.data = .fields vs):(h.update a (ybg fun z=>z.setIfInBounds i x)).get? a=aa { o with data := .fields (vs.setIfInBounds i x) }:=by
 obtain⟨c,d,D,sl⟩:=o;simp only at hd;subst hd;exact ycQ _ H rfl
variable{M:Model}{A:az}{E:ag->ak->Prop}{s:ak}
theorem zkx{nx fr l f L:ag}{pl:List ag}(H:IsPlace pl){Q:ag->ak->Prop}(h:∀ts:Array ag,3<ts.size->Q (.ref s.heap.objs.size) { s with heap:=s.heap.push { cls := .type "traceback", data := .fields ts } }):wpAny M A (EntryCells.newEntry nx fr l f L pl) Q E s:=by
 unfold EntryCells.newEntry newFields;refine aR (h _ ?_) ?_
 ·simp
 ·show Array.size _<=sizeLine+2;have e:sizeLine=16777216:=by decide
  rcases H with rfl|⟨a,b,c,d,C,B,_,rfl⟩ <;> simp <;> omega
variable{base:au}{env:aH}{outer:List aH}{L:ac}{oe:av}{Q:Unit->ak->Prop}
theorem zlO{e:ac}{head:ag}{f:Bool}(fr:A.frames=aa (env::outer))(F:s.heap.FunFrames base (env::outer))(r:env.frame=aa L)
  (l:s.heap.get? e=aa oe) (hd:oe.data = .fields vs) (j:1<vs.size)
  (h:∀h':au,(∀b o,b∉frs (env::outer)->b≠e->s.heap.get? b=aa o->h'.get? b=aa o)->(∀b o,b≠e->s.heap.get? b=aa o->∃sl,h'.get? b=aa { o with slots:=sl }) →
   (∃vs',h'.get? e=aa { oe with data := .fields vs' }/\vs'[1]?=aa (.ref s.heap.objs.size))->(∃oT ts,h'.get? s.heap.objs.size=aa oT/\oT.data = .fields ts/\3<ts.size)->Q () { s with heap:=h' }) :
  wpAny M A (do
   let a <- frameOf env
   let pl <- entryPlaceOf L f
   let b <- EntryCells.newEntry head a yab (rawInt ↑L) yab pl
   setField (yn e) 1 b) Q E s:=by
 have n:e∉frs (env::outer):=fun z=>by
  obtain⟨_,o,k,hn⟩:=F.mem z
  rw[l]at k
  cases k
  exact hn _ hd
 refine aj (wpAny_frameOf_fun fr F r fun H S=>?_)
 obtain⟨sz,k1,k2⟩:=S
 refine aj (wpAny_entryPlaceOf fun pl m=>aj (zkx m fun ts i=>?_))
 have d:H.get? e=aa oe:=by rw[k1 e n];exact l
 have c:(H.push { cls := .type "traceback", data := .fields ts }).get? e=aa oe:=ye _ d
 have ne:H.objs.size≠e:=yR (yg d)
 refine b8 c hd j ?_
 have p:((H.push { cls := .type "traceback", data := .fields ts }).update e (ybg fun z=>z.setIfInBounds 1 (.ref H.objs.size))).get? H.objs.size=aa { cls := .type "traceback", data := .fields ts }:=by
  rw[yaK _ _ _ _ ne];exact yw _ rfl
 rw[show s.heap.objs.size=H.objs.size from sz.symm]at h
 refine h _ (fun b o N f q=>?_) (fun b o f q=>?_) ⟨vs.setIfInBounds 1 (.ref H.objs.size),?_,?_⟩ ⟨_,ts,p,rfl,i⟩
 ·have g:H.get? b=aa o:=by rw[k1 b N];exact q
  rw[yaK _ _ _ _ f]
  exact ye _ g
 ·obtain⟨sl,g⟩:=k2 b o q
  refine⟨sl,?_⟩
  rw[yaK _ _ _ _ f]
  exact ye _ g
 ·exact zdG c hd
 ·rw[Array.getElem?_setIfInBounds];simp[j]
def TbO(T:ac):au->Prop:=fun h=>∃o vs,h.get? T=aa o/\o.data = .fields vs
theorem ff_up{h:au}{base:au}{T:ac}{f:av->av}:∀l:List aH,T∉frs l->h.FunFrames base l->(h.update T f).FunFrames base l
 |[],_,_=>by simp only[Heap.FunFrames]|x::l,hn,q=>by
  simp only[Heap.FunFrames]at q ⊢;obtain⟨e,⟨L,o,a,b,c,d⟩,Q⟩:=q;have H : ¬ (L=T∨T∈frs l):=by
   intro z;refine hn ?_;unfold frs;rw[ybI,a];rcases z with z|z
   ·rw[z];exact yaN ..
   ·exact yY _ z
  exact⟨e,⟨L,o,a,b,by rw[yaK _ _ _ _ fun z=>H (.inl z)];exact c,d⟩,ff_up l (fun z=>H (.inr z)) Q⟩
theorem zqQ{e:ac}(fr:A.frames=aa (env::outer))(r:s.heap.FunFrames base (env::outer))(m:env.frame=aa L)
  (f:s.heap.get? e=aa oe) (hd:oe.data = .fields vs)
  (w:vs[1]?=aa .none∨∃T oT ts,vs[1]?=aa (.ref T)/\T≠e/\s.heap.get? T=aa oT/\oT.data = .fields ts/\3<ts.size) (y:vs[1]?≠aa .none->Q () s)
  (h:∀h':au,(∀b o,b∉frs (env::outer)->b≠e->vs[1]?≠aa (.ref b)->s.heap.get? b=aa o->h'.get? b=aa o)->(∀b o,b≠e->vs[1]?≠aa (.ref b)->s.heap.get? b=aa o->∃sl,h'.get? b=aa { o with slots:=sl })->(∀T,vs[1]?=aa (.ref T)->TbO T h') →
   (∃vs',h'.get? e=aa { oe with data := .fields vs' }/\vs'[1]?=aa (.ref s.heap.objs.size))->(∃oT ts,h'.get? s.heap.objs.size=aa oT/\oT.data = .fields ts/\3<ts.size)->Q () { s with heap:=h' }) :
  wpAny M A (aS (.ref e) env) Q E s:=by
 unfold aS;rw[m];rcases w with H|⟨T,oT,ts,H,ne,g,d,v⟩
 ·have p:1<vs.size:=by have:=(yc7.mp H).1;exact this
  refine aj (aE f hd H ?_);refine zlO (head := .none) fr r m f hd p fun h' k1 k2 k3 k=>h h' (fun b o a c _ q=>k1 b o a c q) (fun b o a _ q=>k2 b o a q) (fun T z=>?_) k3 k;rw[H]at z;cases z
 ·have p:1<vs.size:=by have:=(yc7.mp H).1;exact this
  refine aj (aE f hd H ?_);refine aj (aE g d (Array.getElem?_eq_getElem v) ?_);by_cases t:(ts[3]==rawInt L)=ae
  ·dsimp only;rw[if_pos t];exact aw (y (by rw[H];intro z;cases z))
  dsimp only;rw[if_neg t];refine aj (b8 g d v ?_);have N:T∉frs (env::outer):=fun z=>by
   obtain⟨_,o,u,hn⟩:=r.mem z;rw[g]at u;cases u;exact hn _ d
  have l:=zdG (i:=3) (x := .none) g d;have j:(s.heap.update T (ybg fun z=>z.setIfInBounds 3 .none)).get? e=aa oe:=by rw[yaK _ _ _ _ ne.symm];exact f
  have F:(s.heap.update T (ybg fun z=>z.setIfInBounds 3 .none)).FunFrames base (env::outer):=ff_up _ N r;have Z:(s.heap.update T (ybg fun z=>z.setIfInBounds 3 .none)).objs.size=s.heap.objs.size:=Heap.size_update ..;refine zlO (head := .ref T) fr F m j hd p fun h' k1 k2 k3 k=>h h' (fun b o a c n q=>k1 b o a c ?_) (fun b o a n q=>k2 b o a ?_) (fun B z=>?_) (by simpa only[Z] using k3) (by simpa only[Z] using k)
  ·rw[yaK _ _ _ _ fun z=>n (by rw[H,z])];exact q
  ·rw[yaK _ _ _ _ fun z=>n (by rw[H,z])];exact q
  ·rw[H]at z;cases z;have:=k1 T _ N ne l;exact⟨_,_,this,rfl⟩
end L2
namespace L2
open PySem PySem.Spec PyProof.Rows MD
structure Fly(C:ag)(dd:Option ac)(e:ac)(H:Hp)(h:au):Prop where
 te:H e=aa (.ext (zr7 C dd e))
 lies:∃o vs,h.get? e=aa o/\o.cls=C/\o.dict=dd/\o.data = .fields vs/\(vs[1]?=aa .none∨∃T oT ts,vs[1]?=aa (.ref T)/\T≠e/\H T=aa (.ext (TbO T))/\h.get? T=aa oT/\oT.data = .fields ts/\3<ts.size)
variable{P:ar}{H:Hp}{h:au}{C:ag}{dd:Option ac}
theorem zrK{w:al}{e:ac}(x:zr7 C dd e h):ObjOk P w H h e (.ext (zr7 C dd e)):=by
 refine⟨x,?_,fun c b a k=>?_⟩
 ·obtain⟨o,_,q,_⟩:=x;exact⟨o,q⟩
 ·obtain⟨o,vs,q,r⟩:=a;exact⟨o,vs,k o q,r⟩
theorem zs9{w:al}{T:ac}(x:TbO T h):ObjOk P w H h T (.ext (TbO T)):=by
 refine⟨x,?_,fun c b a k=>?_⟩
 ·obtain⟨o,_,q,_⟩:=x;exact⟨o,q⟩
 ·obtain⟨o,vs,q,r⟩:=a;exact⟨o,vs,k o q,r⟩
variable{a:ac}
theorem ObjOk.has{w:al}{o:HO}(x:ObjOk P w H h a o):∃u,h.get? a=aa u:=by
 cases o with
 |lst xs=>obtain⟨_,_,_,_,e⟩:=x;exact⟨_,e⟩
 |tup xs=>obtain⟨_,_,_,_,u,e,_⟩:=x;exact⟨u,e⟩
 |dK kvs=>obtain⟨_,_,_,_,o,_,_,e,_⟩:=x;exact⟨_,e⟩
 |dT kvs=>obtain⟨_,_,_,_,o,_,_,e,_⟩:=x;exact⟨_,e⟩
 |set S n=>obtain⟨o,_,_,_,e,_⟩:=x;exact⟨_,e⟩
 |ins C dx fs=>obtain⟨_,_,_,e,_⟩:=x;exact⟨_,e⟩
 |own y=>exact x|xd fs=>obtain⟨_,⟨_,_,_,e,_⟩,_⟩:=x;exact⟨_,e⟩
 |rng lo hi=>obtain⟨_,_,_,e⟩:=x;exact⟨_,e⟩
 |frz ob u=>obtain⟨e,_⟩:=x;exact⟨_,e⟩
 |tbl ps=>exact⟨_,show h.get? a=aa _ from x⟩|met f y=>exact⟨_,show h.get? a=aa _ from x⟩|ext φ=>exact x.2.1
theorem HOk.none{w:al}(x:HOk P w H h)(e:h.get? a=Option.none):H a=Option.none:=by
 cases q:H a with
 |none=>rfl|some u=>
  obtain⟨o,z⟩:=(x a u q).has;rw[e]at z;cases z
variable{M:Model}{A:az}{Q:Unit->ak->Prop}{E:ag->ak->Prop}
section
variable{X:Cx}{pins:List (ac×av)}{σ : St}{s:ak}{e:ac}
theorem zqU{h':au}{args:List ag}(I:Inv X pins σ H s)(hm:s.heap.MadeExcOf h' e C args):H e=none/\Inv X pins σ (upd H e (.ext (zr7 C none e))) { s with heap:=h' }/\Fly C none e (upd H e (.ext (zr7 C none e))) h':=by
 have hn:=I.hok.none hm.new;obtain⟨t,h,_⟩:=hm.there;have ne:∀b o,s.heap.get? b=aa o->b≠e:=fun b o q z=>by rw[z,hm.new]at q;cases q
 refine⟨hn,?_,zaF,_,_,h,rfl,rfl,rfl,.inl rfl⟩;refine I.un (t':=s.toks) (h':=h') ⟨fun b o q _ _ _=>hm.keeps b o q,fun b o q _ _ _=>⟨_,hm.keeps b o q⟩,fun b o q n _=>by rw[zax (ne b o q)];exact n,fun b o q _=>⟨_,hm.keeps b o q⟩,fun b xs q=>by rw[zax (zar q hn)];exact q,fun b o u q=>by rw[zax (zar q hn)];exact q,fun b ps q=>⟨#[],by rw[zax (zar q hn),q];simp⟩⟩ fun b u q=>?_;by_cases a:b=e
 ·subst a;rw[zaF]at q;cases q;exact zrK ⟨_,_,h,rfl,rfl,rfl⟩
 ·rw[zax a]at q;exact(I.hok b u q).stay (fun c v _ z=>hm.keeps c v z) (fun c z=>by rw[zax (zar z hn)];exact z) fun c xs z=>by rw[zax (zar z hn)];exact z
def Tr(e:ac)(h:au):Prop:=∀o vs,h.get? e=aa o->o.data = .fields vs->vs[1]?≠aa .none
theorem zi1{env0:aH}{O:List aH}{L:ac}(I:Inv X pins σ H s)(x:X.stack=env0::O)(R:env0.frame=aa L)(U:A.frames=X.A.frames)(F:Fly C dd e H s.heap)(h:∀s' H',s'.os=s.os->Same H H'->Inv X pins σ H' s'->Fly C dd e H' s'.heap->Tr e s'.heap->Q () s'):wpAny M A (aS (.ref e) env0) Q E s:=by
 have Z:=F;obtain⟨te,o,vs,y,i,r,hd,hl⟩:=F;have fr:A.frames=aa (env0::O):=by rw[U,<- x];exact I.ok.frames
 have Y:s.heap.FunFrames X.base (env0::O):=x ▸ I.stack;refine zqQ fr Y R y hd (hl.imp id fun⟨T,oT,ts,a,b,c,d,f,g⟩=>⟨T,oT,ts,a,b,d,f,g⟩) (fun z=>h s H rfl (fun _ _ z=>z) I Z fun K J m w=>by rw[y]at m;cases m;rw[hd]at w;cases w;exact z) fun h' k1 k2 k3 P k5=>?_;have hn:H s.heap.objs.size=none:=I.hok.fresh (yb _);have trk:∀b,vs[1]?=aa (.ref b)->H b=aa (.ext (TbO b)):=fun b z=>by
  rcases hl with q|⟨T,oT,ts,a,_,c,_⟩
  ·rw[q]at z;cases z
  ·rw[a]at z;cases z;exact c
 have N:∀b u,H b=aa u->b∉frs (env0::O):=fun b u q z=>by
  have:=I.stkFree b (x ▸ z);rw[q]at this;cases this
 obtain⟨V,j,p⟩:=P;obtain⟨oT,ts,G,t,W⟩:=k5;have B:zr7 C dd e h':=⟨_,V,j,i,r,rfl⟩;have S:∀b o,s.heap.get? b=aa o->b≠s.heap.objs.size:=fun b o q=>yB (yg q);have un:Un (frs X.stack) [] H (upd H s.heap.objs.size (.ext (TbO s.heap.objs.size))) s.heap h':=by
  rw[x];refine⟨fun b u q n k _=>k1 b u k (fun z=>by rw[z,te]at n;cases n) (fun z=>by rw[trk b z]at n;cases n) q,fun b u q n k _=>k2 b u (fun z=>by rw[z,te]at n;cases n) (fun z=>by rw[trk b z]at n;cases n) q,fun b u q n _=>by rw[zax (S b u q)];exact n,fun b u q _=>?_,fun b xs q=>by rw[zax (zar q hn)];exact q,fun b o u q=>by rw[zax (zar q hn)];exact q,fun b ps q=>⟨#[],by rw[zax (zar q hn),q];simp⟩⟩;by_cases k:b=e
  ·rw[k];exact⟨_,j⟩
  ·by_cases l:vs[1]?=aa (.ref b)
   ·obtain⟨o,_,q,_⟩:=k3 b l;exact⟨o,q⟩
   ·obtain⟨sl,q⟩:=k2 b u k l q;exact⟨_,q⟩
 have hok:HOk X.prog X.w (upd H s.heap.objs.size (.ext (TbO s.heap.objs.size))) h':=fun b u q=>by
  by_cases k:b=s.heap.objs.size
  ·subst k;rw[zaF]at q;cases q;exact zs9 ⟨oT,ts,G,t⟩
  ·rw[zax k]at q;by_cases D:b=e
   ·subst D;rw[te]at q;cases q;exact zrK B
   ·by_cases l:vs[1]?=aa (.ref b)
    ·rw[trk b l]at q;cases q;exact zs9 (k3 b l)
    ·refine(I.hok b u q).stay (fun c v i z=>?_) (fun c z=>by rw[zax (zar z hn)];exact z) fun c xs z=>by rw[zax (zar z hn)];exact z
     rcases i with rfl|i
     ·exact k1 c v (N c u q) D l z
     ·exact k1 c v (N c _ i) (fun z=>by rw[z,te]at i;cases i) (fun z=>by rw[trk c z]at i;cases i) z
 refine h _ _ rfl (MD.Same.new hn) (I.call (g':=s.gens) (t':=s.toks) (d':=s.drawn) un hok I.bare fun b z=>absurd z (by simp)) ⟨?_,_,V,j,i,r,rfl,.inr ⟨_,oT,ts,p,?_,zaF,G,t,W⟩⟩ fun K J m w=>?_
 ·rw[zax (zar te hn)];exact te
 ·exact(S e o y).symm
 ·rw[show h'.get? e=_ from j]at m;cases m;cases w;rw[p];intro z;cases z
theorem zgB{f:Option ac}(I:Inv X pins σ H s)(F:Fly C dd e H s.heap)(h:∀s',s'.os=s.os->Inv X pins σ H s'->Fly C dd e H s'.heap->Q () s'):wpAny M A (bM (.ref e) f) Q E s:=by
 have n:=F;obtain⟨te,o,vs,i,l,j,hd,hl⟩:=F;unfold bM;rcases hl with c|⟨T,oT,ts,c,ne,t,g,a,k⟩
 ·exact aj (aE i hd c (aw (h s rfl I n)))
 ·refine aj (aE i hd c ?_);show wpAny M A (setField (.ref T) 3 (f.elim .none fun f=>rawInt f)) Q E s;refine b8 g a k (h _ rfl ?_ ⟨te,o,vs,?_,l,j,hd,.inr ⟨T,_,_,c,ne,t,zdG g a,rfl,by simpa using k⟩⟩)
  ·have m:upd H T (.ext (TbO T))=H:=by
    funext b;by_cases d:b=T
    ·rw[d,zaF,t]
    ·rw[zax d]
   have:=I.write (x:=T) (e:=T) (o := .ext (TbO T)) (t':=s.toks) (h':=s.heap.update T (ybg fun z=>z.setIfInBounds 3 (f.elim .none fun f=>rawInt f))) (by rw[t];trivial) (.inl rfl) (fun b u d q=>by rw[yaK _ _ _ _ d];exact q) ⟨_,zdG g a⟩ (zs9 ⟨_,_,zdG g a,rfl⟩);rw[m]at this;exact this
  ·show (s.heap.update T _).get? e=aa o;rw[yaK _ _ _ _ ne.symm];exact i
theorem zja(I:Inv X pins σ H s)(a:X.stack=X.env::X.outer)(c:A.frames=X.A.frames)(F:Fly C dd e H s.heap)(h:∀s' H',s'.os=s.os->Same H H'->Inv X pins σ H' s'->Fly C dd e H' s'.heap->Q () s'):wpAny M A (aS (.ref e) X.env) (fun _ s'=>wpAny M A (bM (.ref e) none) Q E s') E s:=by
 have b:X.env.frame=aa X.env.locals:=by
  rcases I.ok.stk with z|⟨_,z⟩
  ·rw[a]at z;have:=congrArg yaY z;simp at this
  ·exact z
 exact zi1 I a b c F fun s1 f O S d j _=>zgB d j fun s2 o i g=>h s2 f (o.trans O) S i g
theorem zoH(I:Inv X pins σ H s)(a:X.stack=X.env::X.outer)(b:A.frames=X.A.frames)(F:Fly C dd e H s.heap)(h:∀s' H',s'.os=s.os->Same H H'->Inv X pins σ H' s'->Fly C dd e H' s'.heap->Q () s'):wpAny M A (leaving X.env (.ref e)) Q E s:=by
 unfold leaving;exact aj (zja I a b F h)
def CXx(P:ar)(w:al):CXT:=fun outer H s E v s'=>∃e C dd H',v = .ref e/\s'.os=s.os/\aU s'.gens/\Un (frs outer) [] H H' s.heap s'.heap/\HOk P w H' s'.heap/\Fly C dd e H' s'.heap/\E C dd H'
end
end L2
namespace MD
open PySem PySem.Spec PyProof.Rows L2
def Res.pu{α : Type}(r:Res α):Res α := match r with
 |.exc _ _=>.bad|r=>r
def ePu(f:EV):EV:=fun ρ m=>(f ρ m).pu
def aPu(f:AV):AV:=fun ρ m=>(f ρ m).pu
def tPu(f:TV):TV:=fun ρ m=>(f ρ m).pu
def sPu(f:SV):SV:=fun ρ m=>(f ρ m).pu
variable{K:ya}{cl:af->ac}{α : List ac}{H:Hp}
theorem PQ.pu{ex:XD}{a : Type}{r:Res a}{R:RD a}(h:PQ K cl ex r.pu α H R):PQ K cl X0 r α H R:=by
 cases r with
 |ok d m=>exact h|exc c m=>exact h.elim|bad=>exact h
def FlyC(K:ya)(cl:af->ac)(c:Exc)(e:ac)(α : List ac)(H:Hp)(h:au):Prop:=∃dd xs,yai K aF c.cls=aa (aa (.ref (cl c.cls)))/\Fly (.ref (cl c.cls)) dd e H h/\ztS H dd xs/\RepL K α H c.args xs
def XP(X:Cx)(cl:af->ac)(pins:List (ac×av))(σ : L2.St)(W:XD)(v:ag)(s':ak):Prop :=
 ∃e H' c α' m',v = .ref e/\Inv X pins σ H' s'/\FlyC X.K cl c e α' H' s'.heap/\Wd X.K cl α' m' H'/\∀α2 H2,Ext α' H' α2 H2->Wd X.K cl α2 m' H2->W c α2 m' H2
def XPs(X:Cx)(cl:af->ac)(pins:List (ac×av))(W:XD)(v:ag)(s':ak):Prop:=∃σ,XP X cl pins σ W v s'
section
variable(X:Cx)(cl:af->ac)
structure YE(e:am)(f:EV):Prop where
 out:∀(pins:List (ac×av))(s:ak)(σ : L2.St)(H:Hp)(Q:VK)(W:XD),Inv X pins σ H s->tD X.K cl W f σ H Q->wpAny (ao X.prog X.w) X.A (eval e X.env) (EP X pins σ Q) (XP X cl pins σ W) s
structure YS(st:aq)(f:SV):Prop where
 out:∀(pins:List (ac×av))(s:ak)(σ : L2.St)(H:Hp)(D:Ends)(W:XD),Inv X pins σ H s->tDS X.K cl W f D σ H->wpAny (ao X.prog X.w) X.A (exec st X.env) (SP X pins D) (XPs X cl pins W) s
structure YSs(st:List aq)(f:SV):Prop where
 out:∀(pins:List (ac×av))(s:ak)(σ : L2.St)(H:Hp)(D:Ends)(W:XD),Inv X pins σ H s->tDS X.K cl W f D σ H->wpAny (ao X.prog X.w) X.A (execs st X.env) (SP X pins D) (XPs X cl pins W) s
end
variable{X:Cx}{es:List am}{pos p:ax}{st:aq}{W:XD}{σ : L2.St}{pins:List (ac×av)}{s:ak}{x:af}
section
variable{e:am}{f g:EV}{ta:TV}{fr:AV}{sts sts':List aq}{fs gs:SV}
theorem tDT.pu{Q:Bool->Hp->Prop}(h:tDT X.K cl W (tPu ta) σ H Q):tDT X.K cl X0 ta σ H Q:=ex3 h fun α ρ m W hr h=>⟨α,ρ,m,W,hr,PQ.pu h⟩
theorem tDS.pu{D:Ends}(h:tDS X.K cl W (sPu fs) D σ H):tDS X.K cl X0 fs D σ H:=ex3 h fun α ρ m W hr h=>⟨α,ρ,m,W,hr,PQ.pu h⟩
theorem zm9(a:X.xe=fun _ _=>False)(h:QS X cl X0 st fs):YS X cl st (sPu fs) :=
 ⟨fun pins s σ H D W I q=>aA (h.out pins s σ H D I q.pu) (fun _ _ z=>z) fun _ _ z=>by rw[a]at z;exact z.elim⟩
theorem zm8:YSs X cl [] zbG:=⟨fun pins s σ H D W I a=>ex3 a fun α ρ m W hr h=>bj ⟨σ,H,I,PQ.ok W h σ hr⟩⟩
theorem zfL(a:YS X cl st fs):YSs X cl [st] fs:=⟨fun pins s σ H D W I h=>by
 refine bT (thn (a.out pins s σ H D W I h) fun f s1 q=>?_);cases f with
 |next=>exact bj q|ret v=>exact q|brk=>exact q|cont=>exact q⟩
theorem zdL(l:YS X cl st fs)(k:YSs X cl sts gs):YSs X cl (st::sts) (zat fs gs):=⟨fun pins s σ H D W I j=>by
 refine bT (thn (l.out pins s σ H { D with nx:=fun b i=>tDS X.K cl W gs D b i } W I ?_) fun f s1 q=>?_)
 ·exact ex3 j fun α ρ m g hr h=>⟨α,ρ,m,g,hr,PQ.mono (Ext.refl g) h.bind fun F e m1 i E w q=>by
   cases F with
   |nx a=>exact fun b hr1=>⟨e,a,m1,w,hr1,q⟩|rt d=>exact PQ.ok w q|bk a=>exact PQ.ok w q|ct a=>exact PQ.ok w q⟩
 ·cases f with
  |next=>
   obtain⟨c,H',n,q⟩:=q;exact k.out pins s1 c H' D W n q
  |ret v=>exact q|brk=>exact q|cont=>exact q⟩
structure YB(X:Cx)(cl:af->ac)(st:aq)(f:SV):Prop where
 out:∀(pins:List (ac×av))(s:ak)(σ : L2.St)(H:Hp)(D:Ends)(W:XD),Inv X pins σ H s->tDS X.K cl W f D σ H->wpAny (ao X.prog X.w) X.A (exec st X.env) (SP X pins D) (XP X cl pins σ W) s
theorem XP.up{v:ag}(h:XP X cl pins σ W v s):XPs X cl pins W v s:=⟨σ,h⟩
theorem ys_if(f:X.xe=fun _ _=>False){c:am}(j:QT X cl X0 c ta)(ha:YSs X cl sts fs)(k:YSs X cl sts' gs):YS X cl (.If c sts sts' pos) (sIf (tPu ta) fs gs):=⟨fun pins s σ H D W I g=>by
 refine wpAny_If (aA (j.out pins s σ H (fun b a=>tDS X.K cl W (if b=ae then fs else gs) D σ a) I ?_) (fun d s1 ⟨a,i,q⟩=>?_) fun _ _ z=>by rw[f]at z;exact z.elim)
 ·refine tDT.pu (W:=W) (ex3 g fun α ρ m n hr h=>tDT.use n hr h fun e m1 a d E w hr1 l=>⟨e,ρ,m1,w,hr1,?_⟩);cases d <;> exact l
 ·cases d with
  |true=>exact ha.out pins s1 σ a D W i q|false=>exact k.out pins s1 σ a D W i q⟩
theorem yb_ret(g:YE X cl e f):YB X cl (.Return (aa e) pos) (zaJ f):=⟨fun pins s σ H D W I c=>by
 refine wpAny_Return_some (aA (g.out pins s σ H D.rt W I (ex3 c fun α ρ m W hr h=>tD.use W hr h fun b m1 a d v E w hr1 r i=>PQ.ok w i v r)) (fun v s1 ⟨x,a,j,R,q⟩=>⟨x,σ,a,j,R,q⟩) fun _ _ z=>z)⟩
theorem zr9(g:YE X cl e f)(hs:autoParam (aQ e none pos.line X.env=pure ai) AutoP.a3._auto_1):YB X cl (.Expr e pos) (zcg f):=⟨fun pins s σ H D W I c=>by
 refine wpAny_Expr_any (aA (g.out pins s σ H (fun _ a=>D.nx σ a) W I (ex3 c fun α ρ m W hr h=>tD.use W hr h fun b m1 a d v E w hr1 r i=>PQ.ok w i _ hr1)) (fun v s1 ⟨x,a,j,R,q⟩=>⟨σ,a,j,q⟩) fun _ _ z=>z) I.quiet hs⟩
theorem yb_set{i:Nat}{p:ax}(l:X.N.Nodup)(hi:X.N[i]?=aa x)(c:Loc X.env.scope x)(k:YE X cl e f)(hs:autoParam (aQ e (aa (.Name x p)) pos.line X.env=pure ai) AutoP.a3._auto_1)(j:autoParam (X.fn x=ae∨X.env.scope.names.lookup x=aa .local) AutoP.a0._auto_1) :
  YB X cl (.Assign [.Name x p] e pos) (zaC f (gN i)):=⟨fun pins s σ H D W I g=>by
 refine wpAny_Assign_Name (aA (k.out pins s σ H (fun v a=>D.nx (σ.set i (aa v)) a) W I (ex3 g fun α ρ m W hr h=>tD.use W hr h fun b m1 a d v E w hr1 r n=>PQ.ok w n _ (hr1.set r))) (fun v s1 ⟨y,a,t,R,q⟩=>?_) fun _ _ z=>z) hs;exact zc0 t l hi c R (fun s2 o=>⟨_,a,o,q⟩) j⟩
end
theorem YB.ys{f:SV}(h:YB X cl st f):YS X cl st f:=⟨fun pins s σ H D W I q=>aA (h.out pins s σ H D W I q) (fun _ _ z=>z) fun _ _ z=>z.up⟩
def exE(K:ya)(cl:af->ac)(E:XK):XD:=fun c α' _ H'=>∀dd xs,yai K aF c.cls=aa (aa (.ref (cl c.cls)))->ztS H' dd xs->RepL K α' H' c.args xs->E (.ref (cl c.cls)) dd H'
def spX(K:ya)(cl:af->ac)(n:Nat)(g:List D->Sto->Res D):Sp:=fun vs H Q E=>vs.length=n/\∃α m ds,Wd K cl α m H/\RepL K α H ds vs/\PQ K cl (exE K cl E) (g ds m) α H fun d α' _ H'=>∀v,Rep K α' H' d v->Q v H'
variable{n:Nat}{N:List af}{body:SV}{vs:List V}{Q:VK}
theorem fn_x{E:XK}(h:spX K cl n (zaZ N.length body) vs H Q E):tDS K cl (exE K cl E) body { nx:=fun _ H'=>Q .non H',rt:=Q } (L2.start N vs) H:=by
 obtain⟨_,α,m,ds,W,r,q⟩:=h;refine⟨α,_,m,W,zg2 r,PQ.mono (Ext.refl W) q.bind fun f b m1 c e w a=>?_⟩;cases f with
 |nx ρ=>exact fun σ _=>PQ.ok w a _ (by rw[Rep])|rt d=>exact PQ.ok w a|bk ρ=>exact a.elim|ct ρ=>exact a.elim
variable{P:ar}{mg:af->Option ag}{base:au}{qual:af}{f:ac}{fd:aJ}{ps:List af}
theorem zrT{w:al}{k:Nat}(F:Fun K x qual st f fd)(S:FnScope N ps (zai st))(hn:n=ps.length)(h:∀(cdv:ag)(A:az)(outer:List yaJ)(s:ak)(H:Hp)(E:XK),Room k (A.deeper (aN qual (zai st) s.heap.objs.size f cdv))->YSs (zkN (CXx P w) P w K mg base N qual (zai st) f cdv A outer s H E).nox cl (zbs st) body):FnOk P w K mg base (CXx P w) (k+1) f fd ps (spX K cl n (zaZ N.length body)):=by
 obtain⟨oc,od,kV,doc,pm,an,cdv,ct,osl,rfl,L,j⟩:=F.ex;refine fn_of L j S (fun vs H Q E h=>by rw[<- hn];exact h.1) fun A outer s H vs Q E hr b=>?_;refine⟨fun D σ l=>tDS K cl (exE K cl E) body D σ l,fun pins s1 σ l D I t=>?_,fn_x b⟩;refine aA ((h cdv A outer s H E hr).out pins s1 σ l D (exE K cl E) (I.wish _) t) (fun _ _ q=>q.unwish) fun v s2 u=>?_;obtain⟨r,e,H',c,α',m',rfl,C,⟨dd,xs,g,F,a,d⟩,W,z⟩:=u;have B:=C.unwish;refine zoH B rfl rfl F fun J p y o i G=>?_;have m:=Ext.of_same W o;exact⟨e,_,dd,p,rfl,i.os,i.bare,i.base,i.hok,G,z α' p m (W.same o) dd xs g ((m.kp W).xdAt a) (d.mono W m)⟩
structure FnE(P:ar)(w:al)(K:ya)(mg:af->Option ag)(base:au)(cl:af->ac)(x:af)(k n:Nat)(g:List D->Sto->Res D):Prop where
 ex:∃(f:ac)(fd:aJ)(ps:List af),mg x=aa (.ref f)/\yaD K (.ref f)=ae/\Binds K fd ps []/\FnOk P w K mg base (CXx P w) k f fd ps (spX K cl n g)
theorem FnE.mk'{w:al}{k:Nat}(F:Fun K x qual st f fd)(b:Binds K fd ps [])(m:mg x=aa (.ref f))(S:FnScope N ps (zai st))(hn:n=ps.length)(h:∀(cdv:ag)(A:az)(outer:List yaJ)(s:ak)(H:Hp)(E:XK),Room k (A.deeper (aN qual (zai st) s.heap.objs.size f cdv))->YSs (zkN (CXx P w) P w K mg base N qual (zai st) f cdv A outer s H E).nox cl (zbs st) body):FnE P w K mg base cl x (k+1) n (zaZ N.length body) :=
 ⟨f,fd,ps,m,F.kp,b,zrT F S hn h⟩
section
variable{e:am}{fr:AV}{k:Nat}{g:List D->Sto->Res D}
theorem znF{us:List ag}{m:Sto}{ds:List D}(F:FnOk X.prog X.w X.K X.mg X.base (CXx X.prog X.w) k f fd ps (spX X.K cl n g))(hr:Room k X.A)(y:Binds X.K fd ps [])(I:Inv X pins σ H s)(r:Vals vs us)(hn:vs.length=n)(L:Wd X.K cl α m H)(rd:RepL X.K α H ds vs)(q:PQ X.K cl W (g ds m) α H fun d α' _ H'=>∀v,Rep X.K α' H' d v->Q v H'):wpAny (ao X.prog X.w) X.A (call (.ref f) us) (EP X pins σ Q) (XP X cl pins σ W) s:=by
 let E:XK:=fun C dd o=>∃c a m2 xs,C = .ref (cl c.cls)/\yai X.K aF c.cls=aa (aa (.ref (cl c.cls)))/\ztS o dd xs/\RepL X.K a o c.args xs/\Wd X.K cl a m2 o/\∀i l,Ext a o i l->Wd X.K cl i m2 l->W c i m2 l;have j:PQ X.K cl (exE X.K cl E) (g ds m) α H fun d α' _ H'=>∀v,Rep X.K α' H' d v->Q v H':=by
  cases p:g ds m with
  |ok d m1=>rw[p]at q;exact q|bad=>rw[p]at q;exact q|exc c m1=>
   rw[p]at q;exact fun a o N K dd xs x w t=>⟨c,a,m1,xs,rfl,x,w,t,K,fun i l M J=>q i l (N.trans M) J⟩
 have h:spX X.K cl n g vs H Q E:=⟨hn,α,m,ds,L,rd,j⟩;have hl:us.length=ps.length:=by rw[<- r.length];exact F.len _ _ _ _ h
 refine bX (bO (F.run X.A X.stack s H ⟨us,[]⟩ us vs Q E hr I.env0 (by have:=y s us I.kIn (by simpa using hl);simpa using this) r h) fun r s' j=>?_);cases r with
 |error v=>
  obtain⟨e,C,dd,H',rfl,os,bare,un,hok,F,c,a,m2,xs,rfl,x,w,t,B,A⟩:=j;exact⟨e,H',c,a,m2,rfl,I.call' (ch:=[]) os un hok bare (fun b z=>absurd z (by simp)),⟨dd,xs,x,F,w,t⟩,B,A⟩
 |ok G=>
  cases G with
  |ret u=>exact I.after j|next=>exact False.elim j|brk=>exact False.elim j|cont=>exact False.elim j
theorem ye_fn(u:X.xe=fun _ _=>False)(h:FnE X.prog X.w X.K X.mg X.base cl x k n g)(hn:n=(e::es).length)(hr:Room k X.A)(y:Gl X x)(ha:QA X cl X0 (e::es) fr)(b:∀ρ m ds m1,fr ρ m = .ok ds m1->ds.length=(e::es).length)(o:autoParam ((x==("__debug__" : af))=ai) AutoP.a1._auto_1)(A:autoParam (ap (e::es) X.env=(ai,eval e X.env)::ap es X.env) AutoP.a3._auto_1)(l:autoParam ((aC pos (ap es X.env)).any (·.1)=ai) AutoP.a3._auto_1) : YE X cl (.Call (.Name x p) (e::es) [] pos) (eFn g (aPu fr)):=by
 obtain⟨f,fd,ps,E,D,C,B⟩:=h.ex;refine⟨fun pins s σ H Q W I w=>?_⟩;refine bE (ze6 I y E ?_ o);refine ybr (h₀ := X.base) I.ok.mod.kin D (aA (ha.out pos pins s σ H (fun vs j=>∃a m1 ds,Wd X.K cl a m1 j/\RepL X.K a j ds vs/\ds.length=n/\PQ X.K cl W (g ds m1) a j fun d α' _ H'=>∀v,Rep X.K α' H' d v->Q v H') I ?_) (fun us s1 ⟨vs,j,t,r,a,m1,ds,w1,rd,hl,q⟩=>⟨t.kIn,?_⟩) fun _ _ z=>by rw[u]at z;exact z.elim) A l
 ·refine ex3 w fun α ρ m G hr h=>?_;cases i:fr ρ m with
  |bad=>
   have h':PQ X.K cl W ((aPu fr ρ m).bind g) α H _:=h;unfold aPu at h';rw[i]at h';exact h'.elim
  |exc c m1=>
   have h':PQ X.K cl W ((aPu fr ρ m).bind g) α H _:=h;unfold aPu at h';rw[i]at h';exact h'.elim
  |ok ds m1=>
   have h':PQ X.K cl W ((aPu fr ρ m).bind g) α H _:=h;unfold aPu at h';rw[i]at h';refine tDA.at G hr i fun a j v J F hr1 R=>⟨a,m1,ds,F,R,by rw[b ρ m ds m1 i,hn],PQ.mono J h' fun _ _ _ _ _ _ z=>z⟩
 ·exact znF B hr C t r (by rw[<- rd.length];exact hl) w1 rd q
end
end MD
namespace L2
open PySem PySem.Spec PyProof.Rows MD
variable{M:Model}{A:az}{s:ak}{E:ag->ak->Prop}
theorem Looks.go{α : Type}{t:Sem α}{r:α}{Q:α -> ak->Prop}(h:PySem.W.Looks M s.heap t r)(q:Q r s):wpAny M A t Q E s:=h A Q E s (fun _ _ z=>z) q
theorem ztA:builtinKind "BaseException.__getattribute__" = aa .slot:=by kernel_rfl
theorem zrc:splitId "BaseException.__getattribute__" = aa ("BaseException", "__getattribute__"):=by kernel_rfl
theorem ztC(a b:ag):argsOk "BaseException.__getattribute__" { pos:=[a,b] }:=by kernel_rfl
theorem zrd:entryFor table "BaseException.__getattribute__" = aa aK.«object.__getattribute__» := by kernel_rfl
structure ExA(K:ya)(C:ac):Prop where
 ga:yU K (.ref C) "__getattribute__" = aa (aa (.builtin "BaseException.__getattribute__"))
 no:yU K (.ref C) "__getattr__" = aa none
 sub:ybd K (.ref C) (.type "BaseException")=aa ae
 obj:ybq K C (.type "object")=aa ae
 cls:∀od,ydT K C od "__class__" = aa (.bind (.builtin "getset_descriptor.__get__") (.builtin "object.__class__"))
variable{prog:ar}{K:ya}{C:ac}{oe:av}{od:Option av}{tk:Tok}
theorem ga_run{w:al}{e:ac}{Q:PySem.Fin->ak->Prop}(kin:K.In s.heap)(F:ExA K C)(hi:yba s.heap e oe C od)(q:Q (.done (.ret (.ref C))) s):wpAny (ao prog w) A (aK.«object.__getattribute__» { pos:=[.ref e,.str "__class__" tk] }) Q E s:=by
 unfold aK.«object.__getattribute__»;refine aj (aw ?_);refine aj (aw ?_);refine aj (cc hi.at_ ?_);rw[hi.cls];refine aj (Looks.go (PySem.W.looks_find (h:=s.heap) kin hi (F.cls od)) ?_);show wpAny (ao prog w) A (holding [_] (call _ [_,_,_]) >>= _) _ _ _;exact aj (ci (bX (PySem.W.class_get kin hi F.obj (aw q))))
theorem ztB{w:al}{R:bB->ak->Prop}{e:ac}(kin:K.In s.heap)(F:ExA K C)(hi:yba s.heap e oe C od)(q:R (.ok (.ret (.ref C))) s):codeAny (ao prog w) A (Code.call (.builtin "BaseException.__getattribute__") { pos:=[.ref e,.str "__class__" tk] }) R s:=by
 have ha:=ztC (.ref e) (.str "__class__" tk);refine codeAny_call_builtin ydU.toExcAttrFacts.ga.plain zrd ?_;refine PySem.W.check_slot (i := "BaseException.__getattribute__") (owner := "BaseException") (n := "__getattribute__") (self := .ref e) (rest:=[.str "__class__" tk]) (kw:=[]) ztA zrc ?_ ha ?_
 ·refine fun A Q E s1 hs q=>?_;unfold isInstance;refine aj (cc (hs _ _ hi.at_) ?_);rw[hi.cls];exact yc8 kin F.sub A Q E s1 hs q
 ·exact ga_run kin F hi q
theorem zpf{w:al}{e:ac}{Q:Option ag->ak->Prop}(kin:K.In s.heap)(F:ExA K C)(hi:yba s.heap e oe C od)(q:Q (aa (.ref C)) { s with toks:=s.toks+1 }):wpAny (ao prog w) A (getAttr? (.ref e) "__class__") Q E s:=by
 have H:=hi.at_;have a:=hi.cls;unfold getAttr?;refine aj (wpAny_mkText ?_);unfold getAttrBy?;refine aj (bR ?_);unfold getAttrBy;refine ci ?_;refine aj (cc (s:={ s with toks:=s.toks+1 }) H ?_);rw[a];refine aj (Looks.go (ydj (h:=s.heap) kin F.ga) ?_);show wpAny (ao prog w) A (getAttrByItsOwn _ _ _ _ _ _) _ _ _;unfold getAttrByItsOwn;refine aj (Looks.go (PySem.W.looks_hook (h:=s.heap) kin (r:=none) F.no) ?_);refine aj (bR (ci ?_));show wpAny (ao prog w) A (boundAndCalled _ _ _) _ _ _;unfold boundAndCalled;rw[ydU.toExcAttrFacts.ga.bind];refine aj (aw ?_);refine bX (pos:=[.ref e,.str "__class__" s.toks]) (ztB (s:={ s with toks:=s.toks+1 }) kin F hi ?_);show wpAny (ao prog w) A (handedOut (.ref C)) _ _ _;exact aw (aw q)
abbrev Cx.marked(X:Cx)(e:ac):Cx:={ X with A:=X.A.mark (aa (.ref e)),calm:=ai }
variable{Q:Unit->ak->Prop}
section
variable{X:Cx}{pins:List (ac×av)}{σ : St}{H:Hp}{C:ag}{dd:Option ac}{e:ac}
theorem Inv.mark(I:Inv X pins σ H s)(e:ac):Inv (X.marked e) pins σ H s :=
 ⟨⟨I.ok.mod,I.ok.kind,I.ok.glob,I.ok.blt,I.ok.above,I.ok.inj,I.ok.has,I.ok.cab,(fun z=>nomatch z),I.ok.frames,I.ok.stk,I.ok.exf,I.ok.bs,I.ok.bsz,I.ok.noex,I.ok.exfs,I.ok.funs,I.ok.frf⟩,I.os,I.bare,I.base,I.loc,I.cell,I.free,I.freeC,I.pin,I.hok,I.len⟩
theorem Inv.unmark(I:Inv (X.marked e) pins σ H s)(h:X.calm=ae->X.A.handled=none):Inv X pins σ H s :=
 ⟨⟨I.ok.mod,I.ok.kind,I.ok.glob,I.ok.blt,I.ok.above,I.ok.inj,I.ok.has,I.ok.cab,h,I.ok.frames,I.ok.stk,I.ok.exf,I.ok.bs,I.ok.bsz,I.ok.noex,I.ok.exfs,I.ok.funs,I.ok.frf⟩,I.os,I.bare,I.base,I.loc,I.cell,I.free,I.freeC,I.pin,I.hok,I.len⟩
theorem zmS(I:Inv X pins σ H s)(F:Fly C dd e H s.heap)(h:∀s',s'.os=s.os->Inv X pins σ H s'->Q () s'):wpAny M A (bM (.ref e) none) Q E s :=
 zgB I F fun s' a b _=>h s' a b
theorem znf{i:Nat}{x:af}{v:V}(I:Inv X pins σ H s)(R:X.N.Nodup)(hi:X.N[i]?=aa x)(C:X.env.scope.names.lookup x=aa .local)(K:σ[i]?=aa (aa v))(h:∀s',Inv X pins (σ.set i none) H s'->Q () s'):wpAny M A (unbindName X.env x) Q E s:=by
 obtain⟨m,hn,hl⟩:=id I.loc;have l:(X.env.scope.kind == .class||(X.env.scope.kind == .module&&X.env.locals != X.env.globals))=ai:=by rw[I.ok.kind];rfl
 have g : i < σ.length:=by rw[I.len];exact(yc.mp hi).1
 have cne:=I.cne;obtain⟨U,_,L⟩:=hl i x v hi K (.inl C);have hm:m x=aa U:=by
  rcases L with⟨_,z⟩|⟨z,_⟩
  ·exact z
  ·have Z:X.env.scope.names.lookup x=aa .cell∨X.env.scope.names.lookup x=aa .free:=z;rw[C]at Z;rcases Z with z|z <;> cases z
 refine wpAny_unbindName_local C hn hm l fun h' u B hs=>?_;obtain⟨T,_,_,P,_⟩:=id hn;have t:HOk X.prog X.w H h':=fun b ob e=>by
  refine(I.hok b ob e).stay (fun c W r q=>(hs.2 c ?_).trans q) (fun _ q=>q) fun _ _ q=>q;rintro rfl;rcases r with rfl|r
  ·rw[I.free]at e;cases e
  ·rw[I.free]at r;cases r
 refine h _ ⟨I.ok,I.os,I.bare,⟨fun b o e n F f=>?_,fun b o e n F f=>?_,I.base.free,fun b o e f=>?_,I.base.tups,I.base.frzs,I.base.tbls⟩,⟨_,B,fun j y G a w S=>?_⟩,fun y c e=>?_,I.free,I.freeC,fun p O=>?_,t,by simpa using I.len⟩
 ·exact(hs.2 b (yB (yF (yg e) I.ok.above))).trans (I.base.keep b o e n F f)
 ·obtain⟨sl,a⟩:=I.base.slot b o e n F f;exact⟨sl,(hs.2 b (yB (yF (yg e) I.ok.above))).trans a⟩
 ·obtain⟨o',a⟩:=I.base.there b o e f;exact⟨o',(hs.2 b (yB (yF (yg e) I.ok.above))).trans a⟩
 ·by_cases D:j=i
  ·subst D;rw[yaB g]at w;cases w
  ·rw[yan (Ne.symm D)]at w;obtain⟨J,r',q⟩:=hl j y G a w S;refine⟨J,r',?_⟩;rcases q with⟨k,e⟩|⟨k,c,e,z⟩
   ·refine .inl ⟨k,?_⟩;have:y≠x:=fun e=>D (zh4 R a (e ▸ hi));simp[this,e]
   ·exact .inr ⟨k,c,e,z.sameBut hs (cne y c e)⟩
 ·obtain⟨W,z⟩:=I.cell y c e;exact⟨W,z.sameBut hs (cne y c e)⟩
 ·obtain⟨e,n,ne,N,d⟩:=I.pin p O;exact⟨(hs.2 p.1 ne).trans e,n,ne,N,d⟩
end
theorem zkC{e D:ac}{b:Bool}{Q:Bool->ak->Prop}(kin:K.In s.heap)(i:s.heap.get? e=aa oe)(j:oe.cls = .ref C)(m:ybd K (.ref D) (.type "BaseException")=aa ae)(l:ycq K (.ref D)=aa (.type "type"))(g:(ya0 K D).isSome=ae)(k:ybd K (.ref C) (.ref D)=aa b)(q:Q b s):wpAny M A (excMatches (.ref e) (.ref D)) Q E s:=by
 have f:∃o a,s.heap.get? D=aa o/\o.data = .cls a:=by
  unfold ya0 at g;split at g
  ·rename_i c d a sl hl;exact⟨_,a,kin _ _ hl,rfl⟩
  ·cases g
 obtain⟨O,a,f,H⟩:=f;unfold excMatches;refine aj ?_;unfold isInstance;refine aj (Looks.go (PySem.W.looks_typeIn (h:=s.heap) kin l) ?_);rw[show isSubtype (.type "type") (.type "tuple")=pure ai from rfl];refine aw (aj (aw ?_));show wpAny M A (forIn [yn D] PUnit.unit _ >>= _) Q E s;rw[yaI];refine aj (aj (aj ?_));unfold isExcClass isType loadHead;refine aj (aj (cx f ?_));rw[H];refine aw ?_;refine Looks.go (yc8 (h:=s.heap) kin m) ?_;refine aw ?_;show wpAny M A (forIn ([]:List ag) PUnit.unit _) _ E s;rw[ybX];refine aw (aj (cc i ?_));rw[j,yaI];refine aj (aj (aj (Looks.go (yc8 (h:=s.heap) kin k) ?_)));cases b with
 |true=>exact aw (aw (aw q))|false=>
  refine aw ?_;show wpAny M A (forIn ([]:List ag) (none,()) _) _ E s;rw[ybX];exact aw (aw q)
end L2
namespace MD
open PySem PySem.Spec PyProof.Rows L2
structure TxE(K:ya)(cl:af->ac)(es rs:List af):Prop where
 ns:∀c∈es,yai K aF c=aa (aa (.ref (cl c)))
 tab:zrW K es=ae
 rai:zrX K rs=ae
 sub:∀c∈rs,c∈es
variable{K:ya}{cl:af->ac}{es:List af}{c:af}{C:ac}
section
variable{rs:List af}{d:af}
theorem TxE.row(T:TxE K cl es rs)(H:c∈es):ztO K (cl c)=ae/\yau K (.ref (cl c)) (.type "ValueError")=aa ae/\yau K (.type "NoneType") (.ref (cl c))=aa ai/\∀d∈es,yau K (.ref (cl c)) (.ref (cl d))=aa (isX c d)/\ybd K (.ref (cl c)) (.ref (cl d))=aa (isX c d):=by
 have h:=ya1.mp T.tab c H;rw[T.ns c H]at h;simp only[yL,beq_iff_eq]at h;obtain⟨⟨⟨f,e⟩,b⟩,a⟩:=h;refine⟨f,e,b,fun d hd=>?_⟩;have h:=ya1.mp a d hd;rw[T.ns d hd]at h;simpa only[yL,beq_iff_eq] using h
theorem zrq(h:ztO K C=ae):ExA K C:=by
 unfold ztO at h;simp only[yL,beq_iff_eq]at h;obtain⟨⟨⟨⟨⟨⟨⟨⟨i,g⟩,f⟩,e⟩,d⟩,c⟩,b⟩,a⟩,j⟩:=h;refine⟨i,g,f,e,fun od=>?_⟩;obtain⟨k,H⟩:=ycw.mp d;unfold ydT;rw[H,yaa,c,yaa];simp only[b,yaa,a]
theorem TxE.exa(T:TxE K cl es rs)(h:c∈es):ExA K (cl c):=zrq (T.row h).1
theorem zpe{h:au}{b:List ag}{a:String}(kin:K.In h)(x:ybw K C b a=ae):∃nm q N bs bm hdct sn sub ab col dd k0 k1 k2 k3 k5,∃mN:af->Option ag, h.get? C=aa (excClassObj nm q C N bs bm hdct sn sub ab col dd k0 k1 k2 k3 k5 a)/\h.Ns N mN/\mN "__init__" = none/\OwnTail h b bm:=by
 unfold ybw at x;split at x
 ·rename_i dd i sl hl;split at x
  ·rename_i j bm k0 k1 k2 k3 n k5 hm hs;simp only[yL,beq_iff_eq,Bool.not_eq_true']at x;obtain⟨⟨⟨⟨⟨g,f⟩,c⟩,d⟩,e⟩,E⟩:=x;subst g f;have H:=kin _ _ hl;obtain⟨nm,bs,m,N,q,hd,sn,sub,ab,col,D⟩:=i;obtain⟨sl⟩:=sl;simp only at hm hs c e E;subst hm hs c;exact⟨nm,q,N,bs,bm,hd,sn,sub,ab,col,dd,k0,k1,k2,k3,k5,h.nsMap N,H,Heap.Ns.of_isNs (PySem.W.isNs_of_in kin e),PySem.W.nsMap_none_of_in kin e E,PySem.W.tail_of_in kin d⟩
  ·cases x
 ·cases x
theorem TxE.exc(T:TxE K cl es rs)(H:c∈rs):ybw K (cl c) bmV "ValueError.__new__" = ae:=by
 have h:=ya1.mp T.rai c H;rw[T.ns c (T.sub c H)]at h;exact h
end
def zqn(c:af)(fr:AV):SV:=fun ρ m=>(fr ρ m).bind fun _ m1=>.exc ⟨c,[]⟩ m1
variable{X:Cx}{as:List am}{np pos:ax}{x:af}
section
variable{rs:List af}{e:am}{fr:AV}{cpos:ax}
theorem zk2(J:X.xe=fun _ _=>False)(M:X.calm=ae)(T:TxE X.K cl es rs)(hr:x∈rs)(L:Gl X x)(ha:QA X cl X0 (e::as) fr)(g:∀ρ m ds m1,fr ρ m = .ok ds m1->ds.length=(e::as).length)(hsz:autoParam ((e::as).length<=sizeLine) AutoP.a1._auto_1)(t:autoParam ((x==("__debug__" : af))=ai) AutoP.a1._auto_1)
  (p:autoParam (ap (e::as) X.env=(ai,eval e X.env)::ap as X.env) AutoP.a3._auto_1) (n:autoParam ((aC cpos (ap as X.env)).any (·.1)=ai) AutoP.a3._auto_1):YB X cl (.Raise (aa (.Call (.Name x np) (e::as) [] cpos)) none pos) (zqn x (aPu fr)):=⟨fun pins s σ H D W I K=>by
 have hm:X.mg x=aa (.ref (cl x)):=ybB I.mod.kin I.mod.glob (T.ns x (T.sub x hr));obtain⟨nm,q,N,bs,bm,hdct,sn,sub,ab,col,dd,k0,k1,k2,k3,k5,mN,G,Q,P,O⟩:=zpe I.mod.kin (T.exc hr);have u:bm.contains (.type "BaseException")=ae:=by
  have:=(T.exa (T.sub x hr)).sub;have hl:∃o,X.K.lookup (cl x)=aa o/\o=(excClassObj nm q (cl x) N bs bm hdct sn sub ab col dd k0 k1 k2 k3 k5 "ValueError.__new__"):=by
   have:=T.exc hr;unfold ybw at this;split at this
   ·rename_i z;have Z:=I.mod.kin _ _ z;rw[G]at Z;exact⟨_,z,(yP Z).symm⟩
   ·cases this
  obtain⟨o,hl,rfl⟩:=hl;have U:ya0 X.K (cl x)=aa { name:=nm,bases:=bs,mro:=yn (cl x)::bm,ns:=N,qualname:=q,hasDict:=hdct,slotNames:=sn,subclasses:=sub,abstract:=ab,collection:=col }:=by
   unfold ya0;rw[hl]
  have E:ybq X.K (cl x) (.type "BaseException")=aa ae:=this;unfold ybq at E;rw[U,yaa]at E;simpa using E
 refine wpAny_Raise_call_subT (nm:=nm) (q:=q) (C:=cl x) (N:=N) (bs:=bs) (hdct:=hdct) (sn:=sn) (sub:=sub) (ab:=ab) (col:=col) (dd:=dd) (k0:=k0) (k1:=k1) (k2:=k2) (k3:=k3) (k5:=k5) PySem.F.excBase_ValueError u (I.ok.hd M) (by rw[p];exact n) P (ze6 I L hm ?_ t);refine⟨rfl,?_⟩;rw[p];refine PySem.Calls.evalArgs_plain ?_;have j:=ha.out cpos pins s σ H (fun vs k=>∃b m1,Wd X.K cl b m1 k/\vs.length=(e::as).length/\PQ X.K cl W (.exc ⟨x,[]⟩ m1:Res Fl) b k fun F α' _ H'=>zdK X.K D F α' H') I (ex3 K fun α ρ m V hr h=>by
  have h':PQ X.K cl W ((aPu fr ρ m).bind fun _ m1=>(.exc ⟨x,[]⟩ m1:Res Fl)) α H fun F α' _ H'=>zdK X.K D F α' H':=h;unfold aPu at h';cases i:fr ρ m with
  |bad=>rw[i]at h';exact h'.elim|exc c m1=>rw[i]at h';exact h'.elim|ok ds m1=>
   rw[i]at h';exact tDA.at V hr i fun b k v E1 w hr1 R=>⟨b,m1,w,by rw[<- R.length,g ρ m ds m1 i],fun d A B y=>h' d A (E1.trans B) y⟩)
 rw[p]at j;refine aA j (fun us s1 ⟨vs,k,l,r,b,m1,w,hl,q⟩=>⟨rfl,by rw[<- r.length,hl];exact hsz,l.bk _ _ G,Q.keeps l.bk,O.keeps l.bk,fun h' a f=>?_⟩) fun _ _ z=>by rw[J]at z;exact z.elim
 obtain⟨hn,Y,F2⟩:=zqU l f;have S:Same k _:=Same.new (o := .ext (zr7 (.ref (cl x)) none a)) hn;have Es:=Ext.of_same w S;exact⟨a,_,⟨x,[]⟩,b,m1,rfl,Y,⟨none,[],T.ns x (T.sub x hr),F2,.inl ⟨rfl,rfl⟩,by rw[RepL]⟩,w.same S,fun d A B y=>q d A (Es.trans B) y⟩⟩
end
def ztD(i:Nat)(f:Fl):Fl:=match f with
 |.nx ρ=>.nx (ρ.set i none)|.rt d=>.rt d|.bk ρ=>.bk (ρ.set i none)|.ct ρ=>.ct (ρ.set i none)
def zpW(es:List af)(h:af)(F:SV)(i:Nat)(fs:SV):SV:=fun ρ m=>match F ρ m with
 |.ok f m1=>.ok f m1|.bad=>.bad|.exc c m1=>if (es.contains c.cls&&isX c.cls h)=ae then (fs (ρ.set i (aa (.exn c.cls c.args))) m1).bind fun f m2=>.ok (ztD i f) m2 else .bad
variable{α : List ac}{H:Hp}{σ : L2.St}{i:Nat}
theorem RepE.drop{ρ : En}(h:RepE K α H ρ σ):RepE K α H (ρ.set i none) (σ.set i none):=by
 refine⟨by rw[yak,yak,h.len],fun j e a=>?_⟩;by_cases b:i=j
 ·subst b;have hl:i < ρ.length:=by
   have:=(yc.mp a).1
   rwa [yak]at this
  rw[yaB hl]at a;cases a
 ·rw[yan b]at a ⊢;exact h.at' j e a
section
variable{rs:List af}{h n:af}{bst b0:aq}{suite:List aq}{fb fs:SV}{hp:ax}
theorem qs_try(hx:X.xe=fun _ _=>False)(hk:X.stack=X.env::X.outer)(T:TxE X.K cl es rs)(hh:h∈es)(hg:Gl X h)(hN:X.N.Nodup)(hi:X.N[i]?=aa n)(hl:X.env.scope.names.lookup n=aa .local)(hb:YB X cl bst fb)(hs:∀e,QSs (X.marked e) cl X0 (b0::suite) fs)(hdb:autoParam ((h==("__debug__" : af))=ai) AutoP.a1._auto_1) :
  QS X cl X0 (.Try [bst] [.ExceptHandler (aa (.Name h np)) (aa n) (b0::suite) hp] [] [] pos) (zpW es h fb i fs):=⟨fun pins s σ H D I hh0=>by
 rw[hx]
 obtain⟨α,ρ,m,W0,hr,l⟩:=hh0
 refine wpAny_Try_except ?_
 unfold zpW at l
 have L:∀W:XD,tDS X.K cl W fb D σ H->(∀v s',XP X cl pins σ W v s'->wpAny (ao X.prog X.w) X.A (aS v X.env) (fun _ k=>wpAny (ao X.prog X.w) X.A (bM v none) (fun _ j=>wpAny (ao X.prog X.w) X.A (handleBy v X.env [.ExceptHandler (aa (.Name h np)) (aa n) (b0::suite) hp]) (SP X pins D) (fun _ _=>False) j) (fun _ _=>False) k) (fun _ _=>False) s') →
   wpAny (ao X.prog X.w) X.A (execs [bst] X.env) (fun f S=>match f with
    |.next=>wpAny (ao X.prog X.w) X.A (execs [] X.env) (SP X pins D) (fun _ _=>False) S
    |f=>SP X pins D f S) (fun e S=>wpAny (ao X.prog X.w) X.A (aS e X.env) (fun _ k=>wpAny (ao X.prog X.w) X.A (bM e none) (fun _ j=>wpAny (ao X.prog X.w) X.A (handleBy e X.env [.ExceptHandler (aa (.Name h np)) (aa n) (b0::suite) hp]) (SP X pins D) (fun _ _=>False) j) (fun _ _=>False) k) (fun _ _=>False) S) s:=fun W hW V=>by
  refine bT (aA (hb.out pins s σ H D W I hW) (fun f s1 q=>?_) V)
  cases f with
  |next=>exact bj (bj q)
  |ret v=>exact q
  |brk=>exact q
  |cont=>exact q
 cases K:fb ρ m with
 |bad=>rw[K]at l;exact l.elim
 |ok y m1=>
  rw[K]at l
  refine L (fun _ _ _ _=>False) ⟨α,ρ,m,W0,hr,by rw[K];exact l⟩ fun v s' ⟨e,H',c,α',m',_,_,_,w,z⟩=>(z α' H' (Ext.refl w) w).elim
 |exc c m1=>
  rw[K]at l
  have l:PQ X.K cl X0 (if (es.contains c.cls&&isX c.cls h)=ae then (fs (ρ.set i (aa (.exn c.cls c.args))) m1).bind fun y m2=>.ok (ztD i y) m2 else .bad) α H fun y α' _ H'=>zdK X.K D y α' H':=l
  obtain⟨x,l⟩:=PQ.if l
  rw[yL,ybh]at x
  have hX:=x.2
  refine L (fun C G m2 A=>C=c/\m2=m1/\Ext α H G A) ⟨α,ρ,m,W0,hr,by rw[K];exact fun G A E2 _=>⟨rfl,rfl,E2⟩⟩ fun v s' ⟨e,H',C,α',m',hv,I1,⟨dd,xs,hns,F,Y,Z⟩,w,z⟩=>?_
  obtain⟨rfl,rfl,E1⟩:=z α' H' (Ext.refl w) w
  subst hv
  refine zja I1 hk rfl F fun s2 A hos sm I2 F2=>?_
  have Es:=Ext.of_same w sm
  have w2:=w.same sm
  have hce:C.cls∈es:=x.1
  obtain⟨oe,vs,ho,hoc,_⟩:=F2.lies
  have Tr:=T.row hh
  have ask:=Tr.1
  unfold ztO at ask
  simp only[yL,beq_iff_eq]at ask
  refine wpAny_handleBy_cons ?_ (fun z=>nomatch z)
  refine codeAny_handlers_test ?_
  have hm:X.mg h=aa (.ref (cl h)):=ybB I.mod.kin I.mod.glob (T.ns h hh)
  refine ze6 (X:=X.marked e) (I2.mark e) hg hm ?_ hdb
  refine zkC I2.kIn ho hoc ask.1.1.1.1.1.1.2 ask.2 ask.1.1.1.1.2 ((T.row hce).2.2.2 h hh).2 ?_
  rw[hX]
  refine codeAny_handlers_suite_as ?_
  refine zmS (I2.mark e) F2 fun s3 _ I3=>?_
  refine zc0 (X:=X.marked e) (v := .ref e) I3 hN hi (.inl hl) rfl (fun s4 I4=>?_) (.inr hl)
  have O:Ext α H α' A:=E1.trans Es
  have re:Rep X.K α' A (.exn C.cls C.args) (.ref e):=by
   rw[Rep]
   exact⟨e,cl C.cls,dd,xs,rfl,hns,F2.te,(Es.kp w).xdAt Y,Z.mono w Es⟩
  have hr2:=(hr.mono W0 O).set (i:=i) re
  have J:=(hs e).out pins s4 (σ.set i (aa (.ref e))) A { nx:=fun g N=>D.nx (g.set i none) N,rt:=D.rt,bk:=fun g N=>D.bk (g.set i none) N,ct:=fun g N=>D.ct (g.set i none) N } I4 ⟨α',_,_,w2,hr2,PQ.mono O l.bind fun y α3 m3 H3 E3 W3 q=>by
   have P:=PQ.ok W3 q
   cases y with
   |nx E=>exact fun B R=>P _ R.drop
   |rt d=>exact P
   |bk E=>exact fun B R=>P _ R.drop
   |ct E=>exact fun B R=>P _ R.drop⟩
  refine aA J (fun f U q=>?_) fun _ _ z=>by rw[show (X.marked e).xe=X.xe from rfl,hx]at z;exact z.elim
  have free:∀{a:L2.St}{b:Hp}{Q:Unit->ak->Prop},Inv (X.marked e) pins a b U->(∀r,Inv X pins (a.set i none) b r->Q () r)->wpAny (ao X.prog X.w) X.A (do
    bU X.env n yab
    unbindBehindTheSuite X.env n hp) Q (fun _ _=>False) U:=fun {a b Q} p hQ=>by
   have M:Inv X pins a b U:=p.unmark I.ok.hd
   refine aj (cv (zc0 (v := .non) M hN hi (.inl hl) rfl (fun r o=>?_) (.inr hl)))
   unfold unbindBehindTheSuite
   refine bu (znf o hN hi hl (v := .non) ?_ fun s7 I7=>hQ s7 (by rw[List.set_set]at I7;exact I7))
   rw[yaB]
   rw[M.len]
   exact(yc.mp hi).1
  cases f with
  |next=>obtain⟨a,b,p,t⟩:=q;exact free p fun r o=>⟨_,b,o,t⟩
  |brk=>obtain⟨a,b,p,t⟩:=q;exact free p fun r o=>⟨_,b,o,t⟩
  |cont=>obtain⟨a,b,p,t⟩:=q;exact free p fun r o=>⟨_,b,o,t⟩
  |ret u=>obtain⟨v5,a,b,p,r5,t⟩:=q;exact free p fun r o=>⟨v5,_,b,o,r5,t⟩⟩
end
theorem zlr{e:ac}(F:ExA K C)(b:(ya0 K C).isSome=ae):PySem.W.KitX K (.ref e) (.ref C) fun h=>∃oe od,yba h e oe C od:=by
 have f:∀h:au,K.In h->∃o a,h.get? C=aa o/\o.data = .cls a:=fun h kin=>by
  unfold ya0 at b;split at b
  ·rename_i c d a sl hl;exact⟨_,a,kin _ _ hl,rfl⟩
  ·cases b
 refine⟨fun M h kin ⟨oe,od,hi⟩ A Q E s hs q=>cc (hs _ _ hi.at_) (by rw[hi.cls];exact q),fun M h kin _ A Q E s hs q=>?_,fun h t dd its n sl kin g=>?_,fun {prog w A E Q s} kin ⟨oe,od,hi⟩ q=>zpf kin F hi q⟩
 ·obtain⟨o,a,H,hd⟩:=f h kin;unfold isType loadHead;refine aj (cx (hs _ _ H) (aw ?_));rw[hd];exact q
 ·obtain⟨o,a,H,hd⟩:=f h kin;rw[beq_eq_false_iff_ne];intro z;cases z;rw[g]at H;cases H;cases hd
variable{ex:XD}{ds:List D}{v:V}{u:ag}
section
variable{rs:List af}{pins:List (ac×av)}{s:ak}
theorem zrV(T:TxE X.K cl es rs)(I:Inv X pins σ H s)(l:c∈es)(r:Rep X.K α H (.exn c ds) v)(R:RelV v u):∃e,u = .ref e/\∃oe od,yba s.heap e oe (cl c) od:=by
 rw[Rep]at r;obtain⟨a,C,dd,xs,rfl,h,m,b,_⟩:=r;rw[T.ns c l]at h;cases h;cases R;obtain⟨⟨o,vs,f,j,i,g⟩,_⟩:=I.hok a _ m;rcases b with⟨rfl,_⟩|⟨dx,x,rfl,_,k⟩
 ·exact⟨a,rfl,o,none,f,j,by unfold ydV;rw[g],by rw[i];trivial⟩
 ·obtain⟨od,d⟩:=(I.hok dx _ k).has;exact⟨a,rfl,o,aa od,f,j,by unfold ydV;rw[g],by rw[i];exact d⟩
theorem zoT(T:TxE X.K cl es rs)(I:Inv X pins σ H s){C:ag}{b:Bool}{Q:VK}(h:c∈es)(r:Rep X.K α H (.exn c ds) v)(R:RelV v u)(k:yau X.K (.ref (cl c)) C=aa b)(q:Q (.bl b) H):wpAny (ao X.prog X.w) X.A (call (.builtin "isinstance") [u,C]) (EP X pins σ Q) X.xe s:=by
 obtain⟨e,rfl,o,od,hi⟩:=zrV T I h r R;have ask:=(T.row h).1;unfold ztO at ask;simp only[yL,beq_iff_eq]at ask;exact yae (zlr (T.exa h) ask.1.1.1.1.2) I.kIn ⟨o,od,hi⟩ k (fun z=>nomatch z) fun t=>⟨.bl _,H,I.tok _,rfl,q⟩
theorem zia{K:ya}{t:ag}{f:af->Bool}:∀{ns:List af},(∀n∈ns,yau K t (.ref (cl n))=aa (f n))->PySem.W.kitAny K t (ns.map fun n=>.ref (cl n))=aa (ns.any f)
 |[],_=>by rw[yaZ,ydW];rfl|n::r,h=>by
  rw[yy,ydW];simp only[h n (yaN ..)];cases H:f n with
  |true=>simp[H]|false=>
   simp only[yaH,H,ybW];exact zia fun n hn=>h n (yY _ hn)
def isiX(es:List af)(n:af)(d:D)(m:Sto):Res D:=match d with
 |.exn c _=>if es.contains c=ae then .ok (.bl (isX c n)) m else .bad|.non=>.ok (.bl ai) m|_=>.bad
def isiV(es:List af)(d:D)(m:Sto):Res D:=match d with
 |.exn c _=>if es.contains c=ae then .ok (.bl ae) m else .bad|.non=>.ok (.bl ai) m|_=>.bad
def isiT(es ns:List af)(d:D)(m:Sto):Res D:=match d with
 |.exn c _=>if es.contains c=ae then .ok (.bl (ns.any (isX c))) m else .bad|.non=>.ok (.bl ai) m|_=>.bad
variable{e:am}{fa:EV}{p p2 tp:ax}{kt:Nat}{vs:List V}{ns:List af}
theorem zpF(T:TxE X.K cl es rs)(hn:x∈es):CallR X (.builtin "isinstance") (fun xs H Q=>∃α m d v,xs=[v,.ref (cl x)]/\Wd X.K cl α m H/\Rep X.K α H d v/\∃b,isiX es x d m = .ok (.bl b) m/\Q (.bl b) H):=by
 intro pins s σ H xs us Q I r h;obtain⟨α,m,d,v,rfl,W,c,b,a,q⟩:=h;obtain⟨u,w,rfl,e,R⟩:=zhB r;cases R;unfold isiX at a;split at a
 ·split at a
  ·rename_i f;cases a;exact zoT T I (ybh.mp f) c e ((T.row (ybh.mp f)).2.2.2 x hn).1 q
  ·cases a
 ·cases a;rw[Rep]at c;subst c;exact zgj I e .non (T.row hn).2.2.1 fun t=>⟨.bl _,H,I.tok _,rfl,q⟩
 ·cases a
theorem zpG(T:TxE X.K cl es rs):CallR X (.builtin "isinstance") (fun xs H Q=>∃α m d v,xs=[v,.ty "ValueError"]/\Wd X.K cl α m H/\Rep X.K α H d v/\∃b,isiV es d m = .ok (.bl b) m/\Q (.bl b) H):=by
 intro pins s σ H xs us Q I r h;obtain⟨α,m,d,v,rfl,W,c,b,a,q⟩:=h;obtain⟨u,w,rfl,e,R⟩:=zhB r;cases R;unfold isiV at a;split at a
 ·split at a
  ·rename_i f;cases a;exact zoT T I (ybh.mp f) c e (T.row (ybh.mp f)).2.1 q
  ·cases a
 ·cases a;rw[Rep]at c;subst c;exact zgj I e .non rfl fun t=>⟨.bl _,H,I.tok _,rfl,q⟩
 ·cases a
theorem zk5{f:af->ac}:∀{ns:List af}{us:List ag},Vals (ns.map fun n=>V.ref (f n)) us->us=ns.map fun n=>.ref (f n)
 |[],_,h=>by cases h;rfl|n::r,_,h=>by
  cases h with
  |cons a b=>cases a;rw[zk5 b];rfl
theorem zpI(T:TxE X.K cl es rs)(hn:∀n∈ns,n∈es):CallR X (.builtin "isinstance") (fun xs H Q=>∃α m d v t,xs=[v,.ref t]/\Wd X.K cl α m H/\Rep X.K α H d v/\H t=aa (.tup (ns.map fun c=>.ref (cl c)))/\∃b,isiT es ns d m = .ok (.bl b) m/\Q (.bl b) H):=by
 intro pins s σ H xs us Q I r h;obtain⟨α,m,d,v,t,rfl,W,k,B,b,i,q⟩:=h;obtain⟨u,w,rfl,o,R⟩:=zhB r;cases R;obtain⟨_,its,j,⟨O,l,x,n,p⟩,_⟩:=I.hok t _ B;obtain⟨F,E,D,S⟩:=O;simp only at x p;subst x p;rw[zk5 j]at l;unfold isiT at i;split at i
 ·split at i
  ·rename_i C;cases i;have a:=ybh.mp C;obtain⟨e,rfl,A,od,hi⟩:=zrV T I a k o;have ask:=(T.row a).1;unfold ztO at ask;simp only[yL,beq_iff_eq]at ask;exact ydX (zlr (T.exa a) ask.1.1.1.1.2) I.kIn ⟨A,od,hi⟩ l (zia fun n g=>((T.row a).2.2.2 n (hn n g)).1) (fun z=>nomatch z) fun y=>⟨.bl _,H,I.tok _,rfl,q⟩
  ·cases i
 ·cases i;rw[Rep]at k;subst k;cases o;exact ydX ydm I.kIn trivial l ((zia (f:=fun _=>ai) fun n g=>(T.row (hn n g)).2.2.1).trans (by simp)) (fun z=>nomatch z) fun y=>⟨.bl _,H,I.tok _,rfl,q⟩
 ·cases i
theorem zrI(T:TxE X.K cl es rs)(hn:x∈es)(a:Gl X x)(hd:autoParam ((x==("__debug__" : af))=ai) AutoP.a1._auto_1):PE X (.Name x p) (tC (.ref (cl x))) :=
 fun _ _ _ H _ I h=>ze6 I a (ybB I.mod.kin I.mod.glob (T.ns x hn)) ⟨.ref (cl x),H,I,rfl,h⟩ hd
theorem zsE(T:TxE X.K cl es rs)(hn:x∈es)(k:Gl X "isinstance")(hm:X.mg "isinstance" = none)(c:Gl X x)(ha:QE X cl ex e fa)(g:autoParam ((x==("__debug__" : af))=ai) AutoP.a1._auto_1)(i:autoParam (ap [e,.Name x p2] X.env=(ai,eval e X.env)::ap [.Name x p2] X.env) AutoP.a3._auto_1)(f:autoParam (ap [.Name x p2] X.env=(ai,eval (.Name x p2) X.env)::ap [] X.env) AutoP.a3._auto_1)(b:autoParam ((aC pos (ap [.Name x p2] X.env)).any (·.1)=ai) AutoP.a3._auto_1) : QE X cl ex (.Call (.Name "isinstance" p) [e,.Name x p2] [] pos) (eUn (isiX es x) fa) :=
 ⟨PE.weak (zeq (zpF T hn) k hm cq (za2 ha.out (za2 (zrI T hn c g) zda f) i) (by decide) (by decide) i b) fun σ H Q j=>ex3 j fun α ρ m W hr h=>tD.use W hr h fun a m1 n d v E w hr1 r q=>by
  refine⟨a,m1,d,v,rfl,w,r,?_⟩;unfold isiX at q ⊢;split at q
  ·obtain⟨l,q⟩:=PQ.if q;exact⟨_,by rw[if_pos l],PQ.ok w q _ zf2⟩
  ·exact⟨_,rfl,PQ.ok w q _ zf2⟩
  ·exact q.elim⟩
theorem zsF(T:TxE X.K cl es rs)(k:Gl X "isinstance")(hm:X.mg "isinstance" = none)(f:Gl X "ValueError")(c:X.mg "ValueError" = none)(ha:QE X cl ex e fa)(i:autoParam (ap [e,.Name "ValueError" p2] X.env=(ai,eval e X.env)::ap [.Name "ValueError" p2] X.env) AutoP.a3._auto_1)(g:autoParam (ap [.Name "ValueError" p2] X.env=(ai,eval (.Name "ValueError" p2) X.env)::ap [] X.env) AutoP.a3._auto_1)(b:autoParam ((aC pos (ap [.Name "ValueError" p2] X.env)).any (·.1)=ai) AutoP.a3._auto_1) : QE X cl ex (.Call (.Name "isinstance" p) [e,.Name "ValueError" p2] [] pos) (eUn (isiV es) fa) :=
 ⟨PE.weak (zeq (zpG T) k hm cq (za2 ha.out (za2 (zn3 (v := .ty "ValueError") f c (by rfl) rfl) zda g) i) (by decide) (by decide) i b) fun σ H Q j=>ex3 j fun α ρ m W hr h=>tD.use W hr h fun a m1 n d v E w hr1 r q=>by
  refine⟨a,m1,d,v,rfl,w,r,?_⟩;unfold isiV at q ⊢;split at q
  ·obtain⟨l,q⟩:=PQ.if q;exact⟨_,by rw[if_pos l],PQ.ok w q _ zf2⟩
  ·exact⟨_,rfl,PQ.ok w q _ zf2⟩
  ·exact q.elim⟩
structure QN(X:Cx)(cl:af->ac)(as:List am)(ns:List af):Prop where
 out:PA X as (fun _ H Q=>Q (ns.map fun c=>.ref (cl c)) H)
theorem qn_nil:QN X cl [] []:=⟨fun pos pins s σ H Q I h=>zda pos pins s σ H Q I h⟩
theorem zc3(T:TxE X.K cl es rs)(hn:x∈es)(a:Gl X x)(hr:QN X cl as ns)(hd:autoParam ((x==("__debug__" : af))=ai) AutoP.a1._auto_1)(hs:autoParam (ap (.Name x p::as) X.env=(ai,eval (.Name x p) X.env)::ap as X.env) AutoP.a3._auto_1):QN X cl (.Name x p::as) (x::ns) :=
 ⟨fun pos pins s σ H Q I h=>za2 (zrI T hn a hd) hr.out hs pos pins s σ H Q I h⟩
theorem zsG(T:TxE X.K cl es rs)(hn:∀n∈ns,n∈es)(l:Gl X "isinstance")(hm:X.mg "isinstance" = none)(ha:QE X cl ex e fa)(i:QN X cl as ns)(hsz:autoParam (ns.length<=sizeLine) AutoP.a1._auto_1)(g:autoParam (ap [e,.Tuple as kt tp] X.env=(ai,eval e X.env)::ap [.Tuple as kt tp] X.env) AutoP.a3._auto_1)(f:autoParam (ap [.Tuple as kt tp] X.env=(ai,eval (.Tuple as kt tp) X.env)::ap [] X.env) AutoP.a3._auto_1)(b:autoParam ((aC pos (ap [.Tuple as kt tp] X.env)).any (·.1)=ai) AutoP.a3._auto_1) : QE X cl ex (.Call (.Name "isinstance" p) [e,.Tuple as kt tp] [] pos) (eUn (isiT es ns) fa) :=
 ⟨PE.weak (zeq (zpI T hn) l hm cq (za2 ha.out (za2 (zrF i.out) zda f) g) (by decide) (by decide) g b) fun σ H Q k=>ex3 k fun α ρ m W hr h=>tD.use W hr h fun a m1 t d v E w hr1 r q=>by
  refine⟨by rw[yd];exact hsz,fun p j=>?_⟩;have s1:=Same.new (o := .tup (ns.map fun c=>.ref (cl c))) j;refine⟨a,m1,d,v,p,rfl,w.same s1,r.mono w (Ext.of_same w s1),zaF,?_⟩;unfold isiT at q ⊢;split at q
  ·obtain⟨s,q⟩:=PQ.if q;exact⟨_,by rw[if_pos s],PQ.okS w s1 q _ zf2⟩
  ·exact⟨_,rfl,PQ.okS w s1 q _ zf2⟩
  ·exact q.elim⟩
end
variable{P:af->Prop}
theorem zii:∀c∈([]:List af),P c:=fun _ h=>nomatch h
theorem zaE{xs:List af}(h:P x)(r:∀c∈xs,P c):∀c∈x::xs,P c:=fun c H=>by
 rcases yA.mp H with rfl|H
 ·exact h
 ·exact r c H
def puF(g:List D->Sto->Res D):List D->Sto->Res D:=fun ds m=>(g ds m).pu
theorem FnE.pure{P:ar}{w:al}{mg:af->Option ag}{base:au}{k n:Nat}{g:List D->Sto->Res D}(h:FnE P w K mg base cl x k n g):FnX P w K mg base cl x k n (puF g):=by
 obtain⟨f,fd,ps,u,t,p,i⟩:=h.ex;refine⟨f,fd,ps,u,t,p,?_⟩;have imp:∀vs H Q E,spD K cl X0 n (puF g) vs H Q E->spX K cl n g vs H Q E0:=fun vs H Q E ⟨hl,α,m,ds,W,r,q⟩=>⟨hl,α,m,ds,W,r,by
  unfold puF at q;cases a:g ds m with
  |ok d m1=>rw[a]at q;exact q|bad=>rw[a]at q;exact q|exc c m1=>rw[a]at q;exact q.elim⟩
 refine⟨fun vs H Q E q=>i.len vs H Q E0 (imp vs H Q E q),fun A outer s H args us vs Q E hr l o j hs=>bO (i.run A outer s H args us vs Q E0 hr l o j (imp _ _ _ _ hs)) fun r s' b=>?_⟩;cases r with
 |error v=>
  obtain⟨e,C,dd,H',_,_,_,_,_,_,z⟩:=b;exact z.elim
 |ok F=>cases F <;> exact b
section
end
end MD
namespace L2
open PySem PySem.Spec PyProof.Rows
variable{X:Cx}{e:am}{te:TE}{pos:ax}
end L2
namespace MD
open PySem PySem.Spec PyProof.Rows L2
variable{X:Cx}{K:ya}{cl:af->ac}{ex:XD}
section
end
section
end
def yMth(c m:af)(g:List D->Sto->Res D)(f:EV)(fr:AV):EV:=fun ρ mm=>(ePu f ρ mm).bind fun d m1=>if zeg c m d m1=ae then (aPu fr ρ m1).bind fun ds m2=>g (d::ds) m2 else .bad
structure FnEM(P:ar)(w:al)(K:ya)(mg:af->Option ag)(base:au)(cl:af->ac)(c m:af)(k n:Nat)(g:List D->Sto->Res D):Prop where
 ex:∃(f:ac)(fd:aJ)(ps:List af),Meth K (cl c) m f/\Binds K fd ps []/\FnOk P w K mg base (CXx P w) k f fd ps (spX K cl n g)
variable{c:af}{n:Nat}
theorem FnEM.mk'{P:ar}{w:al}{mg:af->Option ag}{base:au}{x qual:af}{st:aq}{f:ac}{fd:aJ}{N ps:List af}{k:Nat}{B:SV}(F:Fun K x qual st f fd)(b:Binds K fd ps [])(m:Meth K (cl c) x f)(S:FnScope N ps (zai st))(hn:n=ps.length)(h:∀(cdv:ag)(A:az)(outer:List yaJ)(s:ak)(H:Hp)(E:XK),Room k (A.deeper (aN qual (zai st) s.heap.objs.size f cdv))->YSs (zkN (CXx P w) P w K mg base N qual (zai st) f cdv A outer s H E).nox cl (zbs st) B):FnEM P w K mg base cl c x (k+1) n (zaZ N.length B) :=
 ⟨f,fd,ps,m,b,zrT F S hn h⟩
section
variable{e o:am}{es:List am}{fa:EV}{fr:AV}{p pos apos:ax}{m:af}{k:Nat}{g:List D->Sto->Res D}
theorem zrs{pl:Sem Bool}(K:X.xe=fun _ _=>False)(h:FnEM X.prog X.w X.K X.mg X.base cl c m k n g)(ho:QE X cl X0 o fa)(hc:Cls X.K (cl c))(hn:n=(e::es).length+1)(hr:Room k X.A)(ha:QA X cl X0 (e::es) fr)(y:∀ρ m ds m1,fr ρ m = .ok ds m1->ds.length=(e::es).length)
  (D:autoParam (ap (e::es) X.env=(ai,eval e X.env)::ap es X.env) AutoP.a3._auto_1) (G:autoParam ((aC pos (ap es X.env)).any (·.1)=ai) AutoP.a3._auto_1)
  (Y:autoParam (eval (.Call (.Attribute o m apos) (e::es) [] pos) X.env=(do
   let O <- eval o X.env
   bv apos.atName
   let (f,first) <- holding [O] (getMethod O m pl)
   bY pos f first (aC pos (ap (e::es) X.env)) (bd pos (be [] X.env)))) AutoP.a3._auto_1):YE X cl (.Call (.Attribute o m apos) (e::es) [] pos) (yMth c m g fa fr):=by
 obtain⟨f,fd,ps,L,h2,h3⟩:=h.ex
 refine⟨fun pins s σ H Q W I hh=>?_⟩
 obtain⟨α,ρ,M,W0,hr0,Z⟩:=hh
 have l:PQ X.K cl W ((fa ρ M).pu.bind fun d m1=>if zeg c m d m1=ae then (aPu fr ρ m1).bind fun ds m2=>g (d::ds) m2 else .bad) α H fun d α' _ H'=>∀v,Rep X.K α' H' d v->Q v H':=Z
 cases B:fa ρ M with
 |bad=>rw[B]at l;exact l.elim
 |exc c m1=>rw[B]at l;exact l.elim
 |ok d m1=>
  rw[B]at l
  have F:PQ X.K cl W (if zeg c m d m1=ae then (aPu fr ρ m1).bind fun ds m2=>g (d::ds) m2 else .bad) α H fun d α' _ H'=>∀v,Rep X.K α' H' d v->Q v H':=l
  obtain⟨hi,E⟩:=PQ.if F
  refine ycu (pl:=pl) (aA (ho.out pins s σ H (fun x t=>∃i,Ext α H i t/\Wd X.K cl i m1 t/\RepE X.K i t ρ σ /\ Rep X.K i t d x) I (tD.at W0 hr0 B fun i t v J A hr1 R=>⟨i,J,A,hr1,R⟩)) (fun u s1 ⟨x,t,P,U,i,J,A,hr1,R⟩=>?_) fun _ _ z=>by rw[K]at z;exact z.elim) Y
  obtain⟨a,dx,fs,rfl,ea,el⟩:=zgl A hi R
  obtain rfl:u=yn a:=U
  refine ze9 P ea hc L el ?_
  refine ybr (first:=[.ref a]) (h₀ := X.base) I.ok.mod.kin L.kp (aA (ha.out pos pins s1 σ t (fun vs w=>∃b m2 ds,Wd X.K cl b m2 w/\RepL X.K b w ds vs/\Rep X.K b w d (.ref a)/\ds.length=(e::es).length/\PQ X.K cl W (g (d::ds) m2) b w fun d α' _ H'=>∀v,Rep X.K α' H' d v->Q v H') P ?_) (fun us s2 ⟨vs,w,N,r,b,m2,ds,T,rd,V,hl,q⟩=>⟨N.kIn,?_⟩) fun _ _ z=>by rw[K]at z;exact z.elim) D G
  ·have j:PQ X.K cl W ((fr ρ m1).pu.bind fun ds m2=>g (d::ds) m2) α H fun d α' _ H'=>∀v,Rep X.K α' H' d v->Q v H':=E
   cases p:fr ρ m1 with
   |bad=>rw[p]at j;exact j.elim
   |exc c m1=>rw[p]at j;exact j.elim
   |ok ds m2=>
    rw[p]at j
    exact tDA.at A hr1 p fun b w v S W2 hr2 C=>⟨b,m2,ds,W2,C,R.mono A S,y ρ m1 ds m2 p,PQ.mono (J.trans S) j fun _ _ _ _ _ _ z=>z⟩
  ·exact znF (us := .ref a::us) (vs := .ref a::vs) (ds:=d::ds) h3 hr h2 N (.cons rfl r) (by rw[yx,<- rd.length,hl,hn]) T (by rw[RepL];exact⟨_,_,rfl,V,rd⟩) q
end
section
end
def zcN:SV :=
 (sIf (tPu (zhD (tV (eFn zfb (zac (eOp ixD (zeQ "Presser" "pact" (zag 0)) (eC (.int 0))) (zac (zag 1) zak))))))
 (zqn "NoHead" (aPu (zac (eC (.str "no head of this shape")) zak)))
 zbG)
def zbc:List D->Sto->Res D:=zaZ 2 zcN
def zbJ:SV :=
 (zat (zcg (yMth "Presser" "ask_head" zbc (zag 0) (zac (zag 1) zak)))
 (zat (sPu (zaC (zgC "Presser" "sent" zaB (zag 0) zak) (gN 2)))
 (zat (sIf (tPu (tV (eOp eqD (zag 2) (eOp zfQ (eC (.int 1)) (eOp ixD (zeQ "Presser" "pact" (zag 0)) (eC (.int 1)))))))
 (zqn "NoMore" (aPu (zac (eC (.str "all numbers are used up")) zak)))
 zbG)
 (zat (sPu (zaC (eFn zcP (zac (zeQ "Presser" "pact" (zag 0)) (zac (zgC "Presser" "shortest" zaX (zag 0) (zac (zag 1) zak)) (zac (zag 2) (zac (zag 1) zak))))) (gN 3)))
 (zat (sPu (zcg (zb2 zcj za9 (zeQ "Presser" "pressed" (zag 0)) (zac (zag 1) zak))))
 (sPu (zaJ (zag 3))))))))
def zaH:List D->Sto->Res D:=zaZ 4 zbJ
end MD
namespace L2
open PySem PySem.Spec PyProof.Rows
end L2
namespace MD
open PySem PySem.Spec PyProof.Rows L2
end MD
namespace MD
open PySem PySem.Spec PyProof.Rows L2
open PySem.SeqAt
section
variable{prog:ar}{w:al}{A:az}{E:ag->ak->Prop}{s:ak}{Q:ag->ak->Prop}
open AutoSeq1 (wpAny_loadPart')
end
def gPu(g:GV):GV:=fun d ρ m=>(g d ρ m).pu
end MD
namespace L2
open PySem PySem.Spec PyProof.Rows MD
variable{env:aH}
theorem ztd{env':aH}(h:env.frame=env'.frame){x:ag}:aS x env=aS x env':=by
 unfold aS PySem.frameOf;rw[h]
def XZ(X:Cx)(pins:List (ac×av))(σ : St)(Z:ag->Option ac->ac->Hp->Prop)(v:ag)(s':ak):Prop:=∃e C dd H',v = .ref e/\Inv X pins σ H' s'/\Fly C dd e H' s'.heap/\Z C dd e H'
def PZ(X:Cx)(e:am)(te:TE)(Z:ag->Option ac->ac->Hp->Prop):Prop :=
 ∀(pins:List (ac×av))(s:ak)(σ : St)(H:Hp)(Q:VK),Inv X pins σ H s->te σ H Q->wpAny (ao X.prog X.w) X.A (eval e X.env) (EP X pins σ Q) (XZ X pins σ Z) s
variable{A:az}{s:ak}{elt iter:am}{ifs:List am}{scope:aO}{pos:ax}
theorem zkO{prog:ar}{w:al}{R:bB->ak->Prop}{t:am}{it g:ag}(I:Nat->ak->Prop)
  (turn:∀n s,I n s->wpAny (ao prog w) A (bn it) (fun r a=>match r with
   |none=>R (.ok .next) a
   |some v=>wpAny (ao prog w) A (bV t it v) (fun _ T=>wpAny (ao prog w) A (aV t env v) (fun _ f=>
     wpAny (ao prog w) A (forIn ifs ae fun c r=>if r=ae then do let ok <- isTrue c env (eval c env);pure (ForInStep.yield ok) else pure (ForInStep.yield r)) (fun ok S=>
      if ok=ae then wpAny (ao prog w) A (eval elt env) (fun x d=>wpAny (ao prog w) A (call (.builtin "list.append") [g,x]) (fun _ b=> ∃m,m<n/\I m b) (fun _ _=>False) d) (notedBy (ao prog w) A env fun e s'=>R (.error e) s') S
      else ∃m,m<n/\I m S) (fun _ _=>False) f) (fun _ _=>False) T) (fun _ _=>False) a) (fun _ _=>False) s)
  (n:Nat) (h:I n s):codeAny (ao prog w) A (.compLoop (.ListComp elt [⟨t,iter,ifs,0⟩] scope pos) 0 it g env) R s:=by
 refine codeAny_loop rfl I (fun n s o=>?_) n h
 show wpAny _ A (Sem.onRaise (compTurn _ 0 it g env) fun x=>do aS x env;theTreesLotGoes x) _ _ s
 refine wpAny_noted ?_
 rw[compTurn_list]
 refine aj (cg (aj (aA (turn n s o) (fun r a h₁=> ?_) fun _ _ z=>z.elim)))
 cases r with
 |none=>exact aw h₁
 |some v=>
  refine aj (aA h₁ (fun _ T k=> ?_) fun _ _ z=>z.elim)
  refine aj (aA k (fun _ f l=>aj (aA l (fun ok S H=> ?_) fun _ _ z=>z.elim)) fun _ _ z=>z.elim)
  cases ok with
  |false=>exact aw ⟨rfl,H⟩
  |true=>
   refine aj (aj (aA H (fun x d j=> ?_) fun _ _ z=>z))
   exact aj (aA j (fun _ b i=>aw (aw ⟨rfl,i⟩)) fun _ _ z=>z.elim)
variable{pins:List (ac×av)}{σ : St}{H2:Hp}{s2:ak}{fp:List ac}{C:ag}{dd:Option ac}{H:Hp}{E:ag->ak->Prop}{L:ac}
section
variable{X:Cx}{N0:List af}{tg:am}{xs:List af}{cl:List (af×ac)}{wi:TI}{g:TG}{tf:TT}{te:TE}
theorem zpz{C:ac}{p:List (ac×av)}{a:St}{H':Hp}{s':ak}(I:Inv X pins σ H2 s2)(f2:∀b∈fp,zem X pins H2 b)(J:Inv (X.comp N0 scope xs cl C s2 H2 fp) p a H' s'):Inv X pins σ H' s' :=
 I.call' (ch:=fp) J.os J.base J.hok J.bare fun b h=>by
  obtain⟨_,d,_,c,Z,z⟩:=f2 b h;exact⟨c,d,Z,z⟩
theorem Fly.but{e l:ac}{h h':au}(F:Fly C dd e H h)(j:H l=none)(k:yas l h h'):Fly C dd e H h':=by
 obtain⟨te,o,vs,m,n,i,hd,hl⟩:=F;refine⟨te,o,vs,k.extBut e o (zar te j) m,n,i,hd,hl.imp id fun⟨T,oT,ts,a,b,c,d,f,g⟩=>⟨T,oT,ts,a,b,c,k.extBut T oT (zar c j) d,f,g⟩⟩
theorem zkP{ZE:ag->Option ac->ac->Hp->Prop}{it:ac}{tn:Nat->au->Prop}{J:It}{W:Nat->Nat->List V->Hp->Prop}{m0:Nat}{fin:List V->Hp->Prop}{RR:ag->ac->bB->ak->Prop}(hc:X.calm=ae)(hx:X.xe=fun _ _=>False)(hk:X.stack=X.env::X.outer)(hL:X.env.frame=aa L)(S:CompOk X N0 scope xs cl)(hg:∀C s H fp,PG (X.comp N0 scope xs cl C s H fp) tg g)(hf:∀C s H fp,PIf (X.comp N0 scope xs cl C s H fp) ifs tf)(he:∀C s H fp,PZ (X.comp N0 scope xs cl C s H fp) elt te ZE)(I:Inv X pins σ H2 s2)(T:Turn X.prog X.w X.K tg J fp it tn)(st2:tn 0 s2.heap)(f2:∀b∈fp,zem X pins H2 b)(w0:W 0 m0 [] H2)(turn:∀i m ys H,W i m ys H->ys.length<=sizeLine/\((J.stop i H/\fin ys H)∨(J.go i H/\∃(Y:V->Hp->Prop)(Z:Hp->Prop),(∀y H4,Y y H4->ys.length<sizeLine/\∃m',m'<m/\W (i+1) m' (ys++[y]) H4)/\(∀H3,Z H3->∃m',m'<m/\W (i+1) m' ys H3)∧∀x H',J.yld i H x H'->g x (σ ++ yp xs.length none) H' fun σ2 H2=>tf σ2 H2 fun b H3=>if b=ae then te σ2 H3 Y else Z H3)))(hRR:∀(D C:ac)(s':ak)(ys:List V)(H':Hp)(m':af->Option ag),Inv X pins σ (upd H' D (.lst ys)) s'->H' D=none->s'.heap.Ns C m'->zem X pins (upd H' D (.lst ys)) C->fin ys H'->RR (.ref D) C (.ok .next) s')(hRE:∀(D C:ac)(s':ak)(H':Hp)(m':af->Option ag)(e:ac)(Cc:ag)(dd:Option ac),Inv X pins σ H' s'->s'.heap.Ns C m'->zem X pins H' C->Fly Cc dd e H' s'.heap->Tr e s'.heap->(∃H0,ZE Cc dd e H0/\Same H0 H')->RR (.ref D) C (.error (.ref e)) s') : wpAny (ao X.prog X.w) X.A (newList []) (fun acc s₃=>wpAny (ao X.prog X.w) X.A (newFunctionEnv scope X.env.globals cl [] X.env.qual none .none (aa X.env)) (fun F s₄=>codeAny (ao X.prog X.w) X.A (.compStart (.ListComp elt [⟨tg,iter,ifs,0⟩] scope pos) 0 (.ref it) acc { F with scope:=bh scope X.env }) (RR acc F.locals) s₄) E s₃) E s2:=by
 refine aR (wpAny_newFunctionEnv S.nc (by intro y hy;simp at hy) (fun h₁ j h=> ?_) S.kind);dsimp only at j h ⊢;generalize hG:s2.heap.push { cls := .type "list", dict:=none,data := .seq ([]:List ag).toArray }=G at j h ⊢;have szG:G.objs.size=s2.heap.objs.size+1:=by rw[<- hG,yQ]
 have O:s2.heap.objs.size≠G.objs.size:=by rw[szG];exact yB (yaX _)
 have hC:s2.heap.objs.size<=G.objs.size:=by rw[szG];exact ybb _
 have A:∀b∈fp,b<s2.heap.objs.size:=fun b f=>let ⟨_,e,_⟩:=T.obj 0 _ st2 b f;yg e;have old:∀b o,s2.heap.get? b=aa o->h₁.get? b=aa o:=fun b o e=>
  h.extBut b o (yB (yF (yg e) hC)) (ye _ (hG ▸ ye _ e))
 have hacc:h₁.get? s2.heap.objs.size=aa { cls := .type "list", data := .seq ([]:List ag).toArray 0 }:=h.extBut _ _ O (ye _ (hG ▸ yw _ rfl));have l : tn 0 h₁ := T.keep 0 _ _ st2 fun b _ o e=>old b o e;have I3:∀U,Inv (X.comp N0 scope xs cl G.objs.size s2 H2 fp) [(s2.heap.objs.size,{ cls := .type "list", data := .seq ([]:List ag).toArray 0 })] (σ ++ yp xs.length none) H2 { s2 with heap:=h₁,toks:=U }:=fun U=>
  zhn I S f2 A hC (yb _) O old rfl I.bare j hacc fun _ z=>nomatch z
 have w:∀{H':Hp}{o:av},(∀b∈fp,H' b=none)->∀b∈fp,zem (X.comp N0 scope xs cl G.objs.size s2 H2 fp) [(s2.heap.objs.size,o)] H' b:=fun {H' o} hn b f=>by
  refine⟨hn b f,yB (yF (A b f) hC),fun z=>?_,.inl f,fun x c e=>(f2 b f).2.2.2.2.1 x c (S.sub.at e),fun p M=>?_⟩
  ·rcases yA.mp (I.stkSub b z) with q|q
   ·exact(f2 b f).2.1 q
   ·exact(f2 b f).2.2.1 q
  ·have e:p=(s2.heap.objs.size,o):=yS.mp (show p∈[(s2.heap.objs.size,o)] from M);subst e;exact yR (A b f)
 have B:∀U,codeAny (ao X.prog X.w) X.A (.compLoop (.ListComp elt [⟨tg,iter,ifs,0⟩] scope pos) 0 (.ref it) (.ref s2.heap.objs.size) (b6 scope cl G.objs.size X.env)) (RR (.ref s2.heap.objs.size) G.objs.size) { s2 with heap:=h₁,toks:=U }:=by
  intro U;refine zkO (fun n s'=>∃i ys its k H',Inv (X.comp N0 scope xs cl G.objs.size s2 H2 fp) [(s2.heap.objs.size,{ cls := .type "list", data := .seq (its:List ag).toArray k })] (σ ++ yp xs.length none) H' s'/\tn i s'.heap/\(∀b∈fp,H' b=none)/\Vals ys its/\W i n ys H')
   ?_ m0 ⟨0,[],[],0,H2,I3 U,l,fun b f=>(f2 b f).1,.nil,w0⟩
  rintro n s' ⟨i,ys,its,k,H',I',st',fr',rv,w'⟩;obtain⟨hlen,way⟩:=turn i n ys H' w';rcases way with⟨stop,qf⟩|⟨go,Y,Z,hY,hZ,step⟩
  ·refine thn (T.done (X.comp N0 scope xs cl G.objs.size s2 H2 fp) rfl rfl rfl hc i _ s' _ H' (fun _ _=>False) I' (w fr') st' stop) ?_;rintro r s1 ⟨hr,I1⟩;subst hr;obtain⟨e,n1,_⟩:=I1.pin _ (yS.mpr rfl);obtain⟨m1,N,_⟩:=I1.loc;refine hRR _ _ s1 ys H' m1 (zlX I f2 (yb _) I1 n1 e rv hlen) n1 N ?_ qf;refine I.fpOk hC ?_;rw[zax O.symm];exact I1.free
  ·refine thn (T.item (X.comp N0 scope xs cl G.objs.size s2 H2 fp) rfl rfl rfl hc i _ s' _ H' (fun _ _=>False) I' (w fr') st' go) ?_;rintro r s1 ⟨u,hr,h1⟩;subst hr;refine thn h1 ?_;rintro _ s5 ⟨x,H5,I5,r5,y5,K,fr5⟩;have I5':=I5.pinned (w fr5) (T.obj _ _ K);have hxe:(X.comp N0 scope xs cl G.objs.size s2 H2 fp).xe=fun _ _=>False:=hx;have q6:=hg _ s2 H2 fp _ s5 _ H5 x u _ I5' r5 (step x H5 y5);rw[hxe]at q6;refine thn q6 ?_;rintro _ s6 ⟨t,H6,I6,q6⟩;have Q:=hf _ s2 H2 fp _ s6 t H6 _ I6 q6;rw[hxe]at Q;refine thn Q ?_;rintro b s7 ⟨H7,I7,Q⟩;have kept:∀{σ':St}{H':Hp}{s':ak},Inv (X.comp N0 scope xs cl G.objs.size s2 H2 fp) ([(s2.heap.objs.size,{ cls := .type "list", data := .seq its.toArray k })]++zcu fp s5.heap) σ' H' s'->tn (i+1) s'.heap/\∀b∈fp,H' b=none:=fun {σ' H' s'} Z=>by
    refine⟨T.keep _ _ _ K fun b f o e=>(Z.pin (b,o) (yN _ (yN _ (zca f e)))).1,fun b f=>?_⟩;obtain⟨o,e,d⟩:=T.obj _ _ K b f;exact(Z.pin (b,o) (yN _ (yN _ (zca f e)))).2.1
   cases b with
   |false=>
    rw[if_neg yH];rw[if_neg yH]at Q;obtain⟨m',hm,w7⟩:=hZ _ Q;exact⟨m',hm,i+1,ys,its,k,H7,zdR I S f2 I7.unpinned,(kept I7).1,(kept I7).2,rv,w7⟩
   |true=>
    rw[if_pos rfl];rw[if_pos rfl]at Q;have q8:=he _ s2 H2 fp _ s7 t H7 _ I7 Q;refine aA q8 (fun y s8 ⟨yv,R,P,r8,qY⟩=>?_) fun v s8 ⟨e,Cc,dd,R,hv,P,F8,z8⟩=>?_
    rotate_left
    ·subst hv;show wpAny _ _ (aS _ _) _ _ _;rw[ztd (env:=b6 scope cl G.objs.size X.env) (env':=X.env) rfl];refine zi1 P hk hL rfl F8 fun s9 H9 o9 S9 I9 F9 T9=>?_;obtain⟨m1,N,_⟩:=I9.loc;exact hRE _ _ s9 H9 m1 e Cc dd (zpz I f2 I9) N (I.fpOk hC I9.free) F9 T9 ⟨R,z8,S9⟩
    obtain⟨hz,m',hm,w8⟩:=hY _ _ qY;obtain⟨eD,nD,neC,nfD,_⟩:=P.pin (s2.heap.objs.size,{ cls := .type "list", data := .seq its.toArray k }) (yN _ (yaV _ (yS.mpr rfl)));have hl:=rv.length;refine br ycH ⟨_,eD,rfl⟩ ycI (ycJ _ _) (ycK s2.heap.objs.size its.toArray k y (by rw[yG];omega)) ⟨eD,?_⟩;have eN:=ycG eD (fun(a:Array ag)=>a.push y);have eA:its.toArray.push y=(its++[y]).toArray:=by simp
    rw[eA]at eN;have drop:Inv (X.comp N0 scope xs cl G.objs.size s2 H2 fp) (zcu fp s5.heap) t R s8:=P.pins_of fun p M=>P.pin p (yN _ (yN _ M));have I9:Inv (X.comp N0 scope xs cl G.objs.size s2 H2 fp) (zcu fp s5.heap) t R { s8 with heap:=s8.heap.update s2.heap.objs.size (yaw fun(a:Array ag)=>a.push y) }:=by
     refine drop.turned (it:=s2.heap.objs.size) (t':=s8.toks) (fun b o f q=>(ybv s8.heap _ (Ne.symm f)).trans q) nD neC (.inr (yb _)) (fun x c e z=>?_) fun p M z=>?_
     ·obtain⟨v,q⟩:=I.cell x c (S.sub.at e);exact absurd (q.lt) (by rw[z];exact yac _)
     ·have hp':p∈zcu fp s5.heap:=M;exact absurd (A _ (zga hp').1) (by rw[z];exact yac _)
    have I10:Inv (X.comp N0 scope xs cl G.objs.size s2 H2 fp) ([(s2.heap.objs.size,{ cls := .type "list", data := .seq (its++[y]).toArray _ })]++zcu fp s5.heap) t R { s8 with heap:=s8.heap.update s2.heap.objs.size (yaw fun(a:Array ag)=>a.push y) }:=I9.pins_of fun p M=>by
     rcases y6.mp M with z|z
     ·have e:=yS.mp z;subst e;exact⟨eN,nD,neC,nfD,fun _ z=>nomatch z⟩
     ·exact I9.pin p (yN _ z)
    have kp:tn (i+1) (s8.heap.update s2.heap.objs.size (yaw fun(a:Array ag)=>a.push y))/\∀b∈fp,R b=none:=by
     refine⟨T.keep _ _ _ (kept P).1 fun b f o e=>(ybv s8.heap _ (yR (A b f))).trans e,(kept P).2⟩
    exact⟨m',hm,i+1,ys++[yv],its++[y],_,R,zdR I S f2 I10.unpinned,kp.1,kp.2,rv.append (.cons r8 .nil),w8⟩
 exact codeAny_compStart_list (B _) (T.self _ 0 _ _ _ l (B _))
theorem zn5{M:Model}{e:ac}{w:String}{f : Type}{Q : f -> ak->Prop}(I:Inv X pins σ H s)(F:Fly C dd e H s.heap)(t:Tr e s.heap)(h:∀s',s'.os=s.os->Inv X pins σ H s'->Fly C dd e H s'.heap->E (.ref e) s'):wpAny M A (passOn w (.ref e) env:Sem f) Q E s:=by
 have k:=F;obtain⟨te,o,vs,g,m,i,hd,hl⟩:=F;unfold PySem.passOn;rcases hl with d|⟨T,oT,ts,d,ne,l,n,j,p⟩
 ·exact absurd d (t o vs g hd)
 ·refine aj (aE g hd d ?_);show wpAny M A (bM _ _ >>= fun _=>throw _) Q E s;exact aj (zgB I k fun s1 a b c=>wpAny_throw (h s1 a b c))
theorem zsJ{Z:ag->Option ac->ac->Hp->Prop}(E:X.calm=ae)(c:X.xe=fun _ _=>False)(u:X.stack=X.env::X.outer)(G:X.env.frame=aa L)(S:CompOk X N0 scope xs cl)(hi:PI X tg iter wi)(v:∀C s H fp,PG (X.comp N0 scope xs cl C s H fp) tg g)(w:∀C s H fp,PIf (X.comp N0 scope xs cl C s H fp) ifs tf)(B:∀C s H fp,PZ (X.comp N0 scope xs cl C s H fp) elt te Z)(hs:autoParam (∀x,bb iter X.env x=pure x) AutoP.a2._auto_1) : PZ X (.ListComp elt [⟨tg,iter,ifs,0⟩] scope pos) (fun σ H Q=>zhE xs.length wi g tf te (fun ys H'=>∀p,H' p=none->Q (.ref p) (upd H' p (.lst ys))) σ H) (fun C dd e H'=>∃H0,Z C dd e H0/\Same H0 H'):=by
 intro pins s σ H Q I h;rw[eval_ListComp];refine cC (use:=none) rfl hs S.clos S.kind (fun y r hl=>(S.lo r hl).1) ?_;have d:=hi pins s σ H _ I h;rw[c]at d;refine aA d (fun V s1 M=>?_) fun _ _ z=>z.elim;refine aA M (fun m s2 K=>?_) fun _ _ z=>z.elim;obtain⟨it,fp,tn,J,H2,rfl,N,T,a,f2,W,⟨m0,w0⟩,turn⟩:=K;refine zkP (RR:=fun A C=>compPost (ao X.prog X.w) X.A (XZ X pins σ fun C dd e H'=>∃H0,Z C dd e H0/\Same H0 H') none (EP X pins σ Q) A C) E c u G S v w B N T a f2 w0 turn ?_ ?_
 ·intro D C s' ys H' m' i n hn f b;exact⟨m',hn,fun h' k=>⟨.ref D,_,zeI i f k,rfl,b D n⟩⟩
 ·intro D C s' H' m' e U dd i hn f F t z;refine⟨m',hn,fun h' k j _=>?_⟩;have t':Tr e h':=fun o vs q l=>by
   obtain⟨te,O,Y,a1,a2,a3,a4,a5⟩:=F;have:=k.extBut e O (zar te f.1) a1;rw[this]at q;cases q;exact t _ _ a1 l
  exact zn5 (zeI i f k) (F.but f.1 k) t' fun s1 _ P R=>⟨e,U,dd,H',rfl,P,R,z⟩
end
end L2
namespace MD
open PySem PySem.Spec PyProof.Rows L2
def oPu(f:OI):OI:=fun ρ m=>(f ρ m).pu
def eY1(g:List D->Sto->Res D)(f:EV):EV:=fun ρ m=>(f ρ m).bind fun d m1=>(g [d] m1).pu
variable{X:Cx}{cl:af->ac}{p pos:ax}{x:af}
section
variable{e:am}{f:EV}{id T:String}{r:List V->Hp->VK->Prop}{g:List D->Sto->Res D}
theorem zp0(n:X.xe=fun _ _=>False)(B:CallR X (.builtin id) r)(hd:FnD X.K cl X0 r g)(w:Gl X x)(hm:X.mg x=none)(o:aT x=aa (.builtin id))(A:YE X cl e f)(hn:autoParam (x ≠ "__name__") AutoP.a1._auto_1)(k:autoParam ((x==("__debug__" : af))=ai) AutoP.a1._auto_1)
  (i:autoParam (ap [e] X.env=(ai,eval e X.env)::ap [] X.env) AutoP.a3._auto_1) (j:autoParam ((aC pos (ap [] X.env)).any (·.1)=ai) AutoP.a3._auto_1):YE X cl (.Call (.Name x p) [e] [] pos) (eY1 g f):=⟨fun pins s σ H Q W I t=>by
 refine bE (zcJ I w hm o ?_ hn k);refine PyProof.Rows.callWith_builtin1 ?_ i j;rw[i];show wpAny _ _ (spliced ((ai,eval e X.env)::aC pos (ap [] X.env))) _ _ s;refine yct (aA (A.out pins s σ H (fun v c=>∃b m1 d,Wd X.K cl b m1 c/\Rep X.K b c d v/\PQ X.K cl W (g [d] m1).pu b c fun d α' _ H'=>∀v,Rep X.K α' H' d v->Q v H') W I ?_) (fun u s1 ⟨y,c,F,l,b,m1,d,w1,rd,q⟩=>?_) fun _ _ z=>z)
 ·exact ex3 t fun α ρ m E hr h=>tD.use E hr h fun b m1 c d v G D hr1 R C=>⟨b,m1,d,D,R,C⟩
 ·refine ycs ?_;have z:=B pins s1 σ c [y] [u] Q F (.cons l .nil) (hd b m1 c [d] [y] Q w1 (RepL.one rd) (PQ.pu q));exact aA z (fun _ _ a=>a) fun _ _ a=>by rw[n]at a;exact a.elim⟩
theorem zna(n:X.xe=fun _ _=>False)(B:CallR X (.type T) r)(hd:FnD X.K cl X0 r g)(w:Gl X x)(hm:X.mg x=none)(o:aT x=aa (.type T))(A:YE X cl e f)(hn:autoParam (x ≠ "__name__") AutoP.a1._auto_1)(k:autoParam ((x==("__debug__" : af))=ai) AutoP.a1._auto_1)
  (i:autoParam (ap [e] X.env=(ai,eval e X.env)::ap [] X.env) AutoP.a3._auto_1) (j:autoParam ((aC pos (ap [] X.env)).any (·.1)=ai) AutoP.a3._auto_1):YE X cl (.Call (.Name x p) [e] [] pos) (eY1 g f):=⟨fun pins s σ H Q W I t=>by
 refine bE (zcJ I w hm o ?_ hn k);refine PyProof.Rows.callWith_type1 ?_ i j;rw[i];show wpAny _ _ (spliced ((ai,eval e X.env)::aC pos (ap [] X.env))) _ _ s;refine yct (aA (A.out pins s σ H (fun v c=>∃b m1 d,Wd X.K cl b m1 c/\Rep X.K b c d v/\PQ X.K cl W (g [d] m1).pu b c fun d α' _ H'=>∀v,Rep X.K α' H' d v->Q v H') W I ?_) (fun u s1 ⟨y,c,F,l,b,m1,d,w1,rd,q⟩=>?_) fun _ _ z=>z)
 ·exact ex3 t fun α ρ m E hr h=>tD.use E hr h fun b m1 c d v G D hr1 R C=>⟨b,m1,d,D,R,C⟩
 ·refine ycs ?_;have z:=B pins s1 σ c [y] [u] Q F (.cons l .nil) (hd b m1 c [d] [y] Q w1 (RepL.one rd) (PQ.pu q));exact aA z (fun _ _ a=>a) fun _ _ a=>by rw[n]at a;exact a.elim⟩
end
def ZX(K:ya)(cl:af->ac)(W:XD):ag->Option ac->ac->Hp->Prop:=fun C dd _ H'=>∃c α' m' xs,C = .ref (cl c.cls)/\yai K aF c.cls=aa (aa (.ref (cl c.cls)))/\ztS H' dd xs/\RepL K α' H' c.args xs/\Wd K cl α' m' H'/\∀α2 H2,Ext α' H' α2 H2->Wd K cl α2 m' H2->W c α2 m' H2
variable{σ : L2.St}
section
variable{e:am}{f:EV}{W:XD}{pins:List (ac×av)}{v:ag}{s:ak}
theorem XP.xz(h:XP X cl pins σ W v s):XZ X pins σ (ZX X.K cl W) v s:=by
 obtain⟨e,H',c,α',m',H,I,⟨dd,xs,f,F,d,b⟩,w,a⟩:=h;exact⟨e,_,dd,H',H,I,F,c,α',m',xs,rfl,f,d,b,w,a⟩
theorem XZ.xp(h:XZ X pins σ (fun C dd e H'=>∃H,ZX X.K cl W C dd e H/\Same H H') v s):XP X cl pins σ W v s:=by
 obtain⟨e,C,dd,H',b,I,F,H,⟨c,α',m',xs,f,j,i,g,w,d⟩,S⟩:=h;subst f;have E:=Ext.of_same w S;exact⟨e,H',c,α',m',b,I,⟨dd,xs,j,F,(E.kp w).xdAt i,g.mono w E⟩,w.same S,fun a l m k=>d a l (E.trans m) k⟩
theorem YE.pz(h:YE X cl e f)(W:XD):PZ X e (tD X.K cl W f) (ZX X.K cl W):=fun pins s σ H Q I a=>aA (h.out pins s σ H Q W I a) (fun _ _ z=>z) fun _ _ z=>z.xz
end
variable{n:Nat}
theorem zmb{b w:TI}{g g':TG}{tf t:TT}{te:TE}{f:List V->Hp->Prop}{H:Hp}(o:∀σ H R R',(∀J H',R J H'->R' J H')->b σ H R->w σ H R')(l:∀x σ H Q Q',(∀σ' H',Q σ' H'->Q' σ' H')->g x σ H Q->g' x σ H Q')(k:∀σ H Q,tf σ H Q->t σ H Q)(h:zhE n b g tf te f σ H):zhE n w g' t te f σ H:=by
 refine o σ H _ _ (fun J H' j=>?_) h;obtain⟨W,w0,turn⟩:=j;refine⟨W,w0,fun i m ys H e=>?_⟩;obtain⟨hl,way⟩:=turn i m ys H e;refine⟨hl,way.imp id fun⟨go,Y,Z,d,c,step⟩=>⟨go,Y,Z,d,c,fun x H' y=>?_⟩⟩;exact l x _ H' _ _ (fun a p q=>k a p _ q) (step x H' y)
variable{fa:EV}
section
variable{N0:List af}{e tg it:am}{ifs:List am}{ta:TV}{fr:AV}{gt:GV}{scope:aO}{xs:List af}{clo:List (af×ac)}{L:ac}
theorem zpZ{fo:OI}(v:X.calm=ae)(k:X.xe=fun _ _=>False)(l:X.stack=X.env::X.outer)(B:X.env.frame=aa L)(S:CompOk X N0 scope xs clo)(hi:QIO X cl X0 tg it fo)
  (o:∀C s H fp,QG (X.comp N0 scope xs clo C s H fp) cl X0 tg gt) (t:∀C s H fp,PIf (X.comp N0 scope xs clo C s H fp) ifs (tDT X.K cl X0 ta)) (u:∀C s H fp,YE (X.comp N0 scope xs clo C s H fp) cl e fa)
  (hs:autoParam (∀x,bb it X.env x=pure x) AutoP.a2._auto_1):YE X cl (.ListComp e [⟨tg,it,ifs,0⟩] scope pos) (eFn gL1 (zdd xs.length (oPu fo) (gPu gt) (tPu ta) fa)):=⟨fun pins s σ H Q W I n=>by
 have G:zhE xs.length (tDIO X.K cl W (oPu fo)) (tDG X.K cl W (gPu gt)) (tDT X.K cl W (tPu ta)) (tD X.K cl W fa) (fun ys H'=>∀p,H' p=none->Q (.ref p) (upd H' p (.lst ys))) σ H :=
  ex3 n fun α ρ m w hr h=>zis ⟨α,ρ,m,w,hr,PQ.mono (Ext.refl w) h.bind fun ds b m1 i E c q vs r p g=>PQ.okS c (Same.new g) q _ (zc2 c g r)⟩
 have F:zhE xs.length (tDIO X.K cl X0 fo) (tDG X.K cl X0 gt) (tDT X.K cl X0 ta) (tD X.K cl W fa) (fun ys H'=>∀p,H' p=none->Q (.ref p) (upd H' p (.lst ys))) σ H:=by
  refine zmb (fun σ H R K y h=>ex3 h fun α ρ m w hr h=>⟨α,ρ,m,w,hr,PQ.mono (Ext.refl w) (PQ.pu h) fun ds b m1 i E c q J D=>y _ _ (q J D)⟩) (fun x σ H Q M A h=>?_) (fun σ H Q h=>tDT.pu h) G;obtain⟨α,ρ,m,d,w,hr,rd,h⟩:=h;exact⟨α,ρ,m,d,w,hr,rd,PQ.mono (Ext.refl w) (PQ.pu h) fun j b m1 i E c q f hr1=>A _ _ (q f hr1)⟩
 have z:=zsJ (Z:=ZX X.K cl W) (te:=tD X.K cl W fa) v k l B S hi.out (fun C s H fp=>(o C s H fp).out) t (fun C s H fp=>(u C s H fp).pz W) hs (pos:=pos) pins s σ H Q I F;exact aA z (fun _ _ a=>a) fun _ _ a=>XZ.xp a⟩
end
variable{N:List af}
theorem sco{P:List af}{sc:aO}(a:autoParam (sc.kind = .function) AutoP.a3._auto_1)(b:autoParam (sc.isCoroutine=ai) AutoP.a3._auto_1)(c:autoParam (sc.isGenerator=ai) AutoP.a3._auto_1)(d:autoParam (N.Nodup) AutoP.a6._auto_1)(e:autoParam (N.take P.length=P) AutoP.a3._auto_1)
  (f:autoParam (∀x∈P,sc.names.lookup x=aa .local∨sc.names.lookup x=aa .cell) AutoP.a6._auto_1) (g:autoParam (∀y∈sc.names,y.2 ≠ .free) AutoP.a6._auto_1):FnScope N P sc:=⟨a,b,c,d,e,f,g⟩
theorem qxi{ex:XD}{a b:am}{f:EV}{k:Nat}(hr:Room k X.A)(ha:QE X cl ex a fa)(h:QE X cl ex b f)(hs:autoParam (zkY b) AutoP.a7._auto_1):QE X cl ex (.Subscript a b pos) (eOp ixD fa f) :=
 qe_ix (ix_A (zmP hr)) od_ix ha h hs
theorem qfn{e:am}{es:List am}{fr:AV}{k j:Nat}{g:List D->Sto->Res D}(h:FnX X.prog X.w X.K X.mg X.base cl x k n g)(hr:Room j X.A)
  (ha:QA X cl X0 (e::es) fr) (hn:autoParam (n=(e::es).length) AutoP.a3._auto_1) (c:autoParam (k<=j) AutoP.a1._auto_1) (d:autoParam (Gl X x) AutoP.a3._auto_1) (H:autoParam (∀ρ m ds m1,fr ρ m = .ok ds m1->ds.length=(e::es).length) AutoP.a8._auto_1) (b:autoParam ((x==("__debug__" : af))=ai) AutoP.a1._auto_1) (f:autoParam (ap (e::es) X.env=(ai,eval e X.env)::ap es X.env) AutoP.a3._auto_1) (a:autoParam ((aC pos (ap es X.env)).any (·.1)=ai) AutoP.a3._auto_1) :
  QE X cl X0 (.Call (.Name x p) (e::es) [] pos) (eFn g fr):=qe_fn h hn (hr.mono c) d ha H b f a
variable{f:ac}{K:ya}{mg:af->Option ag}{qual:af}{st:aq}{fd:aJ}{ps:List af}{body:SV}
theorem mkx(P:ar)(w:al)(base:au)(cl:af->ac)(k:Nat)(F:Fun K x qual st f fd)(b:Binds K fd ps [])(m:mg x=aa (.ref f))(S:FnScope N ps (zai st))
  (h:∀(cdv:ag)(A:az)(outer:List yaJ)(s:ak)(H:Hp)(E:XK),Room k (A.deeper (aN qual (zai st) s.heap.objs.size f cdv))->QSs (zkN CX0 P w K mg base N qual (zai st) f cdv A outer s H E).nox cl X0 (zbs st) body):FnX P w K mg base cl x (k+1) ps.length (zaZ N.length body):=FnX.mk' F b m S rfl h
theorem mkm(P:ar)(w:al)(base:au)(cl:af->ac)(k:Nat){c:af}(F:Fun K x qual st f fd)(b:Binds K fd ps [])(m:Meth K (cl c) x f)(S:FnScope N ps (zai st))
  (h:∀(cdv:ag)(A:az)(outer:List yaJ)(s:ak)(H:Hp)(E:XK),Room k (A.deeper (aN qual (zai st) s.heap.objs.size f cdv))->QSs (zkN CX0 P w K mg base N qual (zai st) f cdv A outer s H E).nox cl X0 (zbs st) body):FnM P w K mg base cl c x (k+1) ps.length (zaZ N.length body):=FnM.mk' F b m S rfl h
theorem _root_.L2.Fun.bindA(F:Fun K x qual st f fd)
  (h:∀(kV doc pm:ag)(an:Option ac)(cdv ct:ag)(us:List ag),us.length=ps.length->bindArgs (ybc x qual (zfc st) (zbs st) (zai st) .none kV doc pm an cdv ct) ⟨us,[]⟩=pure (ps.zip us):=by intro _ _ _ _ _ _ us hl;first | (obtain rfl:=us0 hl;rfl) | (obtain⟨_,rfl⟩:=us1 hl;rfl) | (obtain⟨_,_,rfl⟩:=us2 hl;rfl) | (obtain⟨_,_,_,rfl⟩:=us3 hl;rfl) | (obtain⟨_,_,_,_,rfl⟩:=us4 hl;rfl) | (obtain⟨_,_,_,_,_,rfl⟩:=us5 hl;rfl) | (obtain⟨_,_,_,_,_,_,rfl⟩:=us6 hl;rfl)):Binds K fd ps []:=F.binds h
end MD
namespace Mth
end Mth
namespace MD
open PySem PySem.Spec PyProof.Rows L2
variable{K:ya}
section
variable{X:Cx}{cl:af->ac}{ex:XD}
end
theorem zlq{a:ac}{o:av}:∀{K:ya},K.lookup a=aa o->(a,o)∈K
 |[],h=>nomatch h| (b,u)::K,h=>by
  rw[yaP]at h;cases H:a==b with
  |true=>
   rw[H]at h;cases h;rw[eq_of_beq H];exact yaN
  |false=>
   rw[H]at h;exact yY _ (zlq h)
theorem Kof_in(n:Nat)(h:au):(Kof n h).In h:=fun a o e=>by
 obtain⟨b,_,c⟩:=ycl.mp (zlq e);obtain⟨u,H,E⟩:=yag.mp c;cases E;exact H
variable{x:af}
theorem fun_of{f:ac}{q:af}{st:aq}(h:fnV K f=(aa (x,q,zfc st,zbs st,zai st),ae)):∃fd,Fun K x q st f fd:=by
 unfold fnV at h;split at h
 ·rename_i oc od X Q ps b sc G D kV doc pm an C ct bl sl hl;simp only[yc9,yay,yL]at h;obtain⟨⟨rfl,rfl,rfl,rfl,rfl⟩,⟨⟨d,c⟩,H⟩,a⟩:=h;have g:=ydY d;have E:=ydY c;subst g E;have e:D = .none:=by
   unfold zne at H;split at H
   ·rfl
   ·cases H
  subst e;refine⟨_,⟨⟨oc,od,kV,doc,pm,an,C,ct,sl,rfl,hl,a⟩,?_⟩⟩;unfold yaD;dsimp only;rw[hl]
 ·cases h
variable{τ υ : Type}
theorem zik{f : τ -> υ}{l:List τ}{e:List υ}(h:l.map f=e)(i:Nat){x : τ}{v : υ}(a:l[i]?=aa x)(H:e[i]?=aa v):f x=v:=by
 rw[<- h,yI,a]at H;exact yP H
variable{α β γ : Type}
theorem both{r:Option α}{f:α -> β}{g:α -> γ}{a : β}{b : γ}(h:r.map f=aa a)(H:r.map g=aa b):r.map (fun s=>(f s,g s))=aa (a,b):=by
 cases r with
 |none=>cases h|some s=>
  simp only[yaz,yay]at h H ⊢;rw[h,H]
theorem zoQ{r:Option α}{g:α -> τ -> υ}{l1 l2:List τ}{E e:List υ}(h:r.map (fun s=>l1.map (g s))=aa E)(H:r.map (fun s=>l2.map (g s))=aa e):r.map (fun s=>(l1++l2).map (g s))=aa (E++e):=by
 cases r with
 |none=>cases h|some s=>
  simp only[yaz,yay]at h H ⊢;rw[yaj,h,H]
variable{B C:Type}{d:D}
theorem both4{A D:Type}{r:Option α}{f1:α -> A}{f2:α -> B}{f3:α -> C}{f4:α -> D}{a:A}{b:B}{c:C}{d:D}(H:r.map f1=aa a)(h:r.map (fun s=>(f2 s,f4 s))=aa (b,d))(e:r.map f3=aa c):r.map (fun s=>(f1 s,f2 s,f3 s,f4 s))=aa (a,b,c,d):=by
 cases r with
 |none=>cases H|some s=>
  simp only[yaz,yay,yc9]at H h e ⊢;exact⟨H,h.1,e,h.2⟩
theorem parts4{D:Type}{r:Option α}{f:α -> Seen×B×C×D}{g:Seen×B×C×D}(k:Nat)(ha:r.map (fun s=>(f s).1.defs.take k)=aa (g.1.defs.take k))(j:r.map (fun s=>(f s).1.defs.drop k)=aa (g.1.defs.drop k))(a:r.map (fun s=>(f s).1.ownsOk)=aa g.1.ownsOk)(hn:r.map (fun s=>(f s).1.names)=aa g.1.names)(h:r.map (fun s=>((f s).1.globalsOk,(f s).1.builtinsOk,(f s).1.noLimit,(f s).1.gens))=aa (g.1.globalsOk,g.1.builtinsOk,g.1.noLimit,g.1.gens))(H:r.map (fun s=>(f s).2.1)=aa g.2.1)(i:r.map (fun s=>(f s).2.2.1)=aa g.2.2.1)(e:r.map (fun s=>(f s).2.2.2)=aa g.2.2.2):r.map f=aa g:=by
 cases r with
 |none=>cases h|some s=>
  simp only[yaz,yay,yc9]at ha j a hn h H i e ⊢;have E:(f s).1.defs=g.1.defs:=by rw[<- yda k (f s).1.defs,ha,j,yda]
  generalize f s=x at *;obtain⟨⟨a1,a2,a3,a4,a5,a6,a7⟩,b,c,d⟩:=x;obtain⟨⟨b1,b2,b3,b4,n,m,b7⟩,o,l,d'⟩:=g;simp only at E a hn h H i e;obtain⟨rfl,rfl,rfl,rfl⟩:=h;subst E a hn H i e;rfl
theorem walk_ofY{l:ycL}{n k N:Nat}{q:ar}{loose:List af}{XP:(af->Option ag)->au->Prop}{d:DefRec}{CX:CXT}{sp:ya->Sp}{Yf:ya->α}{E:α}(hn:l.most=aa n)(p:n<=sizeLine)(z:d.params.defaults=[])(hr:Room k bg)(F:∀(K:ya),Yf K=E->∀(w:al)(mg:af->Option ag)(D:ac)(h:au),K.In h->h.Ns aF mg->mg d.name=aa (.ref D)->∃fd:aJ,(∀(s:ak)(u:ag),bD s fd ⟨[u],[]⟩ [(x,u)])/\∀base:au,K.In base->base.Ns aF mg->FnOk l.prog w K mg base CX k D fd [x] (sp K))(j:∀(K:ya)(H:Hp)(a:ac)(ns:List Int),ns.length<=n->Only H->SqL K H a (ns.map V.int)->sp K [.ref a] H (fun v _=>v = .bl ae) fun _ _ _=>False)(B:∀(H:Hp)(s:ak)(e:ag)(s':ak),CX [] H s (fun _ _ _=>False) e s'->False) : PySem.W.WalkX q loose XP (fun s=>Yf (Kof N s.heap)) (fun _=>E) l.row.toRowW d [] (fun f vs=>ybS f vs):=by
 intro w s₀ S mg mb G y a o pm P doc O kV I hd A M r J args b C L c g m i t;have Q:(Kof N s₀.heap).In S.heap:=(Kof_in N s₀.heap).keeps L.keeps;exact L2.walk_ofK (YP:=fun w h=>(Kof N s₀.heap).In h) (K:=fun _=>Kof N s₀.heap) hn p z hr (fun w h Y=>Y) (F (Kof N s₀.heap) y) j B w s₀ S mg mb G Q a o pm P doc O kV I hd A M r J args b C c g m i t
def zo8:SV:=by walk_at "#l{zvk{{u={|s't40w}uC(wfxuF{}xv/{~sw|!tHw}tfxxu=xyxz*t7"
def zbW:List D->Sto->Res D:=zaZ 3 zo8
def zjh:SV:=by walk_at "#0sQwxf3)"
def zcx:List D->Sto->Res D:=zaZ 1 zjh
def zjm:SV:=by walk_at "#:3t)-e-eu^uctVsxt)-e.eme=e[tVtQ8t)vRs0ew;ex{s;tqx|t~savlLotep*vlLx|otk*Wotk^s0WvoZsFtks!^w;fE*^=(v0s<s9f*)sK%voZ<|#q$tQ8$sH*Uw<<x}X_Ns0Uv2IxmvmuA^v2s#v,ev-s;tHta(|$q$tQ8Nw<Nv-Nv,%sH*%"
def zc7:List D->Sto->Res D:=zaZ 17 zjm
def zhh:SV:=by walk_at "#:3t)-eFetuu%udx~$sH)tXt3U>uZ8t)vRCe.ems;sisys4EW(w9vmw3ufsKs#=e[s;t6wvN=N[2sX%vgs4E*(w9xDuAufs&=tHsE=uasXtY%"
def zdA:List D->Sto->Res D:=zaZ 10 zhh
def zhj:SV:=by walk_at "#t3sJt[QtXueu'_h>u#vdskG1G.Gtit]hC<|%s=$u_sy?x}_tYsWh.susc7u&s_n(|&s=%Mt}ZsiP?s`sWuXvLskG7Gs0Gtit]2N.2ueskslG1Gtit]hm<sPG|'s4sKvLskvcGy!tR92U=:vis<vh>sZuRGy!v`-U[<s`NmN=tZskslvcG|(t]2N[Us0vgXskvcGv2vhtiv`1sZuCt5Ns0%"
def zdC:List D->Sto->Res D:=zaZ 13 zhj
def zhk:SV:=by walk_at "#<|)tTs#tu1s;t3sJt[u'Xh7<wXFx>u'QhCu}(|*s=s,sW%vZsxs&>siPs4(x~uXtUQ2(xes4wVu[sy2IuCt5"
def zdE:List D->Sto->Res D:=zaZ 7 zhk
def zcQ:SV:=by walk_at "#:s>g:s>swl|+v3v4vrv5v6v7v8v9v:v;v<v4vkw~y#s=sj-s_PgsFv1*s>08vbu}sQ|,v3v4vrv5v6v7v8v9v:v;v<y$v9v7vrv;v8v:v<v5*0Vy%s5tO$Vy%$Vw=%t`tjsQ|-v3v4vrv5v6v7v8v9v:v;v<v6*sQ|.v3v4vrv5v6v7v8v9v:v;v<*%"
def zbV:List D->Sto->Res D:=zaZ 5 zcQ
def zo5:SV:=by walk_at "#<|/s'vUt[s4u$tU$tI3uFspB-h9<|0Xsj<|1XQuX(wdXG=h-<|2XQq?wdXG>h7<|3s,qU>sFsatUt5s!sE7)s_Vw=s&>Zt[t8vjt(vn(|4?|5s,t5tY%voZt(ov.(|6w~s,?v&2v[%vos5yz|7"
def zlD:List D->Sto->Res D:=zaZ 8 zo5
section
def zoO(f:α -> Sto->Res β)(g : β -> Sto->Res γ):α -> Sto->Res γ := fun a m=>(f a m).bind g
theorem then_at(f:α -> Sto->Res β)(g : β -> Sto->Res γ)(a:α)(m:Sto):zoO f g a m=(f a m).bind g:=rfl
theorem bind_then(r:Res α)(f:α -> Sto->Res β)(g : β -> Sto->Res γ):(r.bind f).bind g=r.bind (zoO f g):=Res.bind_assoc r f g
end
section
variable(m:Sto)(ρ : En)(d:D)(f g:SV)(fa fb fc:EV)(fr:AV)(c t:TV)(h:GV)
def kSeq(g:SV):Fl->Sto->Res Fl:=fun fl m1=>match fl with
 |.nx a=>g a m1|fl=>.ok fl m1
theorem seq_at:zat f g ρ m=(f ρ m).bind (kSeq g):=rfl
theorem seq_nx:kSeq g (.nx ρ) m=g ρ m:=rfl
theorem seq_rt:kSeq g (.rt d) m = .ok (.rt d) m:=rfl
theorem nil_at:zbG ρ m = .ok (.nx ρ) m:=rfl
def kRt:D->Sto->Res Fl:=fun d m=>.ok (.rt d) m
theorem ret_at:zaJ fa ρ m=(fa ρ m).bind kRt:=rfl
theorem rt_at:kRt d m = .ok (.rt d) m:=rfl
theorem retN_at:sRetN ρ m = .ok (.rt .non) m:=rfl
def kDrop(ρ : En):D->Sto->Res Fl:=fun _ m=>.ok (.nx ρ) m
theorem drop_at:zcg fa ρ m=(fa ρ m).bind (kDrop ρ):=rfl
theorem kdrop_at:kDrop ρ d m = .ok (.nx ρ) m:=rfl
def kIf(f g:SV)(ρ : En):Bool->Sto->Res Fl:=fun b m=>if b=ae then f ρ m else g ρ m
theorem if_at:sIf c f g ρ m=(c ρ m).bind (kIf f g ρ):=rfl
theorem kif_at(b:Bool):kIf f g ρ b m=if b=ae then f ρ m else g ρ m:=rfl
def kAsg(h:GV)(ρ : En):D->Sto->Res Fl:=fun d m1=>(h d ρ m1).bind fun a m2=>.ok (.nx a) m2
def kNx:En->Sto->Res Fl:=fun ρ m=>.ok (.nx ρ) m
theorem asg_at:zaC fa h ρ m=(fa ρ m).bind (kAsg h ρ):=rfl
theorem kasg_at:kAsg h ρ d m=(h d ρ m).bind kNx:=rfl
theorem nx_at:kNx ρ m = .ok (.nx ρ) m:=rfl
theorem gN_at(i:Nat):gN i d ρ m = .ok (ρ.set i (aa d)) m:=rfl
theorem gs_nil:zbn [] ρ m = .ok ρ m:=rfl
theorem gs_cons(g:List D->En->Sto->Res En)(r:List D):zas h g (d::r) ρ m=(h d ρ m).bind (g r):=rfl
theorem gT_at(n:Nat)(g:List D->En->Sto->Res En)(ds:List D):gT n g (.tup ds) ρ m=if ds.length=n then g ds ρ m else .bad:=rfl
def kPar(i j:Nat)(ρ : En):List D->Sto->Res Fl:=fun ds m1=>match ds with
 |[x,y]=>.ok (.nx ((ρ.set i (aa x)).set j (aa y))) m1|_=>.bad
theorem par_at(i j:Nat):sPar i j fr ρ m=(fr ρ m).bind (kPar i j ρ):=rfl
theorem kpar_at(i j:Nat)(x y:D):kPar i j ρ [x,y] m = .ok (.nx ((ρ.set i (aa x)).set j (aa y))) m:=rfl
def kFor(h:GV)(f:SV)(ρ : En):List D->Sto->Res Fl:=fun ds m1=>zet h f ds ρ m1
theorem for_at:zfx fr h f ρ m=(fr ρ m).bind (kFor h f ρ):=rfl
theorem kfor_at(ds:List D):kFor h f ρ ds m=zet h f ds ρ m:=rfl
theorem eC_at:eC d ρ m = .ok d m:=rfl
def kOp(g:D->D->Sto->Res D)(f:EV)(ρ : En):D->Sto->Res D:=fun x m1=>(f ρ m1).bind (g x)
theorem op_at(g:D->D->Sto->Res D):eOp g fa fb ρ m=(fa ρ m).bind (kOp g fb ρ):=rfl
theorem kop_at(g:D->D->Sto->Res D):kOp g fb ρ d m=(fb ρ m).bind (g d):=rfl
theorem un_at(g:D->Sto->Res D):eUn g fa ρ m=(fa ρ m).bind g:=rfl
theorem fn_at(g:List D->Sto->Res D):eFn g fr ρ m=(fr ρ m).bind g:=rfl
def kIfE(f g:EV)(ρ : En):Bool->Sto->Res D:=fun b m=>if b=ae then f ρ m else g ρ m
theorem ife_at:eIf c fa fb ρ m=(c ρ m).bind (kIfE fa fb ρ):=rfl
theorem kife_at(b:Bool):kIfE fa fb ρ b m=if b=ae then fa ρ m else fb ρ m:=rfl
theorem aNil_at:zak ρ m = .ok [] m:=rfl
def kCons(fr:AV)(ρ : En):D->Sto->Res (List D):=fun x m1=>(fr ρ m1).bind fun xs m2=>.ok (x::xs) m2
def zrO(x:D):List D->Sto->Res (List D):=fun xs m2=>.ok (x::xs) m2
theorem aCons_at:zac fa fr ρ m=(fa ρ m).bind (kCons fr ρ):=rfl
theorem kcons_at:kCons fr ρ d m=(fr ρ m).bind (zrO d):=rfl
theorem kcons2_at(xs:List D):zrO d xs m = .ok (d::xs) m:=rfl
theorem asB_at(b:Bool):asB (.bl b) m = .ok b m:=rfl
theorem tV_at:tV fa ρ m=(fa ρ m).bind asB:=rfl
def kAndT(t:TV)(ρ : En):Bool->Sto->Res Bool:=fun b m=>if b=ae then t ρ m else .ok ai m
theorem andT_at:zgM c t ρ m=(c ρ m).bind (kAndT t ρ):=rfl
theorem kandT_at(b:Bool):kAndT t ρ b m=if b=ae then t ρ m else .ok ai m:=rfl
def kOrT(t:TV)(ρ : En):Bool->Sto->Res Bool:=fun b m=>if b=ae then .ok ae m else t ρ m
theorem orT_at:tOrM c t ρ m=(c ρ m).bind (kOrT t ρ):=rfl
theorem korT_at(b:Bool):kOrT t ρ b m=if b=ae then .ok ae m else t ρ m:=rfl
def kNotT:Bool->Sto->Res Bool:=fun c m1=>.ok (!c) m1
theorem notT_at:zhD c ρ m=(c ρ m).bind kNotT:=rfl
theorem knotT_at(b:Bool):kNotT b m = .ok (!b) m:=rfl
def kAnd(f:EV)(ρ : En):D->Sto->Res D:=fun c m1=>(asB c m1).bind fun c m1=>if c=ae then f ρ m1 else .ok (.bl ai) m1
theorem and_at:zm4 fa fb ρ m=(fa ρ m).bind (kAnd fb ρ):=rfl
theorem kand_at(b:Bool):kAnd fb ρ (.bl b) m=if b=ae then fb ρ m else .ok (.bl ai) m:=rfl
def kOr(f:EV)(ρ : En):D->Sto->Res D:=fun c m1=>(asB c m1).bind fun c m1=>if c=ae then .ok (.bl ae) m1 else f ρ m1
theorem or_at:eOr fa fb ρ m=(fa ρ m).bind (kOr fb ρ):=rfl
theorem kor_at(b:Bool):kOr fb ρ (.bl b) m=if b=ae then .ok (.bl ae) m else fb ρ m:=rfl
def kNot:D->Sto->Res D:=fun c m1=>(asB c m1).bind fun c m1=>.ok (.bl (!c)) m1
theorem not_at:eNot fa ρ m=(fa ρ m).bind kNot:=rfl
theorem knot_at(b:Bool):kNot (.bl b) m = .ok (.bl (!b)) m:=rfl
theorem aIt_at:aIt fa ρ m=(fa ρ m).bind zkW:=rfl
theorem sq_t(ds:List D):zkW (.tup ds) m = .ok ds m:=rfl
theorem sq_l(ds:List D):zkW (.lst ds) m = .ok ds m:=rfl
theorem sq_s(z:af):zkW (.str z) m = .ok (zfu z) m:=rfl
theorem sq_c(ds:List D):zkW (.scr ds) m = .ok ds m:=rfl
theorem rngA_at(g:List D->Sto->Res (List D)):zhv g fr ρ m=(fr ρ m).bind g:=rfl
def ztl:D->Sto->Res (List D):=fun d m1=>(asSq2 d m1).bind fun ds m2=>.ok (zcF 0 ds) m2
theorem enumA_at:zfB fa ρ m=(fa ρ m).bind ztl:=rfl
theorem kenum_t(ds:List D):ztl (.tup ds) m = .ok (zcF 0 ds) m:=rfl
theorem kenum_l(ds:List D):ztl (.lst ds) m = .ok (zcF 0 ds) m:=rfl
def kZip(f:EV)(ρ : En):D->Sto->Res (List D):=fun x m1=>(f ρ m1).bind (zm7 x)
theorem zipA_at:zr6 fa fb ρ m=(fa ρ m).bind (kZip fb ρ):=rfl
theorem kzip_at:kZip fb ρ d m=(fb ρ m).bind (zm7 d):=rfl
def kZip3(F f:EV)(ρ : En):D->Sto->Res (List D):=fun x m1=>(F ρ m1).bind fun y m2=>(f ρ m2).bind (zip3 x y)
def kZip4(x:D)(f:EV)(ρ : En):D->Sto->Res (List D):=fun y m1=>(f ρ m1).bind (zip3 x y)
theorem zip3A_at:ztR fa fb fc ρ m=(fa ρ m).bind (kZip3 fb fc ρ):=rfl
theorem kzip3_at:kZip3 fb fc ρ d m=(fb ρ m).bind (kZip4 d fc ρ):=rfl
theorem kzip4_at(x:D):kZip4 x fc ρ d m=(fc ρ m).bind (zip3 x d):=rfl
theorem oNone_at:ziZ ρ m = .ok none m:=rfl
def kSome:D->Sto->Res (Option Int):=fun d m1=>match d with
 |.int i=>.ok (aa i) m1|_=>.bad
theorem oSome_at:zfz fa ρ m=(fa ρ m).bind kSome:=rfl
theorem ksome_at(i:Int):kSome (.int i) m = .ok (aa i) m:=rfl
def kSl1(lo hi:OV)(ρ : En):D->Sto->Res D:=fun x m1=>(lo ρ m1).bind fun l m2=>(hi ρ m2).bind (slD x l)
def kSl2(hi:OV)(ρ : En)(x:D):Option Int->Sto->Res D:=fun l m2=>(hi ρ m2).bind (slD x l)
theorem slD_at(lo hi:OV):eSl fa lo hi ρ m=(fa ρ m).bind (kSl1 lo hi ρ):=rfl
theorem ksl1_at(lo hi:OV):kSl1 lo hi ρ d m=(lo ρ m).bind (kSl2 hi ρ d):=rfl
theorem ksl2_at(hi:OV)(l:Option Int):kSl2 hi ρ d l m=(hi ρ m).bind (slD d l):=rfl
def kSlA1(lo hi:OV)(ρ : En):D->Sto->Res D:=fun x m1=>(lo ρ m1).bind fun l m2=>(hi ρ m2).bind (slA x l)
def kSlA2(hi:OV)(ρ : En)(x:D):Option Int->Sto->Res D:=fun l m2=>(hi ρ m2).bind (slA x l)
theorem slA_at(lo hi:OV):eSlA fa lo hi ρ m=(fa ρ m).bind (kSlA1 lo hi ρ):=rfl
theorem kslA1_at(lo hi:OV):kSlA1 lo hi ρ d m=(lo ρ m).bind (kSlA2 hi ρ d):=rfl
theorem kslA2_at(hi:OV)(l:Option Int):kSlA2 hi ρ d l m=(hi ρ m).bind (slA d l):=rfl
def kMeth(ty:D->Sto->Bool)(g:D->List D->Sto->Res D)(fr:AV)(ρ : En):D->Sto->Res D:=fun o m1=>if ty o m1=ae then (fr ρ m1).bind (g o) else .bad
theorem meth_at(ty:D->Sto->Bool)(g:D->List D->Sto->Res D):zb2 ty g fa fr ρ m=(fa ρ m).bind (kMeth ty g fr ρ):=rfl
theorem kmeth_at(ty:D->Sto->Bool)(g:D->List D->Sto->Res D):kMeth ty g fr ρ d m=if ty d m=ae then (fr ρ m).bind (g d) else .bad:=rfl
theorem isStr_at(z:af):zq0 (.str z) m=ae:=rfl
theorem isTup_at(ds:List D):zqZ (.tup ds) m=ae:=rfl
theorem fin_nx:zjw (.nx ρ) m = .ok .non m:=rfl
theorem fin_rt:zjw (.rt d) m = .ok d m:=rfl
theorem run_at(n:Nat)(ds:List D):zaZ n f ds m=(f (ds.map aa++yp (n-ds.length) none) m).bind zjw:=rfl
def kCh3(g':D->D->Sto->Res D)(f:EV)(ρ : En)(y:D):D->Sto->Res D:=fun z m3=>(asB z m3).bind fun k m3=>if k=ae then (f ρ m3).bind (g' y) else .ok (.bl ai) m3
def kCh2(g g':D->D->Sto->Res D)(f:EV)(ρ : En)(x:D):D->Sto->Res D:=fun y m2=>(g x y m2).bind (kCh3 g' f ρ y)
def kCh1(g g':D->D->Sto->Res D)(F f:EV)(ρ : En):D->Sto->Res D:=fun x m1=>(F ρ m1).bind (kCh2 g g' f ρ x)
theorem chain_at(g g':D->D->Sto->Res D):zjB g g' fa fb fc ρ m=(fa ρ m).bind (kCh1 g g' fb fc ρ):=rfl
theorem kch1_at(g g':D->D->Sto->Res D):kCh1 g g' fb fc ρ d m=(fb ρ m).bind (kCh2 g g' fc ρ d):=rfl
theorem kch2_at(g g':D->D->Sto->Res D)(x:D):kCh2 g g' fc ρ x d m=(g x d m).bind (kCh3 g' fc ρ d):=rfl
theorem kch3_at(g':D->D->Sto->Res D)(y:D)(b:Bool):kCh3 g' fc ρ y (.bl b) m=if b=ae then (fc ρ m).bind (g' y) else .ok (.bl ai) m:=rfl
def kPutA(fo f:EV)(ρ : En):D->Sto->Res Fl:=fun v m1=>(fo ρ m1).bind fun x m2=>(f ρ m2).bind fun y m3=>(ziL x y v m3).bind fun _ m=>.ok (.nx ρ) m
def kPutB(f:EV)(ρ : En)(v:D):D->Sto->Res Fl:=fun x m2=>(f ρ m2).bind fun y m3=>(ziL x y v m3).bind fun _ m=>.ok (.nx ρ) m
def kPutC(ρ : En)(v x:D):D->Sto->Res Fl:=fun y m3=>(ziL x y v m3).bind fun _ m=>.ok (.nx ρ) m
def kPutE(ρ : En):Unit->Sto->Res Fl:=fun _ m=>.ok (.nx ρ) m
theorem put_at:ziz fa fb fc ρ m=(fc ρ m).bind (kPutA fa fb ρ):=rfl
theorem kputA_at:kPutA fa fb ρ d m=(fa ρ m).bind (kPutB fb ρ d):=rfl
theorem kputB_at(x:D):kPutB fb ρ d x m=(fb ρ m).bind (kPutC ρ d x):=rfl
theorem kputC_at(x y:D):kPutC ρ d x y m=(ziL x y d m).bind (kPutE ρ):=rfl
theorem kputE_at:kPutE ρ () m = .ok (.nx ρ) m:=rfl
theorem var_0:zag 0 (aa d::ρ) m = .ok d m:=rfl
theorem var_S(i:Nat)(x:Option D):zag (i+1) (x::ρ) m=zag i ρ m:=rfl
end
theorem bind_ok(a:α)(m:Sto)(k:α -> Sto->Res β):(Res.ok a m).bind k=k a m:=rfl
def Run(r:Res α)(P:α -> Sto->Prop):Prop:=∃a m,r = .ok a m/\P a m
variable{Q:α -> Sto->Prop}
theorem Run.bind{r:Res α}{k:α -> Sto->Res β}{P : β -> Sto->Prop}(h:Run r Q)(H:∀a m,Q a m->Run (k a m) P):Run (r.bind k) P:=by
 obtain⟨a,m,rfl,q⟩:=h;exact H a m q
variable{m:Sto}{P:α -> Sto->Prop}
theorem Run.ok{a:α}(h:P a m):Run (.ok a m) P:=⟨a,m,rfl,h⟩
theorem Run.mono{r:Res α}(h:Run r P)(k:∀a m,P a m->Q a m):Run r Q:=by
 obtain⟨a,m,e,p⟩:=h;exact⟨a,m,e,k a m p⟩
theorem zaN{g:GV}{b:SV}(I:Nat->En->Sto->Prop):∀(ds:List D)(k:Nat){ρ : En}{m:Sto},I k ρ m->(∀i d ρ m,ds[i]?=aa d->I (k+i) ρ m->Run ((g d ρ m).bind b) fun f m2=>∃a,f = .nx a/\I (k+i+1) a m2) →
  Run (zet g b ds ρ m) fun f m'=>∃ρ',f = .nx ρ'/\I (k+ds.length) ρ' m'
 |[],k,ρ,m,h,_=>⟨_,m,rfl,ρ,rfl,h⟩|d::r,k,ρ,m,h,st=>by
  obtain⟨_,m2,e2,a,rfl,h2⟩:=st 0 d ρ m rfl h;obtain⟨_,m',e,ρ',rfl,H⟩:=zaN I r (k+1) h2 fun i d ρ m hd hi=>by
   have:=st (i+1) d ρ m (by simpa using hd) (by rw[show k+(i+1)=k+1+i by omega];exact hi);rw[show k+(i+1)+1=k+1+i+1 by omega]at this;exact this
  refine⟨_,m',?_,ρ',rfl,by rw[yx,show k+(r.length+1)=k+1+r.length by omega];exact H⟩;rw[zet,<- Res.bind_assoc,e2,bind_ok];exact e
theorem zlU{g:GV}{el:EV}{ρ : En}(I:Nat->Sto->Prop)(P:Nat->D->D->Prop):∀(ds:List D)(k:Nat){m:Sto},I k m->(∀i d m,ds[i]?=aa d->I (k+i) m->Run ((g d ρ m).bind el) fun x m3=>P (k+i) d x/\I (k+i+1) m3) →
  Run (zej g za7 el ρ ds m) fun xs m'=>xs.length=ds.length/\(∀i d x,ds[i]?=aa d->xs[i]?=aa x->P (k+i) d x)/\I (k+ds.length) m'
 |[],k,m,h,_=>⟨[],m,rfl,rfl,fun i d x e=>by simp at e,h⟩|d::r,k,m,h,st=>by
  obtain⟨x,m3,e3,b,f⟩:=st 0 d m rfl h;obtain⟨xs,m',E,hl,a,c⟩:=zlU I P r (k+1) f fun i d m hd hi=>by
   have:=st (i+1) d m (by simpa using hd) (by rw[show k+(i+1)=k+1+i by omega];exact hi);rw[show k+(i+1)+1=k+1+i+1 by omega,show k+(i+1)=k+1+i by omega]at this;exact this
  refine⟨x::xs,m',?_,by rw[yx,yx,hl],fun i d' X hd H=>?_,by rw[yx,show k+(r.length+1)=k+1+r.length by(clear hl;omega)];exact c⟩
  ·have e:zej g za7 el ρ (d::r) m=((g d ρ m).bind el).bind fun x m3=>(zej g za7 el ρ r m3).bind fun xs M=>.ok (x::xs) M:=by
    rw[zej,Res.bind_assoc];rfl
   rw[e,e3,bind_ok,E,bind_ok]
  ·cases i with
   |zero=>simp at hd H;subst hd H;exact b|succ i=>
    have:=a i d' X (by simpa using hd) (by simpa using H);rw[show k+(i+1)=k+1+i by(clear hl;omega)];exact this
theorem zlV{g:GV}{el:EV}{ρ : En}{m:Sto}(f:D->D):∀(ds:List D),(∀d∈ds,∃a,g d ρ m = .ok a m/\el a m = .ok (f d) m)->zej g za7 el ρ ds m = .ok (ds.map f) m
 |[],_=>rfl|d::r,h=>by
  obtain⟨a,e1,e2⟩:=h d (by simp);rw[zej,e1,bind_ok];show (Res.ok ae m).bind _=_;rw[bind_ok,if_pos rfl,e2,bind_ok,zlV f r fun d hd=>h d (yY _ hd),bind_ok];rfl
theorem zdN:∀ns:List Int,pyL (ns.map D.int)=ns.map PyData.int
 |[]=>by simp[pyL]|a::r=>by simp[pyL,py,zdN r]
theorem zdM:∀ns:List Int,pyOkL (ns.map D.int)=ae
 |[]=>by simp[pyOkL]|a::r=>by simp[pyOkL,zf3,zdM r]
theorem zfJ:∀ns:List Int,PyData.canLayAll0 (ns.map PyData.int)=ae
 |[]=>by simp[PyData.canLayAll0]|a::r=>by simp[PyData.canLayAll0,PyData.canLay0,zfJ r]
theorem zif:∀ns:List Int,PyData.depthAll (ns.map PyData.int)=0
 |[]=>by simp[PyData.depthAll]|a::r=>by simp[PyData.depthAll,PyData.depth,zif r]
theorem zie:∀ns ms:List Int,PyData.eqvAll (ns.map PyData.int) (ms.map PyData.int)=decide (ns=ms)
 |[],[]=>by simp[PyData.eqvAll]|[],_::_=>by simp[PyData.eqvAll]|_::_,[]=>by simp[PyData.eqvAll]|a::r,b::t=>by
  simp only[yy,PyData.eqvAll,PyData.eqv,zie r t];by_cases h:a=b <;> by_cases h':r=t <;> simp[h,h']
theorem zlQ(ns:List Int):zfI (.lst (ns.map D.int))=ae:=by
 simp[zfI,zf3,py,zdM,zdN,SeqAt.shaped,PyData.canLay0,zfJ,PyData.depth,zif]
theorem zlP(ns:List Int):zfI (.tup (ns.map D.int))=ae:=by
 simp[zfI,zf3,py,zdM,zdN,SeqAt.shaped,PyData.canLay0,zfJ,PyData.depth,zif]
theorem ztG(ns m:List Int):eqB (.lst (ns.map D.int)) (.lst (m.map D.int))=aa (decide (ns=m)):=by
 show (if zfI (.lst (ns.map D.int))&&zfI (.lst (m.map D.int)) then aa (PyData.eqv (py (.lst (ns.map D.int))) (py (.lst (m.map D.int)))) else none)=_;rw[zlQ,zlQ];simp[py,PyData.eqv,zdN,zie]
theorem zph(ns m:List Int):eqB (.tup (ns.map D.int)) (.tup (m.map D.int))=aa (decide (ns=m)):=by
 show (if zfI (.tup (ns.map D.int))&&zfI (.tup (m.map D.int)) then aa (PyData.eqv (py (.tup (ns.map D.int))) (py (.tup (m.map D.int)))) else none)=_;rw[zlP,zlP];simp[py,PyData.eqv,zdN,zie]
def ziM(q:Nat)(left seed turn:Int):List (L2.Key×D):=[(yZ "own", .ob q),(yZ "left", .int left),(yZ "seed", .int seed),(yZ "turn", .int turn)]
structure Fr(p q:Nat)(m m':Sto):Prop where
 len:m.length<=m'.length
 at':∀j,j<m.length->j≠p->j≠q->m'[j]?=m[j]?
variable{p q:Nat}
theorem Fr.refl:Fr p q m m:=⟨yb _,fun _ _ _ _=>rfl⟩
theorem Fr.trans{a b c:Sto}(h:Fr p q a b)(k:Fr p q b c):Fr p q a c:=⟨yM h.len k.len,fun j e d H=>(k.at' j (yF e h.len) d H).trans (h.at' j e d H)⟩
structure PotAt(m0:Sto)(p q:Nat)(c:Nat)(m:Sto):Prop where
 ex:∃(own:List Int)(left seed turn:Int),m[p]?=aa (.dct (ziM q left seed turn))/\m[q]?=aa (.lst (own.map D.int))/\p≠q/\(∀a∈own,0<=a)/\0<=left/\0<=seed/\seed<2^62/\0<=turn/\turn<=c
 fr:Fr p q m0 m
variable{c:Nat}{m0:Sto}{c':Nat}
theorem PotAt.more(h:PotAt m0 p q c m)(k:c<=c'):PotAt m0 p q c' m:=by
 obtain⟨own,l,s,t,i,g,e,f,d,b,a,H,j⟩:=h.ex;exact⟨⟨own,l,s,t,i,g,e,f,d,b,a,H,by(clear H a b d e;omega)⟩,h.fr⟩
theorem PotAt.re(h:PotAt m0 p q c m):PotAt m p q c m:=⟨h.ex,Fr.refl⟩
theorem znd(q:Nat)(l s t:Int):zjR (ziM q l s t) (.inr "own")=aa (.ob q):=rfl
theorem zfC(q:Nat)(l s t:Int):zjR (ziM q l s t) (.inr "left")=aa (.int l):=rfl
theorem zp3(q:Nat)(l s t:Int):zjR (ziM q l s t) (.inr "seed")=aa (.int s):=rfl
theorem zk6(q:Nat)(l s t:Int):zjR (ziM q l s t) (.inr "turn")=aa (.int t):=rfl
theorem zlj(q:Nat)(l s t v:Int):zm2 (ziM q l s t) (.inr "left") (.int v)=ziM q v s t:=rfl
theorem zqv(q:Nat)(l s t v:Int):zm2 (ziM q l s t) (.inr "turn") (.int v)=ziM q l s v:=rfl
variable{a:Int}{xs:List D}
section
theorem add_i(a b:Int):zaP (.int a) (.int b) m = .ok (.int (a+b)) m:=rfl
theorem sub_i(a b:Int):zcd (.int a) (.int b) m = .ok (.int (a-b)) m:=rfl
theorem eq_i(a b:Int):eqD (.int a) (.int b) m = .ok (.bl (decide (a=b))) m:=rfl
theorem ne_i(a b:Int):neD (.int a) (.int b) m = .ok (.bl (!decide (a=b))) m:=rfl
theorem eq_s(a b:af):eqD (.str a) (.str b) m = .ok (.bl (decide (a=b))) m:=rfl
theorem ne_s(a b:af):neD (.str a) (.str b) m = .ok (.bl (!decide (a=b))) m:=rfl
theorem lt_i(a b:Int):ltD (.int a) (.int b) m = .ok (.bl (decide (a<b))) m:=rfl
theorem gt_i(a b:Int):gtD (.int a) (.int b) m = .ok (.bl (decide (b<a))) m:=rfl
theorem ge_i(a b:Int):geD (.int a) (.int b) m = .ok (.bl (decide (b<=a))) m:=rfl
theorem le_i(a b:Int):leD (.int a) (.int b) m = .ok (.bl (decide (a<=b))) m:=rfl
theorem zgU{b:Int}(h : -(2^64)<b/\b<2^64):zcY (.int a) (.int b) m = .ok (.int (a*b)) m:=by rw[zgd];exact if_pos (.inr h)
theorem zgT{b:Int}(h : -(2^64)<a/\a<2^64):zcY (.int a) (.int b) m = .ok (.int (a*b)) m:=by rw[zgd];exact if_pos (.inl h)
theorem zbO{b:Int}(h:0<b):zdu (.int a) (.int b) m = .ok (.int (a%b)) m:=if_pos h
theorem ztH{b:Int}(h:0<b/\b<2^64):zic (.int a) (.int b) m = .ok (.int (a/b)) m:=by rw[zlL];exact if_pos h
theorem zcH{n:Nat}(h:n<=1000000):zfQ (.int 1) (.int n) m = .ok (.int (2^n)) m:=by
 rw[znt];show (if _ then _ else _)=_;rw[if_pos ⟨by(clear h;omega),by omega,by decide⟩,y8,Int.one_mul]
theorem lst_0:zc6 [] m = .ok (.lst []) m:=if_pos (yat _)
theorem zb6{n:Nat}(h:n<=8):n<=sizeLine:=yM h (by decide)
theorem lst_2(a b:D):zc6 [a,b] m = .ok (.lst [a,b]) m:=if_pos (zb6 (by simp))
theorem lst_3(a b c:D):zc6 [a,b,c] m = .ok (.lst [a,b,c]) m:=if_pos (zb6 (by simp))
theorem lst_4(a b c d:D):zc6 [a,b,c,d] m = .ok (.lst [a,b,c,d]) m:=if_pos (zb6 (by simp))
theorem lst_5(a b c d e:D):zc6 [a,b,c,d,e] m = .ok (.lst [a,b,c,d,e]) m:=if_pos (zb6 (by simp))
theorem tup_0:zcb [] m = .ok (.tup []) m:=if_pos (yat _)
theorem tup_1(a:D):zcb [a] m = .ok (.tup [a]) m:=if_pos (zb6 (by simp))
theorem tup_2(a b:D):zcb [a,b] m = .ok (.tup [a,b]) m:=if_pos (zb6 (by simp))
theorem tup_3(a b c:D):zcb [a,b,c] m = .ok (.tup [a,b,c]) m:=if_pos (zb6 (by simp))
theorem zgc:zdg [] m = .ok (.ob m.length) (m++[.lst []]):=if_pos (yat _)
theorem min_i(a b:Int):zed [.int a,.int b] m = .ok (.int (if b<a then b else a)) m:=rfl
theorem len_t(xs:List D):zdb [.tup xs] m = .ok (.int xs.length) m:=rfl
theorem len_l(xs:List D):zdb [.lst xs] m = .ok (.int xs.length) m:=rfl
theorem tup_l(xs:List D):zeS [.lst xs] m = .ok (.tup xs) m:=rfl
theorem l1(xs:List D):gL1 xs m = .ok (.lst xs) m:=rfl
theorem zgF{xs:List τ}{n:Nat}:L2.atI xs (n:Int)=xs[n]?:=by
 unfold L2.atI L2.ixN;by_cases h:n<xs.length
 ·rw[if_pos (by(clear h;omega)),if_pos (by omega)];simp
 ·rw[if_pos (by(clear h;omega)),if_neg (by omega)];simp;omega
theorem zkF{n:Nat}(h:xs[n]?=aa d):ixD (.tup xs) (.int n) m = .ok d m:=by
 show opt (L2.atI xs n) m=_;rw[zgF,h];rfl
theorem ix_l{n:Nat}(h:xs[n]?=aa d):ixD (.lst xs) (.int n) m = .ok d m:=by
 show opt (L2.atI xs n) m=_;rw[zgF,h];rfl
theorem ix_t0(a:D)(xs:List D):ixD (.tup (a::xs)) (.int 0) m = .ok a m:=zkF (n:=0) rfl
theorem ix_t1(a b:D)(xs:List D):ixD (.tup (a::b::xs)) (.int 1) m = .ok b m:=zkF (n:=1) rfl
theorem ix_t2(a b c:D)(xs:List D):ixD (.tup (a::b::c::xs)) (.int 2) m = .ok c m:=zkF (n:=2) rfl
theorem zbI{d:Int}(H:0<=d)(h:d<xs.length):∃x∈xs,ixD (.lst xs) (.int d) m = .ok x m:=by
 obtain⟨n,rfl⟩:∃n:Nat,d=n:=⟨d.toNat,by(clear h;omega)⟩;have hn:n<xs.length:=by(clear H;omega)
 exact⟨xs[n],yaG hn,ix_l (by simp[hn])⟩
theorem ztp{d:Int}(H:0<=d)(h:d<xs.length):∃x∈xs,ixD (.tup xs) (.int d) m = .ok x m:=by
 obtain⟨n,rfl⟩:∃n:Nat,d=n:=⟨d.toNat,by(clear h;omega)⟩;have hn:n<xs.length:=by(clear H;omega)
 exact⟨xs[n],yaG hn,zkF (by simp[hn])⟩
end
variable{it:AV}{el:EV}{ρ : En}{ds:List D}
theorem zbw{n:Nat}{g:GV}(f:D->D)(h:it ρ m = .ok ds m)(hl:ds.length<=1000000)(H:∀d∈ds,∃ρ1,g d (ρ ++ yp n none) m = .ok ρ1 m/\el ρ1 m = .ok (f d) m):zbM n it g za7 el ρ m = .ok (ds.map f) m:=by
 unfold zbM;rw[h,bind_ok,if_pos hl];exact zlV f ds H
theorem zdJ{n:Nat}{g:GV}(I:Nat->Sto->Prop)(P:Nat->D->D->Prop)(h:it ρ m = .ok ds m)(hl:ds.length<=1000000)(a:I 0 m)(H:∀i d m,ds[i]?=aa d->I i m->Run ((g d (ρ ++ yp n none) m).bind el) fun x m3=>P i d x/\I (i+1) m3) : Run (zbM n it g za7 el ρ m) fun xs m'=>xs.length=ds.length/\(∀i d x,ds[i]?=aa d->xs[i]?=aa x->P i d x)/\I ds.length m':=by
 unfold zbM;rw[h,bind_ok,if_pos hl];have:=zlU (g:=g) (el:=el) (ρ := ρ ++ yp n none) I P ds 0 a (fun i d m hd hi=>by
  have:=H i d m hd (by rw[yh]at hi;exact hi);rw[yh];exact this)
 simpa only[yh] using this
theorem zaO(lo:Int)(n:Nat):(zbu lo n).length=n:=by simp[zbu]
theorem zdU{j:Int}(h:0<=j)(h':j<=1000000):zij [.int j] m = .ok (zbu 0 j.toNat) m:=by rw[znJ];exact if_pos ⟨by(clear h';omega),by(clear h;omega)⟩
theorem zta{a b:String}(h:yE a=yE b):a=b:=by
 rw[ydZ,ydZ]at h;have H:=congrArg (fun s:af=>s.cps.toList) h;exact String.toList_inj.mp ((List.map_inj_right fun x y e=>Char.toNat_inj.mp e).mp H)
theorem ofs_eq(a b:String):(yE a=yE b)=(a=b):=propext ⟨zta,fun h=>by rw[h]⟩
local macro_rules | `(tactic| walk_at "w") => do
  let ids := ("run_at fin_nx fin_rt seq_at seq_nx seq_rt nil_at ret_at rt_at retN_at drop_at kdrop_at if_at kif_at asg_at kasg_at nx_at gs_nil gs_cons gT_at par_at kpar_at List.set_cons_zero List.set_cons_succ for_at kfor_at eC_at op_at kop_at un_at fn_at ife_at kife_at aNil_at aCons_at kcons_at kcons2_at asB_at tV_at andT_at kandT_at orT_at korT_at notT_at knotT_at and_at kand_at or_at kor_at not_at knot_at aIt_at sq_t sq_l sq_s sq_c rngA_at enumA_at kenum_t kenum_l zipA_at kzip_at zip3A_at kzip3_at kzip4_at oNone_at oSome_at ksome_at slD_at ksl1_at ksl2_at slA_at kslA1_at kslA2_at meth_at kmeth_at isStr_at isTup_at chain_at kch1_at kch2_at kch3_at put_at kputA_at kputB_at kputC_at kputE_at bind_ok bind_then then_at var_0 var_S gN_at Bool.false_eq_true reduceIte List.map_cons List.map_nil List.length_cons List.length_nil Nat.reduceAdd Nat.reduceSub List.cons_append List.nil_append add_i sub_i eq_i ne_i eq_s ne_s lt_i le_i gt_i ge_i lst_0 lst_2 lst_3 lst_4 lst_5 tup_0 tup_1 tup_2 tup_3 min_i len_t len_l tup_l l1 ix_t0 ix_t1 ix_t2 List.replicate List.append_nil decide_eq_true_eq Bool.not_true Bool.not_false eq_self not_true_eq_false not_false_eq_true decide_true decide_false ofs_eq String.reduceEq".splitOn " ").toArray.map fun s => Lean.mkIdent s.toName
  `(tactic| try simp only [$[$ids:ident],*])
variable{kvs:List (L2.Key×D)}
theorem zev{k:af}(h:m[p]?=aa (.dct kvs))(e:zjR kvs (.inr k)=aa d):ixD (.ob p) (.str k) m = .ok d m:=by
 simp only[ixD,h,e,opt]
theorem zkf{k:af}(h:m[p]?=aa (.dct kvs))(hl:kvs.length<sizeLine):ziL (.ob p) (.str k) d m = .ok () (m.set p (.dct (zm2 kvs (.inr k) d))):=by
 simp only[ziL,h,zoL,if_pos hl]
theorem zhX(q:Nat)(l s t:Int):(ziM q l s t).length<sizeLine:=by show 4<sizeLine;decide
variable{o:MO}
theorem zbY{o':MO}(h:m[p]?=aa o):(m.set p o')[p]?=aa o':=yaB (yc.mp h).1
variable{j:Nat}
theorem zba(h:p≠j):(m.set p o)[j]?=m[j]?:=yan h
theorem Fr.set:Fr p q m (m.set p o):=⟨by rw[yak];exact yb _,fun j _ h _=>zba (Ne.symm h)⟩
theorem Fr.set':Fr p q m (m.set q o):=⟨by rw[yak];exact yb _,fun j _ _ h=>zba (Ne.symm h)⟩
theorem zox(x:Int) : -(2^64)<x%1000003+69621/\x%1000003+69621<2^64:=by
 have H:=yaA x (b:=1000003) (by decide);have h:=yaL x (b:=1000003) (by decide)
 (clear h H;omega)
def zqB:SV:=by walk_at "#sFsau!LxCu!/glv^v)v_u!/vVZlv^sOEt1sO):t1sOswu#Et1wtJJ88Bw6J8BxZv]Jszx[Bx]v]JPEpszx^Bx_Bx`ty0pv_szw6/"
theorem znT{k left seed turn:Int}(H:m[p]?=aa (.dct (ziM q left seed turn)))(T:0<=turn)(t:turn<2^40)(k0:0<k)(k1:k<2^64)(l:0<=left) : Run ((zqB [aa (.ob p),aa (.int k),none,none,none] m).bind zjw) fun a m'=>∃(d L t':Int),a = .int d/\m'=m.set p (.dct (ziM q L seed t'))/\0<=d/\d<k/\0<=L/\0<=t'/\t'<=turn+1:=by
 unfold zqB;erw [zev H (zfC _ _ _ _)];ac_nf;by_cases hl:0<left
 ·rw[if_pos hl];erw [zev H (zfC _ _ _ _)];erw [zbO k0];erw [zev H (zfC _ _ _ _)];erw [ztH ⟨k0,k1⟩];erw [zkf H (zhX _ _ _ _),zlj];ac_nf;exact Run.ok ⟨_,left/k,turn,rfl,rfl,yaA _ (by(clear hl l k1 t T;omega)),yaL _ k0,Int.ediv_nonneg l (by(clear hl l k1 t T;omega)),T,by(clear hl l k1 k0 t T;omega)⟩
 ·rw[if_neg hl];erw [zev H (zk6 _ _ _ _)];erw [zkf H (zhX _ _ _ _),zqv];have h:(m.set p (.dct (ziM q left seed (turn+1))))[p]?=aa (.dct (ziM q left seed (turn+1))):=zbY H;generalize b:m.set p (.dct (ziM q left seed (turn+1)))=m2 at h;erw [zev h (zk6 _ _ _ _)];erw [zev h (zp3 _ _ _ _)];erw [zgT ⟨by(clear hl l k1 k0 t;omega),by(clear hl l k1 k0 T;omega)⟩];erw [zgU ⟨by decide,by decide⟩];erw [zgT ⟨by(clear hl l k1 k0 t;omega),by(clear hl l k1 k0 T;omega)⟩];erw [zgU ⟨by decide,by decide⟩];erw [zbO (by decide)];erw [zbO (by decide)];erw [zgU (zox _)];erw [zbO (by decide)];erw [ztH ⟨by decide,by decide⟩];erw [zbO k0];ac_nf;exact Run.ok ⟨_,left,turn+1,rfl,b.symm,yaA _ (by(clear hl l k1 t T;omega)),yaL _ k0,l,by(clear hl l k1 k0 t;omega),by(clear hl l k1 k0 t T;omega)⟩
theorem znS{own:List Int}(h:m[q]?=aa (.lst ((a::own).map D.int))):popM (.ob q) [.int 0] m = .ok (.int a) (m.set q (.lst (own.map D.int))):=by
 simp only[popM,h];rw[if_pos (by decide)];have e:bQ 0 ((a::own).map D.int).length=aa 0:=by
  simp[bQ]
 rw[e];simp
theorem pick_run{k:Int}(r:PotAt m0 p q c m)(A:c<2^40)(k0:0<k)(k1:k<2^64) : Run (zaj [.ob p,.int k] m) fun a m'=>∃d:Int,a = .int d/\0<=d/\d<k/\PotAt m0 p q (c+1) m'/\Fr p q m m':=by
 obtain⟨own,l,s,t,H,b,h,g,f,n,j,i,F⟩:=r.ex;have K:∀(m1:Sto)(l1:Int)(o:List Int),m1[p]?=aa (.dct (ziM q l1 s t))->m1[q]?=aa (.lst (o.map D.int))->(∀a∈o,0<=a)->0<=l1->Fr p q m m1 →
   Run ((zqB [aa (.ob p),aa (.int k),none,none,none] m1).bind zjw) fun a m'=>∃d:Int,a = .int d/\0<=d/\d<k/\PotAt m0 p q (c+1) m'/\Fr p q m m':=by
  intro m1 l1 o g1 C B G u;refine Run.mono (znT g1 i (by(clear G i j n f h k1 k0;omega)) k0 k1 G) ?_;rintro a m' ⟨d,y,t',rfl,rfl,w,v,L,T,E⟩;exact⟨d,rfl,w,v,⟨⟨o,y,s,t',zbY g1,by rw[zba h];exact C,h,B,L,n,j,T,by(clear T L v w G i j n f h k1 k0 A;omega)⟩,r.fr.trans (u.trans Fr.set)⟩,u.trans Fr.set⟩
 unfold zaj zaZ;show Run (Res.bind (zat (sIf (zgM (tV (eOp eqD (eOp ixD (zag 0) (eC (.str "left"))) (eC (.int 0)))) (tV (eOp neD (eOp ixD (zag 0) (eC (.str "own"))) (eFn zc6 zak)))) (ziz (zag 0) (eC (.str "left")) (zb2 zcj popM (eOp ixD (zag 0) (eC (.str "own"))) (zac (eC (.int 0)) zak))) zbG) zqB [aa (.ob p),aa (.int k),none,none,none] m) zjw) _;erw [zev H (zfC _ _ _ _)];ac_nf;by_cases hl:l=0
 ·subst hl;simp only[decide_true,if_true];rw[zev H (znd _ _ _ _)];ac_nf;have e:=ztG own [];rw[yaZ]at e;rw[show neD (.ob q) (.lst []) m = .ok (.bl (!decide (own=[]))) m by simp only[neD,rs,b,e]];cases own with
  |nil=>
   simp only[decide_true,Bool.not_true,Bool.false_eq_true,if_false];ac_nf;exact K m 0 [] H b g f Fr.refl
  |cons a own=>
   simp only[decide_false,reduceCtorEq,Bool.not_false,if_true];erw [zev H (znd _ _ _ _)];erw [if_pos (show zcj (.ob q) m=ae by simp only[zcj,b])];erw [znS b];erw [zkf (by rw[zba (Ne.symm h)];exact H) (zhX _ _ _ _),zlj];ac_nf;exact K _ a own (zbY (by rw[zba (Ne.symm h)];exact H)) (by rw[zba h];exact zbY b) (fun x z=>g x (yY _ z)) (g a (by simp)) (Fr.set'.trans Fr.set)
 ·rw[if_neg hl];exact K m l own H b g f Fr.refl
theorem za6{n k:Nat}{b:Int}(h:PotAt m0 p q (c+k) m)(e:c+n<2^40)(H:Nat.ble (k+1) n=ae)(k0:0<b)(k1:b<2^64) :
  Run (zaj [.ob p,.int b] m) fun a m'=>∃d:Int,a = .int d/\0<=d/\d<b/\PotAt m0 p q (c+(k+1)) m'/\Fr p q m m':=pick_run h (ycV (Nat.add_lt_add_left (yd0 H) c) e) k0 k1
theorem PotAt.up{k k':Nat}(h:PotAt m0 p q (c+k) m)(H:Nat.ble k k'=ae):PotAt m0 p q (c+k') m:=h.more (ydy (yd0 H) c)
inductive Kd where
 |step (n:Int) | turn (row:List Int) | wth (i:Nat) (f:Int) | still | drawn
def Kd.e:Kd->D
 |.step n=>.tup [.str "step", .int n]|.turn row=>.tup [.str "turn", .tup (row.map D.int)]|.wth i f=>.tup [.str "with", .int i,.int f]
 |.still=>.tup [.str "still"]|.drawn=>.tup [.str "drawn"]
def Kd.Ok(pl b:Nat):Kd->Prop
 |.step n=>0<=n/\n<2^b|.turn row=>row≠[]/\row.length<=12/\∀v∈row,0<=v/\v<2^b|.wth i f=>i<pl /\ -99<=f/\f<=99|_=>True
theorem p2(b:Nat):(0:Int)<2^b:=ydb (by decide)
variable{b:Nat}
theorem p2le(h:b<=40):(2:Int)^b<=2^40:=by
 have:=yd1 (n:=2) (by decide) h
 exact_mod_cast this
theorem p2lt(h:b<=40):(2:Int)^b<2^64:=Int.lt_of_le_of_lt (p2le h) (by decide)
variable{y:Int}
theorem zsf{a b c e g:D}{B o i:Int}(d:0<B)(H : -(2^64)<o/\o<2^64) : eOp zdu (eOp zaP (zag 6) (eOp zcY (zag 8) (zag 5))) (zag 3) [aa a,aa b,aa c,aa (.int B),aa e,aa (.int o),aa (.int y),aa g,aa (.int i)] m = .ok (.int ((y+i*o)%B)) m:=by
 have h:eOp zdu (eOp zaP (zag 6) (eOp zcY (zag 8) (zag 5))) (zag 3) [aa a,aa b,aa c,aa (.int B),aa e,aa (.int o),aa (.int y),aa g,aa (.int i)] m=((zcY (.int i) (.int o) m).bind fun z m1=>zaP (.int y) z m1).bind fun s m2=>zdu s (.int B) m2:=rfl;rw[h,zgU H,bind_ok,add_i,bind_ok,zbO d]
structure Fd where
 nm:af
 b:Nat
 kd:Kd
def Fd.e(f:Fd):D := .tup [.str f.nm,.int f.b,f.kd.e]
def zhw(fs:List Fd):Prop:=∀(i:Nat)(f:Fd),fs[i]?=aa f->0<f.b/\f.b<=40/\f.kd.Ok i f.b
theorem PotAt.app{r:Sto}(h:PotAt m0 p q c m):PotAt m0 p q c (m++r):=by
 obtain⟨own,l,s,t,d,H,e⟩:=h.ex;exact⟨⟨own,l,s,t,by rw[yO (yc.mp d).1];exact d,by rw[yO (yc.mp H).1];exact H,e⟩,by rw[yD];exact yM h.fr.len (yaq _ _),fun j a b c=>by rw[yO (yF a h.fr.len)];exact h.fr.at' j a b c⟩
theorem PotAt.lt(h:PotAt m0 p q c m):p<m.length/\q<m.length:=by
 obtain⟨own,l,s,t,a,H,b⟩:=h.ex;exact⟨(yc.mp a).1,(yc.mp H).1⟩
variable{r:Nat}
theorem PotAt.set(h:PotAt m0 p q c m)(f:m0.length<=r)(e:r≠p)(d:r≠q):PotAt m0 p q c (m.set r o):=by
 obtain⟨own,l,s,t,g1,g,H⟩:=h.ex;exact⟨⟨own,l,s,t,by rw[zba e];exact g1,by rw[zba d];exact g,H⟩,by rw[yak];exact h.fr.len,fun j a b c=>by rw[zba (by(clear c b H d e;omega))];exact h.fr.at' j a b c⟩
theorem zdI(h:m[r]?=aa (.lst xs))(hl:xs.length<sizeLine):za9 (.ob r) [d] m = .ok .non (m.set r (.lst (xs++[d]))):=by
 simp only[za9,h,if_pos hl]
theorem zdx(h:m[r]?=aa (.lst xs)):zcj (.ob r) m=ae:=by simp only[zcj,h]
variable{n:Int}{z:af}
theorem mul_s(h:z.length=1)(a:0<=n)(H:n<=1000):zcY (.str z) (.int n) m = .ok (.str (Txt.mul z n)) m:=by rw[zgd];exact if_pos ⟨a,H,by(clear H a;omega)⟩
theorem zaQ{n:Nat}(h:n<1000):n<sizeLine:=ycV h (by decide)
theorem pow106:powD (.int 10) (.int 6) m = .ok (.int 1000000) m:=by
 rw[zkg];have e:powR (.int 10) (.int 6) m=if (0:Int)<=6/\(6:Int)<=1000000/\(10:Int).natAbs<2^64 then .ok (.int ((10:Int)^(6:Int).toNat)) m else .bad:=rfl
 rw[e,if_pos (by decide)];rfl
theorem zav{r:Res τ}{x : τ}(h:Run r fun a m'=>a=x/\m'=m):r = .ok x m:=by
 obtain⟨a,m',e,rfl,rfl⟩:=h;exact e
variable{v:Int}
theorem zoY{row:List Int}:inD (.int v) (.tup (row.map D.int)) m = .ok (.bl (decide (v∈row))) m:=by
 have h:inO (.int v) (.tup (row.map D.int)) m=aa (decide (v∈row)):=by
  show inB (.int v) (row.map D.int)=_;unfold inB;rw[zdM,zdN,zfJ];have hd:zfI (.int v)=ae:=by simp[zfI,zf3,py,SeqAt.shaped,PyData.canLay0,PyData.depth]
  rw[hd];simp only[Bool.and_self,if_true,py];congr 1;rw[yb7];induction row with
  |nil=>simp|cons a r i=>
   rw[yaH,i];simp only[Function.comp,PyData.eqv,yA,Bool.decide_or];by_cases e:a=v
   ·simp[e]
   ·have E : ¬ v=a:=fun h=>e h.symm;simp[e,E]
 simp only[inD,h]
theorem zmH{row:List Int}:zi2 (.int v) (.tup (row.map D.int)) m = .ok (.bl (!decide (v∈row))) m:=by
 have h:=zoY (v:=v) (row:=row) (m:=m);unfold inD at h;unfold zi2;split at h
 ·rename_i b e;simp only[Res.ok.injEq,D.bl.injEq,and_true]at h;rw[h]
 ·cases h
theorem zcc:∀row:List Int,zeM (row.map D.int)=aa row
 |[]=>rfl|a::r=>by simp only[yy,zeM,zcc r];rfl
theorem zk9{row:List Int}(h:v∈row):zd1 (.tup (row.map D.int)) [.int v] m = .ok (.int (row.idxOf v)) m:=by
 simp only[zd1,zcc,if_pos h]
theorem zcD{row:List Int}{n:Nat}(h:row[n]?=aa v):ixD (.tup (row.map D.int)) (.int n) m = .ok (.int v) m:=zkF (by simp[h])
def exV(b:Nat)(kd:Kd)(v more:Int)(fo ah:List Int):Int:=match kd with
 |.step n=>(v+more*n)%2^b|.turn row=>if v∈row then row.getD ((row.idxOf v+more)%row.length).toNat 0 else v|.wth i f=>(v+f*(ah.getD i 0-fo.getD i 0))%2^b|.still=>v|.drawn=>v
theorem md2(x:Int)(b:Nat):0<=x%2^b/\x%2^b<2^b:=⟨yaA _ (Int.ne_of_gt (p2 b)),yaL _ (p2 b)⟩
variable{pl:Nat}{fo ah:List Int}
theorem exV_in{kd:Kd}{more:Int}(d:kd.Ok pl b)(H:0<=v)(h:v<2^b):0<=exV b kd v more fo ah/\exV b kd v more fo ah<2^b:=by
 cases kd with
 |step n=>exact md2 _ _|turn row=>
  simp only[exV];split
  ·rename_i c;have hl:0<row.length:=ydc c;have a0:=yaA (row.idxOf v+more) (b:=row.length) (by(clear h H;omega));have a1:=yaL (row.idxOf v+more) (b:=row.length) (by(clear a0 h H;omega));have a:(((row.idxOf v:Int)+more)%row.length).toNat<row.length:=by(clear hl h H;omega)
   rw[y9,yf a];exact d.2.2 _ (yaG a)
  ·exact⟨H,h⟩
 |wth i f=>exact md2 _ _|still=>exact⟨H,h⟩|drawn=>exact⟨H,h⟩
def shD(fs:List Fd)(n:Int):D := .tup [.tup (fs.map Fd.e),.int n]
def zbS(l:List Int):D := .tup (l.map D.int)
variable{i:Nat}{f:Fd}
theorem zqY{fs:List Fd}(h:fs[i]?=aa f):ixD (.tup (fs.map Fd.e)) (.int i) m = .ok (.tup [.str f.nm,.int f.b,f.kd.e]) m:=zkF (by simp[h,Fd.e])
theorem zha{fs:List Fd}{more:Int}(hs:zhw fs)(y:fs[i]?=aa f)(t:fo[i]?=aa v)(k:0<=v)(V:v<2^f.b)(ha:i<=ah.length) : Run (zaM [shD fs n,.int i,.tup (fo.map D.int),.tup (ah.map D.int),.int more] m) fun a m'=>a = .int (exV f.b f.kd v more fo ah)/\m'=m:=by
 obtain⟨c,H,r⟩:=hs i f y;unfold zaM zeD shD;erw [zqY y];erw [zcD t];ac_nf;have h:v%2^f.b=v:=yd2 k V;have e:=p2 f.b;have d:=p2lt H;have l:=zcH (m:=m) (n:=f.b) (by(clear d e h c ha V k;omega));have E:f.kd=f.kd:=rfl;generalize g:(2:Int)^f.b=B at *;cases q:f.kd with
 |step w=>
  rw[q]at r;simp only[Kd.Ok]at r;rw[g]at r;simp only[Kd.e];erw [zgU (by(clear e h V g H c ha k;omega))];erw [l];erw [zbO e];ac_nf;exact Run.ok ⟨by simp only[exV,g],rfl⟩
 |turn row=>
  simp only[Kd.e];erw [zoY];ac_nf;by_cases hr:v∈row
  ·rw[if_pos hr];erw [zk9 hr];ac_nf;simp only[yd];have hl:0<row.length:=ydc hr;rw[zbO (by(clear d e h V g H c ha k;omega))];ac_nf;have a0:=yaA (row.idxOf v+more) (b:=row.length) (by(clear d e h V g H c ha k;omega));have a1:=yaL (row.idxOf v+more) (b:=row.length) (by(clear a0 d e h V g H c ha k;omega));generalize s:((row.idxOf v:Int)+more)%row.length=x at a0 a1;obtain⟨j,rfl⟩:∃j:Nat,x=j:=⟨x.toNat,by(clear a1 s hl d e h V g H c ha k;omega)⟩;have u:j<row.length:=by(clear a0 s hl d e h V g H c ha k;omega)
   rw[zcD (yf u)];ac_nf;refine Run.ok ⟨?_,rfl⟩;simp only[exV,if_pos hr,s,y8,y9,yf u,ya6]
  ·rw[if_neg hr];erw [l];erw [zbO e];ac_nf;exact Run.ok ⟨by simp only[exV,if_neg hr,h],rfl⟩
 |wth j w=>
  rw[q]at r;simp only[Kd.Ok]at r;simp only[Kd.e];ac_nf;have o:j<ah.length:=by(clear d e h V g H c k;omega)
  have p:j<fo.length:=by have:=(yc.mp t).1;(clear o d e h V g H c ha k;omega)
  rw[zcD (yf o)];erw [zcD (yf p)];erw [zgT (by(clear p o d e h V g H c ha k;omega))];erw [l];erw [zbO e];ac_nf;refine Run.ok ⟨?_,rfl⟩;simp only[exV,g,y9,yf o,yf p,ya6]
 |still=>
  simp only[Kd.e];erw [l];erw [zbO e];ac_nf;exact Run.ok ⟨by simp only[exV,h],rfl⟩
 |drawn=>
  simp only[Kd.e];erw [l];erw [zbO e];ac_nf;exact Run.ok ⟨by simp only[exV,h],rfl⟩
theorem zg9{fs:List Fd}{more:Int}(hs:zhw fs)(H:fs[i]?=aa f)(h:fo[i]?=aa v)(b:0<=v)(V:v<2^f.b)(ha:ah.length=i) :
  Run (zaM [shD fs n,.int i,.tup (fo.map D.int),.tup (ah.map D.int),.int more] m) fun a m'=>a = .int (exV f.b f.kd v more fo ah)/\m'=m:=zha hs H h b V (ybp ha.symm)
def Bin(l:List Nat):Prop:=∀c∈l,c=48∨c=49
def zpX(l:List Nat):Int:=l.foldl (fun a c=>a*2+if c=49 then 1 else 0) 0
theorem zi0(l:List Nat)(c:Nat):zpX (l++[c])=zpX l*2+if c=49 then 1 else 0:=by simp only[zpX,List.foldl_append,List.foldl_cons,List.foldl_nil]
theorem zle(h:(zfu z)[i]?=aa d):∃c,z.cps.toList[i]?=aa c/\d = .str ⟨#[c]⟩:=by
 have hi:i<z.cps.size:=by have:=(yc.mp h).1;simpa [zfu] using this
 have hd:d = .str ⟨#[z.cps.getD i 0]⟩:=by
  simp only[zfu,yI,yb8 hi,yaz,yay]at h;exact h.symm
 refine⟨z.cps[i],by simp[hi],?_⟩;rw[hd];simp[Array.getD,hi]
theorem ziv(z:af):(zfu z).length=z.cps.toList.length:=by simp[zfu]
theorem zfN{l:List Nat}(h:l[i]?=aa c):l.take (i+1)=l.take i++[c]:=by
 rw[ycS,h];rfl
theorem int_0:zfH [.str ⟨#[48]⟩] m = .ok (.int 0) m:=by
 have e:yaO ⟨#[48]⟩=aa 0:=by decide +kernel
 simp only[zfH,e];rfl
theorem int_1:zfH [.str ⟨#[49]⟩] m = .ok (.int 1) m:=by
 have e:yaO ⟨#[49]⟩=aa 1:=by decide +kernel
 simp only[zfH,e];rfl
theorem zmG(H:Bin z.cps.toList):Run (zdz [.str z] m) fun a m'=>a = .int (zpX z.cps.toList)/\m'=m:=by
 unfold zdz zhd;ac_nf;refine Run.bind (zaN (fun k ρ m'=>∃x,ρ = [aa (.str z),aa (.int (zpX (z.cps.toList.take k))),x]/\m'=m) (zfu z) 0 ⟨_,rfl,rfl⟩ ?_) ?_
 ·rintro i d ρ m' hd ⟨x,rfl,rfl⟩;obtain⟨c,h,rfl⟩:=zle hd;rw[yh,zfN h,zi0];erw [zgU (by decide)];ac_nf;rcases H c (yW h) with rfl|rfl
  ·rw[int_0];ac_nf;exact Run.ok ⟨_,rfl,_,rfl,rfl⟩
  ·rw[int_1];ac_nf;exact Run.ok ⟨_,rfl,_,rfl,rfl⟩
 ·rintro _ m' ⟨ρ,rfl,x,rfl,rfl⟩;rw[yh,ziv,ybA];ac_nf;exact Run.ok ⟨rfl,rfl⟩
theorem zh9(H:Bin z.cps.toList):Run (zcT [.str z] m) fun a m'=>a = .int (zpX z.cps.toList)/\m'=m:=by
 unfold zcT zgw;ac_nf;refine Run.bind (zaN (fun k ρ m'=>∃x,ρ = [aa (.str z),aa (.int (zpX (z.cps.toList.take k))),x]/\m'=m) (zfu z) 0 ⟨_,rfl,rfl⟩ ?_) ?_
 ·rintro i d ρ m' hd ⟨x,rfl,rfl⟩;obtain⟨c,h,rfl⟩:=zle hd;rw[yh,zfN h,zi0];erw [zgT (by decide)];ac_nf;rcases H c (yW h) with rfl|rfl
  ·rw[show decide ((⟨#[48]⟩:af)=yE "1")=ai by decide,show ∀m,zfH [.bl ai] m = .ok (.int 0) m from fun _=>rfl];erw [ya7];exact Run.ok ⟨_,rfl,_,rfl,rfl⟩
  ·rw[show decide ((⟨#[49]⟩:af)=yE "1")=ae by decide,show ∀m,zfH [.bl ae] m = .ok (.int 1) m from fun _=>rfl];erw [ya7];exact Run.ok ⟨_,rfl,_,rfl,rfl⟩
 ·rintro _ m' ⟨ρ,rfl,x,rfl,rfl⟩;rw[yh,ziv,ybA];ac_nf;exact Run.ok ⟨rfl,rfl⟩
inductive Wy where
 |keep | whole | low (w:Nat) (bl:Int)
def Wy.e:Wy->D
 |.keep=>.tup [.str "keep"]|.whole=>.tup [.str "whole"]|.low w bl=>.tup [.str "low", .int w,.int bl]
def Wy.w(b:Nat):Wy->Nat
 |.keep=>0|.whole=>b|.low w _=>w
def Wy.Ok(b:Nat):Wy->Prop
 |.low w bl=>0<w/\w<=b/\0<=bl/\bl<2^w|_=>True
theorem Wy.w_le{w:Wy}(h:w.Ok b):w.w b<=b:=by
 cases w with
 |keep=>exact yat _|whole=>exact yb _|low w bl=>exact h.2.1
def zl9(wy:Wy)(b:Nat)(base rest:Int):Int:=match wy with
 |.keep=>base|.whole=>rest|.low w bl=>((base-bl)+(rest-(base-bl))%2^w)%2^b
theorem zb9{w:Nat}(h:w<=1000000):Run (zbB [.int n,.int w] m) fun a m'=>a = .int (n%2^w)/\m'=m:=by
 unfold zbB zlx;erw [zcH h];erw [zbO (p2 _)];ac_nf;exact Run.ok ⟨rfl,rfl⟩
variable{rest:Int}
theorem zmY{w:Nat}{base bl:Int}(H:b<=1000000)(h:w<=1000000):Run (zgz [.int b,.int base,.int bl,.int rest,.int w] m) fun a m'=>a = .int (((base-bl)+(rest-(base-bl))%2^w)%2^b)/\m'=m:=by
 have c:Run (zdy [.int (base-bl),.int rest,.int w] m) fun a m'=>a = .int ((base-bl)+(rest-(base-bl))%2^w)/\m'=m:=by
  unfold zdy zhc;erw [zav (zb9 h)];ac_nf;exact Run.ok ⟨rfl,rfl⟩
 unfold zgz zlH;erw [zav c];erw [zav (zb9 H)];ac_nf;exact Run.ok ⟨rfl,rfl⟩
variable{wy:Wy}
theorem zhA{base:Int}(H:b<=1000000)(h:wy.Ok b):Run (zcK [wy.e,.int b,.int base,.int rest] m) fun a m'=>a = .int (zl9 wy b base rest)/\m'=m:=by
 unfold zcK zgn;cases wy with
 |keep=>simp only[Wy.e];ac_nf;exact Run.ok ⟨rfl,rfl⟩|whole=>simp only[Wy.e];ac_nf;exact Run.ok ⟨rfl,rfl⟩|low w bl=>
  simp only[Wy.e];ac_nf;have c:=h.2.1;rw[zav (zmY H (by omega))];ac_nf;exact Run.ok ⟨rfl,rfl⟩
theorem zd0:Run (zb7 [wy.e,.int b] m) fun a m'=>a = .int (wy.w b:Nat)/\m'=m:=by
 unfold zb7 zjg;cases wy with
 |keep=>simp only[Wy.e];ac_nf;exact Run.ok ⟨rfl,rfl⟩|whole=>simp only[Wy.e];ac_nf;exact Run.ok ⟨rfl,rfl⟩|low w bl=>simp only[Wy.e];ac_nf;exact Run.ok ⟨rfl,rfl⟩
theorem mul_0:zcY (.int a) (.int 0) m = .ok (.int 0) m:=by rw[zgU (by decide),Int.mul_zero]
theorem mul_1:zcY (.int a) (.int 1) m = .ok (.int a) m:=by rw[zgU (by decide),Int.mul_one]
theorem zrR:zfH [.bl ai] m = .ok (.int 0) m:=rfl
theorem int_bt:zfH [.bl ae] m = .ok (.int 1) m:=rfl
theorem zdw:Run (zbj [f.e,wy.e] m) fun a m'=>a = .int (wy.w f.b:Nat)/\m'=m:=by
 unfold zbj zhf Fd.e;cases wy with
 |keep=>
  simp only[Wy.e];ac_nf;rw[zrR];erw [mul_0];ac_nf;exact Run.ok ⟨rfl,rfl⟩
 |whole=>
  simp only[Wy.e];ac_nf;rw[int_bt];erw [mul_1];ac_nf;exact Run.ok ⟨rfl,rfl⟩
 |low w bl=>simp only[Wy.e];ac_nf;exact Run.ok ⟨rfl,rfl⟩
theorem zl4{row:List Int}{more:Int}:Run (zgo [.tup (row.map D.int),.int v,.int more] m) fun a m'=>a = .int (if v∈row then row.getD ((row.idxOf v+more)%row.length).toNat 0 else v)/\m'=m:=by
 unfold zgo zlv;erw [zmH];ac_nf;by_cases hr:v∈row
 ·rw[decide_eq_true hr];erw [zk9 hr];ac_nf;simp only[yd];have hl:0<row.length:=ydc hr;rw[zbO (by omega)];ac_nf;have a0:=yaA (row.idxOf v+more) (b:=row.length) (by omega);have a1:=yaL (row.idxOf v+more) (b:=row.length) (by(clear a0;omega));rw[if_pos hr];generalize h:((row.idxOf v:Int)+more)%row.length=x at a0 a1;obtain⟨j,rfl⟩:∃j:Nat,x=j:=⟨x.toNat,by(clear a1 h hl;omega)⟩;have H:j<row.length:=by(clear a0 h hl;omega)
  rw[zcD (yf H)];ac_nf;refine Run.ok ⟨?_,rfl⟩;simp only[y8,y9,yf H,ya6]
 ·rw[decide_eq_false hr];erw [if_neg hr];exact Run.ok ⟨rfl,rfl⟩
theorem sl_fd{a b c:D}:slD (.tup [a,b,c]) (aa 1) none m = .ok (.tup [b,c]) m:=by
 have e:slD (.tup [a,b,c]) (aa 1) none m=if HT.sIx 3 0 (aa 1)=0/\HT.sIx 3 3 none=3 then .bad else .ok (.tup (zlR [a,b,c] (aa 1) none)) m:=rfl
 rw[e,if_neg (by decide)];rfl
theorem zjx{fs:List Fd}{more:Int}(hs:zhw fs)(o:fs[i]?=aa f)(l:fo[i]?=aa v)(e:0<=v)(V:v<2^f.b)(ha:ah.length=i) : Run (zdF [shD fs n,.int i,.tup (fo.map D.int),.tup (ah.map D.int),.int more] m) fun a m'=>a = .int (exV f.b f.kd v more fo ah)/\m'=m:=by
 obtain⟨h,c,g⟩:=hs i f o;unfold zdF zhl shD;erw [zqY o];erw [sl_fd];erw [zcD l];ac_nf;have H:=p2lt c;cases k:f.kd with
 |step w=>
  rw[k]at g;simp only[Kd.Ok]at g;simp only[Kd.e];erw [zgT (by(clear c h ha V e;omega))];erw [zav (zb9 (by(clear g H h ha V e;omega)))];ac_nf;exact Run.ok ⟨by simp only[exV,ya7],rfl⟩
 |turn row=>
  simp only[Kd.e];erw [zav zl4];ac_nf;exact Run.ok ⟨by simp only[exV],rfl⟩
 |wth j w=>
  rw[k]at g;simp only[Kd.Ok]at g;simp only[Kd.e];ac_nf;have b:j<ah.length:=by(clear H c h V e;omega)
  have d:j<fo.length:=by have:=(yc.mp l).1;(clear b H c h ha V e;omega)
  rw[zcD (yf b)];erw [zcD (yf d)];erw [zgT (by(clear d b H c h ha V e;omega))];erw [zav (zb9 (by(clear d b g H h ha V e;omega)))];ac_nf;refine Run.ok ⟨?_,rfl⟩;simp only[exV,y9,yf b,yf d,ya6]
 |still=>
  simp only[Kd.e];ac_nf;exact Run.ok ⟨by simp only[exV],rfl⟩
 |drawn=>
  simp only[Kd.e];ac_nf;exact Run.ok ⟨by simp only[exV],rfl⟩
def fmD(a b:Int)(wys:List Wy):D := .tup [.int a,.int b,.tup (wys.map Wy.e)]
def zcr(fs:List Fd)(wys:List Wy):List Nat:=ya8 (fun f w=>Wy.w f.b w) fs wys
theorem zfr{fs:List Fd}(h:fs.length<=1000):Run (zco [shD fs n] m) fun a m'=>a = .lst (fs.map fun f=>.int f.b)/\m'=m:=by
 unfold zco zhm shD;ac_nf;rw[zbw (ds:=fs.map Fd.e) (fun d=>match d with | .tup [_,b,_]=>b | d=>d)]
 ·ac_nf;refine Run.ok ⟨?_,rfl⟩;rw[yV];rfl
 ·ac_nf
 ·rw[yd];omega
 ·intro d hd;simp only[yT]at hd;obtain⟨f,_,rfl⟩:=hd;exact⟨_,rfl,(ix_t1 (.str f.nm) (.int f.b) [f.kd.e]:ixD (.tup _) (.int 1) m=_)⟩
theorem zrr:∀(fs:List Fd)(wys:List Wy),zdZ (wys.map Wy.e) (fs.map fun f=>D.int f.b)=ya8 (fun(f:Fd)(w:Wy)=>D.tup [w.e,.int f.b]) fs wys
 |[],[]=>rfl|[],_::_=>rfl|_::_,[]=>rfl|f::fs,w::ws=>by simp only[yy,zdZ,yd3,zrr fs ws]
theorem zoC{α β c d : Type}(g : c -> d)(f:α -> β -> c):∀(a:List α)(b:List β),(ya8 f a b).map g=ya8 (fun x y=>g (f x y)) a b
 |[],_=>by simp|_::_,[]=>by simp|x::a,y::b=>by simp[zoC g f a b]
theorem zrM{α β d : Type}(f:α -> β -> d):∀(a:List α)(b:List β){c : d},c∈ya8 f a b->∃x y,c=f x y
 |[],_,c,h=>by simp at h|_::_,[],c,h=>by simp at h|x::a,y::b,c,h=>by
  simp only[yd3,yA]at h;rcases h with h|h
  ·exact⟨x,y,h⟩
  ·exact zrM f a b h
def wdF(d:D):D:=match d with
 |.tup [a,b]=>match zb7 [a,b] [] with
  |.ok x _=>x|_=>.non
 |d=>d
variable{wys:List Wy}
theorem zeR{fs:List Fd}{b:Int}(h:fs.length<=1000)(hl:wys.length=fs.length):Run (zc4 [shD fs n,fmD a b wys] m) fun x m'=>x = .lst ((zcr fs wys).map fun k:Nat=>.int k)/\m'=m:=by
 unfold zc4 zlu fmD;erw [zbw (ds:=ya8 (fun(f:Fd)(w:Wy)=>D.tup [w.e,.int f.b]) fs wys) wdF]
 ·ac_nf;refine Run.ok ⟨?_,rfl⟩;rw[zoC,zcr,zoC];congr 2;funext f w;show (match zb7 [w.e,.int f.b] [] with | .ok x _=>x | _=>.non)=_;rw[zav zd0]
 ·erw [zav (zfr h)];ac_nf;simp only[zm7];rw[if_pos (by simp[hl]),zrr]
 ·simp;(clear hl;omega)
 ·intro d hd;obtain⟨f,w,rfl⟩:=zrM _ _ _ hd;refine⟨_,rfl,?_⟩;show zb7 [w.e,.int f.b] m = .ok (match zb7 [w.e,.int f.b] [] with | .ok x _=>x | _=>.non) m;rw[zav zd0,zav zd0]
def zeP(ws:List Nat)(k:Nat):Nat:=(ws.take k).sum
theorem zdm{ws:List Nat}{k w:Nat}(h:ws[k]?=aa w):zeP ws (k+1)=zeP ws k+w:=by
 unfold zeP;rw[zfN h,ycT];simp
theorem znn(ws:List Nat)(k:Nat):zeP ws k<=ws.sum:=by
 unfold zeP
 conv=>rhs;rw[<- yda k ws,ycT]
 omega
def zln(l:List Nat)(ws:List Nat)(k:Nat):Int:=zpX ((l.drop (zeP ws k)).take (ws.getD k 0))
theorem Bin.drop{l:List Nat}(h:Bin l)(k:Nat):Bin (l.drop k):=fun c H=>h c (yd4 H)
theorem Bin.take{l:List Nat}(h:Bin l)(k:Nat):Bin (l.take k):=fun c H=>h c (ybz H)
variable{hi:Option Int}
theorem znq{lo:Option Int}(h:z.length<=sizeLine):slD (.str z) lo hi m = .ok (.str (Txt.slice z lo hi)) m:=if_pos h
theorem zdV(f:Nat -> τ)(k:Nat):(yC (k+1)).map f=(yC k).map f++[f k]:=by rw[yc1,yaj];rfl
theorem zkw{ws:List Nat}(o:Bin z.cps.toList)(hl:z.length<=sizeLine)(hs:ws.sum<=z.cps.size)(g:ws.length<1000) : Run (zcO [.str z,.lst (ws.map fun k:Nat=>.int k)] m) fun a m'=>a = .lst (((yC ws.length).map (zln z.cps.toList ws)).map D.int)/\m'=m:=by
 have h:Run (zaZ 5 zeh [.str z,.lst (ws.map fun k:Nat=>.int k)] m) fun a m'=>a = .ob m.length/\m'=m++[.lst (((yC ws.length).map (zln z.cps.toList ws)).map D.int)]:=by
  unfold zeh;erw [zgc];ac_nf;refine Run.bind (zaN (fun k ρ m'=>∃x,ρ = [aa (.str z),aa (.lst (ws.map fun k:Nat=>.int k)),aa (.ob m.length),aa (.int (zeP ws k:Nat)),x]/\m'=m++[.lst (((yC k).map (zln z.cps.toList ws)).map D.int)]) (ws.map fun k:Nat=>.int k) 0 ⟨_,rfl,rfl⟩ ?_) ?_
  ·rintro i d ρ m' hd ⟨x,rfl,rfl⟩;rw[yh];have hi:i<ws.length:=by have:=(yc.mp hd).1;simpa using this
   have c:ws[i]?=aa ws[i]:=yf hi;have j:d = .int (ws[i]:Nat):=by
    rw[yI,c]at hd;simpa using hd.symm
   subst j;have hm:(m++[MO.lst (((yC i).map (zln z.cps.toList ws)).map D.int)])[m.length]?=aa (.lst (((yC i).map (zln z.cps.toList ws)).map D.int)):=by simp
   have H:=zdm c;have f:=znn ws (i+1);erw [if_pos (zdx hm)];erw [znq hl];ac_nf;have b:=Mth.slice_mid z (zeP ws i) (zeP ws (i+1)) (by(clear f g hs hl;omega)) (by(clear H g hl;omega));rw[H]at b;rw[Nat.add_sub_cancel_left]at b;rw[show ((zeP ws i:Nat):Int)+(ws[i]:Nat)=((zeP ws i+ws[i]:Nat):Int) by(clear f H g hs hl;omega)];rw[zav (zmG (by rw[b];exact(o.drop _).take _)),b];erw [zdI hm (by simp;exact zaQ (by(clear f H hs hl;omega)))];ac_nf;refine Run.ok ⟨_,rfl,_,by rw[H,Int.natCast_add],?_⟩;rw[zdV,yaj];have:zln z.cps.toList ws i=zpX ((z.cps.toList.drop (zeP ws i)).take ws[i]):=by rw[zln,y9,c];rfl
   rw[this];simp
  ·rintro _ m' ⟨ρ,rfl,x,rfl,rfl⟩;ac_nf;refine Run.ok ⟨rfl,?_⟩;simp
 unfold zcO;unfold zti;have h':=zav h;rw[h',bind_ok];generalize ((yC ws.length).map (zln z.cps.toList ws))=l;have e:frz (m++[.lst (l.map D.int)]) m.length (.ob m.length) = .lst (l.map D.int):=by simp[frz]
 rw[e];have n:clsd m.length (.lst (l.map D.int))=ae:=by
  have:∀l:List Int,clsdL m.length (l.map D.int)=ae:=by
   intro l;induction l with
   |nil=>simp[clsdL]|cons a r I=>simp[clsdL,clsd,I]
  simp[clsd,this]
 rw[if_pos ⟨by simp,n⟩];exact Run.ok ⟨rfl,by simp⟩
theorem zdH{a : Type}{f : a -> D}:∀{xs:List a}{k i:Nat}{d:D},(zcF k (xs.map f))[i]?=aa d->∃x,xs[i]?=aa x/\d = .tup [.int ((k+i:Nat):Int),f x]
 |[],k,i,d,h=>by simp[zcF]at h|x::xs,k,0,d,h=>by
  simp only[yy,zcF,yd5,yay]at h;exact⟨x,rfl,h.symm⟩
 |x::xs,k,i+1,d,h=>by
  simp only[yy,zcF,yb9]at h;obtain⟨y,h1,h2⟩:=zdH h;exact⟨y,by simpa using h1,by rw[h2,show k+1+i=k+(i+1) by omega]⟩
theorem zcz{a : Type}{f : a -> D}:∀{xs:List a}{k:Nat},(zcF k (xs.map f)).length=xs.length
 |[],k=>rfl|x::xs,k=>by simp[zcF,zcz]
def hdV(fs:List Fd)(wys:List Wy)(fo:List Int)(more:Int)(l:List Nat):Nat->List Int
 |0=>[]|k+1=>hdV fs wys fo more l k++[match fs[k]?,wys[k]?,fo[k]? with
  |some f,aa w,aa v=>zl9 w f.b (exV f.b f.kd v more fo (hdV fs wys fo more l k)) (zln l (zcr fs wys) k)|_,_,_=>0]
theorem ze8(fs:List Fd)(wys:List Wy)(fo:List Int)(more:Int)(l:List Nat):∀k,(hdV fs wys fo more l k).length=k
 |0=>rfl|k+1=>by rw[hdV,yD,ze8 fs wys fo more l k];rfl
structure HdOk(fs:List Fd)(fo:List Int):Prop where
 len:fo.length=fs.length
 at':∀(i:Nat)(f:Fd)(v:Int),fs[i]?=aa f->fo[i]?=aa v->0<=v/\v<2^f.b
structure WyOk(fs:List Fd)(wys:List Wy):Prop where
 len:wys.length=fs.length
 at':∀(i:Nat)(f:Fd)(w:Wy),fs[i]?=aa f->wys[i]?=aa w->w.Ok f.b
theorem zbl{fs:List Fd}(h:WyOk fs wys):(zcr fs wys).length=fs.length:=by simp[zcr,h.len]
theorem zdk{fs:List Fd}{w:Wy}(H:fs[i]?=aa f)(h:wys[i]?=aa w):(zcr fs wys)[i]?=aa (w.w f.b):=by
 rw[zcr,List.getElem?_zipWith,H,h]
theorem zmm{fs:List Fd}{b:Int}{more:Int}(hs:zhw fs)(hn:fs.length<=12)(h:WyOk fs wys)(f:HdOk fs fo)(l:Bin z.cps.toList)(hl:z.length<=sizeLine)(hsz:z.cps.size=(zcr fs wys).sum) : Run (zgq [shD fs n,fmD a b wys,.str z,.tup (fo.map D.int),.int more] m) fun x m'=>x = .tup ((hdV fs wys fo more z.cps.toList fs.length).map D.int)/\m'=m:=by
 unfold zgq zlz;erw [zav (zeR (by(clear hsz hl;omega)) h.len)];erw [zav (zkw l hl (by(clear hl hn;omega)) (by rw[zbl h];(clear hsz hl;omega)))];ac_nf;refine Run.bind (zaN (fun k ρ m'=>∃x y w,ρ = [aa (shD fs n),aa (fmD a b wys),aa (.str z),aa (.tup (fo.map D.int)),aa (.int more),aa (.tup ((hdV fs wys fo more z.cps.toList k).map D.int)),x,y,w]/\m'=m) _ 0 ⟨_,_,_,rfl,rfl⟩ ?_) ?_
 ·rintro i d ρ m' hd ⟨x,y,w,rfl,rfl⟩;obtain⟨v,c,rfl⟩:=zdH hd;have hi:i<fs.length:=by
   have:=(yc.mp c).1;rw[yd,yap,zbl h]at this;exact this
  have H:v=zln z.cps.toList (zcr fs wys) i:=by
   rw[yI,yb8 (by rw[zbl h];exact hi)]at c;simpa using c.symm
  subst H;rw[yh];have e:=yf hi;have g:=yf (show i<wys.length by rw[h.len];exact hi);have E:=yf (show i<fo.length by rw[f.len];exact hi);obtain⟨V,j⟩:=f.at' i _ _ e E;erw [zav (zjx hs e E V j (ze8 _ _ _ _ _ i))];ac_nf;simp only[shD,fmD];erw [zkF (d:=(wys[i]'(by rw[h.len];exact hi)).e) (by rw[yI,g];rfl)];erw [zqY e];erw [zav (zhA (by have:=(hs i _ e).2.1;(clear j V hsz hl hn;omega)) (h.at' i _ _ e g))];ac_nf;simp only[zaP];rw[if_pos (by rw[yd,ze8];exact yam (zaQ (by simp;(clear V hsz hl;omega))))];ac_nf;have o:(hdV fs wys fo more z.cps.toList (i+1)).map D.int=(hdV fs wys fo more z.cps.toList i).map D.int++[.int (zl9 (wys[i]'(by rw[h.len];exact hi)) fs[i].b (exV fs[i].b fs[i].kd (fo[i]'(by rw[f.len];exact hi)) more fo (hdV fs wys fo more z.cps.toList i)) (zln z.cps.toList (zcr fs wys) i))]:=by
   rw[hdV,e,g,E];simp
  rw[o];exact Run.ok ⟨_,rfl,_,_,_,rfl,rfl⟩
 ·rintro _ m' ⟨ρ,rfl,x,y,w,rfl,rfl⟩;rw[yh,zcz,yd,yap,zbl h];ac_nf;exact Run.ok ⟨rfl,rfl⟩
theorem zh8{fs:List Fd}{b:Int}{more:Int}(hs:zhw fs)(hn:fs.length<=12)(N:WyOk fs wys)(P:HdOk fs fo)(U:Bin z.cps.toList)(hl:z.length<=sizeLine)(hsz:z.cps.size=(zcr fs wys).sum) : Run (zcS [shD fs n,fmD a b wys,.str z,.tup (fo.map D.int),.int more] m) fun x m'=>x = .tup ((hdV fs wys fo more z.cps.toList fs.length).map D.int)/\m'=m:=by
 unfold zcS zgv;ac_nf;have R:∀m,ixD (shD fs n) (.int 0) m = .ok (.tup (fs.map Fd.e)) m:=fun m=>ix_t0 _ _;rw[R];ac_nf;refine Run.bind (zaN (fun k ρ m'=>∃(Z:af)(G C B A c X:Option D),Z.cps.toList=z.cps.toList.drop (zeP (zcr fs wys) k)/\ρ = [aa (shD fs n),aa (fmD a b wys),aa (.str Z),aa (.tup (fo.map D.int)),aa (.int more),aa (.tup ((hdV fs wys fo more z.cps.toList k).map D.int)),G,C,B,A,c,X]/\m'=m) _ 0 ⟨z,_,_,_,_,_,_,by simp[zeP],rfl,rfl⟩ ?_) ?_
 ·rintro i d ρ m' hd ⟨Z,G,C,B,A,c,X,e,rfl,rfl⟩;obtain⟨f,E,rfl⟩:=zdH hd;have hi:i<fs.length:=(yc.mp E).1;rw[yh]at e ⊢;have K:=yf (show i<wys.length by rw[N.len];exact hi);have L:=yf (show i<fo.length by rw[P.len];exact hi);generalize wys[i]'(by rw[N.len];exact hi)=wy at K;generalize fo[i]'(by rw[P.len];exact hi)=v at L;obtain⟨q,V⟩:=P.at' i _ _ E L;have M:=N.at' i _ _ E K;obtain⟨j,o,W⟩:=hs i f E;have I:=zdk E K;have h:=zdm I;have l:=znn (zcr fs wys) (i+1);have r:Z.cps.size=z.cps.size-zeP (zcr fs wys) i:=by
   have:=congrArg yaY e;simpa using this
  have H:Z.length<=sizeLine:=by
   have h1:Z.length=Z.cps.size:=rfl;have h2:z.length=z.cps.size:=rfl
   (clear l h o j V q hi hsz hn;omega)
  have g:wy.w f.b<=Z.cps.size:=by(clear H o j V q hi hl hn;omega)
  have y:f.b<=1000000:=by(clear g H r l h j V q hi hsz hl hn;omega)
  have s:wy.w f.b<=1000000:=by have:=Wy.w_le M;(clear g H r l h o j V q hi hsz hl hn;omega)
  have hex:=zg9 (n:=n) (more:=more) (m:=m') hs E L q V (ze8 fs wys fo more z.cps.toList i);have u:=exV_in (more:=more) (fo:=fo) (ah:=hdV fs wys fo more z.cps.toList i) W q V;have p:zln z.cps.toList (zcr fs wys) i=zpX (Z.cps.toList.take (wy.w f.b)):=by rw[zln,y9,I,e];rfl
  have Q:Bin Z.cps.toList:=by rw[e];exact U.drop _
  have J:=Mth.slice_lo Z (wy.w f.b) g;have O:=Mth.slice_hi Z (wy.w f.b) g;have F:∀(t:Int)(X:Option D),t=zl9 wy f.b (exV f.b f.kd v more fo (hdV fs wys fo more z.cps.toList i)) (zln z.cps.toList (zcr fs wys) i)->Run (Res.bind (zaP (.tup ((hdV fs wys fo more z.cps.toList i).map D.int)) (.tup [.int t]) m') fun d m1=>Res.ok (Fl.nx [aa (shD fs n),aa (fmD a b wys),aa (.str (Txt.slice Z (aa ((wy.w f.b:Nat):Int)) none)),aa (.tup (fo.map D.int)),aa (.int more),aa d,aa (.int (i:Nat)),aa f.e,aa wy.e,aa (.int (wy.w f.b:Nat)),aa (.int t),X]) m1) fun Y m2=>∃ρ2,Y=Fl.nx ρ2/\∃(Z:af)(G C B A c X:Option D),Z.cps.toList=z.cps.toList.drop (zeP (zcr fs wys) (i+1))/\ρ2=[aa (shD fs n),aa (fmD a b wys),aa (.str Z),aa (.tup (fo.map D.int)),aa (.int more),aa (.tup ((hdV fs wys fo more z.cps.toList (i+1)).map D.int)),G,C,B,A,c,X]/\m2=m':=by
   intro t X T;simp only[zaP];rw[if_pos (by rw[yd,ze8];exact yam (zaQ (by simp;(clear T p u s y g H r l h o j V q hsz hl;omega)))),bind_ok];have eh:(hdV fs wys fo more z.cps.toList (i+1)).map D.int=(hdV fs wys fo more z.cps.toList i).map D.int++[.int t]:=by
    rw[hdV,E,K,L,T];simp
   rw[eh];exact Run.ok ⟨_,rfl,Txt.slice Z (aa ((wy.w f.b:Nat):Int)) none,_,_,_,_,_,_,by rw[O,e,List.drop_drop,h],rfl,rfl⟩
  have S:∀m,ixD (fmD a b wys) (.int 2) m = .ok (.tup (wys.map Wy.e)) m:=fun m=>ix_t2 _ _ _ _;erw [S];erw [zkF (d:=wy.e) (by rw[yI,K];rfl)];erw [zav zdw];erw [znq H];erw [zav (zh9 (by rw[J];exact Q.take _)),J,<- p];erw [znq H];ac_nf;cases wy with
  |whole=>
   simp only[Wy.e];ac_nf;exact F _ _ rfl
  |keep=>
   simp only[Wy.e];erw [zav hex];erw [zcH s];erw [zbO (p2 _)];ac_nf;simp only[Fd.e];erw [zcH y];erw [zbO (p2 _)];ac_nf;refine F _ _ ?_;simp only[zl9,Wy.w,Int.pow_zero,Int.emod_one,Int.add_zero];exact yd2 u.1 u.2
  |low w bl=>
   simp only[Wy.e];erw [zav hex];erw [zcH s];erw [zbO (p2 _)];ac_nf;simp only[Fd.e];erw [zcH y];erw [zbO (p2 _)];ac_nf;refine F _ _ ?_;simp only[zl9,Wy.w]
 ·rintro _ m' ⟨ρ,rfl,Z,G,C,B,A,c,X,_,rfl,rfl⟩;rw[yh,zcz];ac_nf;exact Run.ok ⟨rfl,rfl⟩
open PySem PyProof.Rows L2 Mth
theorem zqX(ts:List af)(h:∀a∈ts,a.length=1)(hl:ts.length<=1000000):JoinOk (yE "") ts=ae:=by
 refine joinOk_of ?_;rw[sumLen_of_ones ts h];have z:(yE "").length=0:=by decide
 rw[z]
 (clear z;omega)
def zlm(c:Nat):af:=⟨#[c]⟩
theorem zhb:∀cs:List Nat,(yca (yE "") (cs.map zlm)).cps.toList=cs
 |[]=>rfl|[c]=>rfl|c::d::r=>by
  show (zlm c++yE "" ++ yca (yE "") ((d::r).map zlm)).cps.toList=_;rw[ybi,ybi,zhb (d::r)];rfl
theorem zoP(cs:List Nat):(PySem.Txt.join (yE "") (cs.map zlm)).cps.toList=cs:=by
 show (yd6 (yE "") (cs.map zlm)).cps.toList=_;rw[StrLaws.glued_eq_join,zhb]
section
theorem zoU(xs:List D):zil "tuple" (.tup xs) m = .ok (.bl ae) m:=rfl
theorem isi_ti(a:Int):zil "tuple" (.int a) m = .ok (.bl ai) m:=rfl
theorem zrP(a:Int):zil "int" (.int a) m = .ok (.bl ae) m:=rfl
theorem zrQ(a:Int):zil "bool" (.int a) m = .ok (.bl ai) m:=rfl
theorem isi_si(a:Int):zil "str" (.int a) m = .ok (.bl ai) m:=rfl
theorem is_ni(a:Int):isD (.int a) .non m = .ok (.bl ai) m:=rfl
end
theorem zqm{n:Nat}:Run (zbK (n+1) [.int a,.int a] m) fun x m'=>x = .bl ae/\m'=m:=by
 rw[zbK];unfold zey;erw [isi_ti];erw [is_ni];erw [isi_si];erw [zrP];erw [zrQ];ac_nf;exact Run.ok ⟨by simp,rfl⟩
theorem zkZ:∀l:List Int,zdZ (l.map D.int) (l.map D.int)=l.map fun a=>D.tup [.int a,.int a]
 |[]=>rfl|a::r=>by simp only[yy,zdZ,zkZ r]
theorem zl1:∀l:List Int,zih (l.map fun _=>D.bl ae)=aa (l.map fun _=>ae)
 |[]=>rfl|a::r=>by simp only[yy,zih,zl1 r];rfl
theorem zql{l:List Int}(hl:l.length<=1000):Run (zdO [.tup (l.map D.int),.tup (l.map D.int)] m) fun x m'=>x = .bl ae/\m'=m:=by
 show Run (zbK (11+1) _ m) _;rw[zbK];unfold zey;erw [zoU];erw [zoU];erw [zbw (ds:=l.map fun a=>D.tup [.int a,.int a]) (fun _=>.bl ae)]
 ·erw [yV];have e:zm5 [.lst (l.map ((fun _=>D.bl ae)∘fun a=>D.tup [.int a,.int a]))] m = .ok (.bl ae) m:=by
   simp only[zm5,lOf,yaa];rw[show ((fun _=>D.bl ae)∘fun a:Int=>D.tup [.int a,.int a])=fun _=>D.bl ae from rfl,zl1];simp
  rw[e];ac_nf;exact Run.ok ⟨rfl,rfl⟩
 ·ac_nf;simp only[zm7];rw[if_pos (yb _),zkZ]
 ·simp;omega
 ·intro d hd;simp only[yT]at hd;obtain⟨a,_,rfl⟩:=hd;exact⟨_,rfl,zav (zqm (n:=10))⟩
theorem lift{a : Type}(e : a -> D)(P:Nat -> a -> Prop):∀(xs:List D)(k:Nat),(∀i x,xs[i]?=aa x->∃t,x=e t/\P (k+i) t)->∃l:List a,xs=l.map e/\∀i t,l[i]?=aa t->P (k+i) t
 |[],k,_=>⟨[],rfl,fun i t h=>by simp at h⟩|x::xs,k,h=>by
  obtain⟨t,rfl,c⟩:=h 0 x rfl;obtain⟨l,rfl,hl⟩:=lift e P xs (k+1) fun i x b=>by
   rw[show k+1+i=k+(i+1) by omega];exact h (i+1) x (by simpa using b)
  refine⟨t::l,rfl,fun i u H=>?_⟩;cases i with
  |zero=>simp at H;subst H;exact c|succ i=>
   rw[show k+(i+1)=k+1+i by omega];exact hl i u (by simpa using H)
def valT:SV:=by walk_at "#0vis9sX)tZs,sZuR?sPs,G72tR-%"
def valH:SV:=by walk_at "#t(t~tet^sVsOosasc1u&0nt^vdu'$t^)2Z"
theorem zse:zhg=(zat (zaC (zag 1) (gT 3 (zas (gN 2) (zas (gN 3) (zas (gN 4) zbn))))) (zat (zaC (eOp zfQ (eC (.int 1)) (zag 3)) (gN 5)) (zat valH valT))):=rfl
theorem zio(G:PotAt m0 p q c m)(d:c+5<2^40)(o:f.b<=40)(L:f.kd.Ok i f.b) : Run (zbU [.ob p,f.e] m) fun a m'=>∃v:Int,a = .int v/\0<=v/\v<2^f.b/\PotAt m0 p q (c+5) m':=by
 unfold zbU;rw[zse];unfold Fd.e valH;ac_nf;have J:=zcH (m:=m) (n:=f.b) (by(clear d;omega));have b:=p2 f.b;have H:=p2lt o;rw[J];ac_nf;generalize g:(2:Int)^f.b=B at *;have l:∀m1 x1 N M X,PotAt m0 p q (c+1) m1->Run ((valT [aa (.ob p),x1,N,M,X,aa (.int B)] m1).bind zjw) fun a m'=>∃v:Int,a = .int v/\0<=v/\v<B/\PotAt m0 p q (c+5) m':=by
  intro m1 x1 N M X h;unfold valT;ac_nf;refine Run.bind (za6 h d rfl b H) ?_;rintro _ m2 ⟨x,rfl,x0,x1,u,f2⟩;ac_nf;refine Run.bind (za6 u d rfl (by split <;> (clear H b g o d;omega)) (by split <;> (clear x1 x0 H b g o d;omega))) ?_;rintro _ m3 ⟨y,rfl,A,Y,E,f3⟩;ac_nf;refine Run.bind (za6 E d rfl (by decide) (by decide)) ?_;rintro _ O ⟨z,rfl,s,Z,t,f4⟩;have C:y<B:=by split at Y <;> (clear Z s A x1 x0 H b g o d;omega)
  obtain⟨v,F,e⟩:=zbI (m:=O) (xs:=[.int 0,.int (B-1),.int x,.int y]) s Z;erw [e];simp only[yA,yK,or_false]at F;ac_nf;rcases F with rfl|rfl|rfl|rfl
  ·exact Run.ok ⟨_,rfl,by(clear C Z s Y A x1 x0 H b g o d;omega),by(clear C Z s x1 x0 H b g o d;omega),t.up rfl⟩
  ·exact Run.ok ⟨_,rfl,by(clear C Z s x1 x0 H b g o d;omega),by(clear C Z s Y A x1 x0 H b g o d;omega),t.up rfl⟩
  ·exact Run.ok ⟨_,rfl,by(clear C Z s Y A x1 H b g o d;omega),by(clear C Z s Y A x0 H b g o d;omega),t.up rfl⟩
  ·exact Run.ok ⟨_,rfl,by(clear C Z s Y x1 x0 H b g o d;omega),by(clear Z s Y A x1 x0 H b g o d;omega),t.up rfl⟩
 cases K:f.kd with
 |turn row=>
  rw[K]at L;simp only[Kd.Ok]at L;obtain⟨k1,k2,k3⟩:=L;simp only[Kd.e];ac_nf;refine Run.bind (za6 (k:=0) G d rfl (by decide) (by decide)) ?_;rintro _ m2 ⟨x,rfl,x0,x1,u,f2⟩;ac_nf;by_cases I:0<x
  ·rw[if_pos I];ac_nf;simp only[yd];have hl:0<row.length:=by cases row with
    |nil=>exact absurd rfl k1|cons a r=>simp
   refine Run.bind (za6 u d rfl (by(clear I x1 x0 k2 k1 H b g o d;omega)) (by(clear hl I x1 x0 k1 H b g o d;omega))) ?_;rintro _ m3 ⟨y,rfl,A,Y,E,f3⟩;obtain⟨v,F,e⟩:=ztp (m:=m3) (xs:=row.map D.int) A (by simpa using Y);erw [e];ac_nf;simp only[yT]at F;obtain⟨w,P,rfl⟩:=F;have:=k3 w P;rw[g]at this;exact Run.ok ⟨_,rfl,this.1,this.2,E.up rfl⟩
  ·rw[if_neg I];ac_nf;exact l m2 _ _ _ _ u
 |step w=>simp only[Kd.e];ac_nf;exact l m _ _ _ _ (G.up (k:=0) rfl)|wth j w=>simp only[Kd.e];ac_nf;exact l m _ _ _ _ (G.up (k:=0) rfl)|still=>simp only[Kd.e];ac_nf;exact l m _ _ _ _ (G.up (k:=0) rfl)|drawn=>simp only[Kd.e];ac_nf;exact l m _ _ _ _ (G.up (k:=0) rfl)
theorem zq6{fs:List Fd}(t:PotAt m0 p q c m)(b:c+60<2^40)(hs:zhw fs)(hn:fs.length<=12) : Run (zeA [.ob p,shD fs n] m) fun a m'=>∃fo:List Int,a = .tup (fo.map D.int)/\HdOk fs fo/\PotAt m0 p q (c+60) m':=by
 unfold zeA zjj shD;ac_nf;refine Run.bind (zdJ (ds:=fs.map Fd.e) (fun k m'=>PotAt m0 p q (c+5*k) m') (fun i d x=>∃v:Int,x = .int v/\∀f,fs[i]?=aa f->0<=v/\v<2^f.b) (by ac_nf) (by rw[yd];(clear b;omega)) t ?_) ?_
 ·intro i d m' hd e;have hi:i<fs.length:=by have:=(yc.mp hd).1;simpa using this
  have E:=yf hi;have j:d=fs[i].e:=by
   rw[yI,E]at hd;simpa using hd.symm
  subst j;obtain⟨b0,b1,u⟩:=hs i _ E;ac_nf;refine Run.mono (zio e (by(clear b1 b0;omega)) b1 u) ?_;rintro a m3 ⟨v,rfl,o,V,g⟩;exact⟨⟨v,rfl,fun f H=>by rw[E]at H;cases H;exact⟨o,V⟩⟩,g.more (by(clear V o b1 b0 hn b;omega))⟩
 ·rintro xs m' ⟨h,w,e⟩;ac_nf;rw[yd]at h e;obtain⟨l,rfl,hl⟩:=lift D.int (fun i v=>∀f,fs[i]?=aa f->0<=v/\v<2^f.b) xs 0 fun i x r=>by
   have hi:i<fs.length:=by have:=(yc.mp r).1;(clear hn b;omega)
   rw[yh];exact w i fs[i].e x (by rw[yI,yf hi];rfl) r
  refine Run.ok ⟨l,rfl,⟨by simpa using h,fun i f v H s=>?_⟩,e.more (by(clear h b;omega))⟩;have:=hl i v s;rw[yh]at this;exact this f H
theorem zsc(K:PotAt m0 p q c m)(H:c+5<2^40)(f:0<b)(g:b<=40) : Run (zgr [.ob p,.int b] m) fun a m'=>∃wy:Wy,a=wy.e/\wy.Ok b/\PotAt m0 p q (c+5) m':=by
 unfold zgr zlA;ac_nf;refine Run.bind (za6 (k:=0) K H rfl (by decide) (by decide)) ?_;rintro _ m1 ⟨x,rfl,x0,x1,r,f1⟩;ac_nf;by_cases C:x<2
 ·rw[if_pos C];obtain⟨v,A,e⟩:=zbI (m:=m1) (xs:=[.tup [.str "keep"],.tup [.str "whole"]]) x0 C;erw [e];ac_nf;simp only[yA,yK,or_false]at A;rcases A with rfl|rfl
  ·exact Run.ok ⟨.keep,rfl,trivial,r.up rfl⟩
  ·exact Run.ok ⟨.whole,rfl,trivial,r.up rfl⟩
 ·rw[if_neg C];ac_nf;refine Run.bind (za6 r H rfl (by(clear C x1 x0 g H;omega)) (by(clear C x1 x0 f H;omega))) ?_;rintro _ m2 ⟨y,rfl,Y,j,J,f2⟩;obtain⟨w,n⟩:∃w:Nat,1+y=w:=⟨(1+y).toNat,by(clear j C x1 x0 g f H;omega)⟩;erw [n];rw[zcH (by(clear Y C x1 x0 f H;omega))];ac_nf;have d:=p2 w;have h:=p2lt (b:=w) (by(clear d Y C x1 x0 f H;omega));generalize i:(2:Int)^w=B at *;refine Run.bind (za6 J H rfl (by(clear h i n j Y C x1 x0 g f H;omega)) (by(clear d i n j Y C x1 x0 g f H;omega))) ?_;rintro _ m3 ⟨s,rfl,S,s1,I,f3⟩;ac_nf;refine Run.bind (za6 I H rfl (by decide) (by decide)) ?_;rintro _ L ⟨t,rfl,o,T,G,f4⟩;ac_nf;refine Run.bind (za6 G H rfl (by decide) (by decide)) ?_;rintro _ M ⟨z,rfl,l,Z,F,N⟩;obtain⟨v,A,e⟩:=zbI (m:=M) (xs:=[.int 0,.int (B-1),.int s,.int (if t<B-1 then t else B-1)]) l Z;erw [e];have E:∃u:Int,v = .int u/\0<=u/\u<B:=by
   simp only[yA,yK,or_false]at A;rcases A with rfl|rfl|rfl|rfl
   ·exact⟨_,rfl,by(clear Z l T o s1 S h d i n j Y C x1 x0 g f H;omega),by(clear Z l T o s1 S h i n j Y C x1 x0 g f H;omega)⟩
   ·exact⟨_,rfl,by(clear Z l T o s1 S h i n j Y C x1 x0 g f H;omega),by(clear Z l T o s1 S h d i n j Y C x1 x0 g f H;omega)⟩
   ·exact⟨_,rfl,by(clear Z l T o s1 h d i n j Y C x1 x0 g f H;omega),by(clear Z l T o S h d i n j Y C x1 x0 g f H;omega)⟩
   ·exact⟨_,rfl,by split <;> (clear Z l T s1 S h i n j Y C x1 x0 g f H;omega),by split <;> (clear Z l T o s1 S h d i n j Y C x1 x0 g f H;omega)⟩
  obtain⟨u,rfl,D,U⟩:=E;ac_nf;exact Run.ok ⟨.low w u,rfl,⟨by(clear U D Z l T o s1 S h d i j C x1 x0 g f H;omega),by(clear U D Z l T o s1 S h d i Y C x1 x0 g f H;omega),D,by rw[i];exact U⟩,F.up rfl⟩
theorem zrf{fs:List Fd}(A:PotAt m0 p q c m)(H:c+62<2^40)(hs:zhw fs)(hn:fs.length<=12) : Run (zeC [.ob p,shD fs n] m) fun x m'=>∃(a b:Int)(wys:List Wy),x=fmD a b wys/\0<a/\a<=40/\0<b/\b<=40/\WyOk fs wys/\PotAt m0 p q (c+62) m':=by
 unfold zeC zjn shD;ac_nf;refine Run.bind (zdJ (ds:=fs.map Fd.e) (fun k m'=>PotAt m0 p q (c+5*k) m') (fun i d x=>∃w:Wy,x=w.e/\∀f,fs[i]?=aa f->w.Ok f.b) (by ac_nf) (by rw[yd];(clear H;omega)) A ?_) ?_
 ·intro i d m' hd o;have hi:i<fs.length:=by have:=(yc.mp hd).1;simpa using this
  have E:=yf hi;have s:d=fs[i].e:=by
   rw[yI,E]at hd;simpa using hd.symm
  subst s;obtain⟨b0,b1,C⟩:=hs i _ E;simp only[Fd.e];ac_nf;refine Run.mono (zsc o (by(clear b1 b0;omega)) b0 b1) ?_;rintro a m3 ⟨w,rfl,u,e⟩;exact⟨⟨w,rfl,fun f j=>by rw[E]at j;cases j;exact u⟩,e.more (by(clear b1 b0 hn H;omega))⟩
 ·rintro xs m' ⟨h,B,o⟩;ac_nf;rw[yd]at h o;obtain⟨l,rfl,hl⟩:=lift Wy.e (fun i w=>∀f,fs[i]?=aa f->Wy.Ok f.b w) xs 0 fun i x t=>by
   have hi:i<fs.length:=by have:=(yc.mp t).1;(clear hn H;omega)
   rw[yh];exact B i fs[i].e x (by rw[yI,yf hi];rfl) t
  refine Run.bind (pick_run o (by(clear h;omega)) (by decide) (by decide)) ?_;rintro _ m2 ⟨x,rfl,x0,x1,r,f2⟩;ac_nf;refine Run.bind (pick_run r (by(clear x1 x0 h;omega)) (by decide) (by decide)) ?_;rintro _ m3 ⟨y,rfl,g,Y,e,f3⟩;ac_nf;refine Run.ok ⟨1+x,1+y,l,rfl,by(clear Y g x1 h hn H;omega),by(clear Y g x0 h hn H;omega),by(clear Y x1 x0 h hn H;omega),by(clear g x1 x0 h hn H;omega),⟨by simpa using h,fun i f v j z=>?_⟩,e.more (by(clear Y g x1 x0 h H;omega))⟩;have:=hl i v z;rw[yh]at this;exact this f j
def ztw:SV:=by walk_at "#sUP(wYpsxs!tWsJ"
theorem zjk:zjl=(zat (zaC (eFn zcb zak) (gN 4))
 (zat (zfx (zfB (eOp ixD (zag 1) (eC (.int 0)))) (gT 2 (zas (gN 5) (zas (gN 6) zbn)))
 (zat (zaC (eFn zaM (zac (zag 1) (zac (zag 5) (zac (zag 2) (zac (zag 4) (zac (zag 3) zak)))))) (gN 7))
 (zat (zaC (eFn zaj (zac (zag 0) (zac (eC (.int 8)) zak))) (gN 8))
 (zat (sIf (tV (eOp eqD (zag 8) (eC (.int 5))))
 (zaC (eOp zcd (eOp zaP (zag 7) (eFn zaj (zac (zag 0) (zac (eC (.int 9)) zak)))) (eC (.int 4))) (gN 7))
 zbG)
 (zat (sIf (tV (eOp eqD (zag 8) (eC (.int 6))))
 (zaC (eFn zbU (zac (zag 0) (zac (zag 6) zak))) (gN 7))
 zbG)
 ztw)))))
 (zaJ (zag 4)))):=rfl
theorem zq7{fs:List Fd}{more:Int}(Q:PotAt m0 p q c m)(o:c+84<2^40)(hs:zhw fs)(hn:fs.length<=12)(O:HdOk fs fo) : Run (zeB [.ob p,shD fs n,.tup (fo.map D.int),.int more] m) fun a m'=>∃hd:List Int,a = .tup (hd.map D.int)/\HdOk fs hd/\PotAt m0 p q (c+84) m':=by
 unfold zeB;rw[zjk];ac_nf;have N:∀m,ixD (shD fs n) (.int 0) m = .ok (.tup (fs.map Fd.e)) m:=fun m=>ix_t0 _ _;rw[N];ac_nf;refine Run.bind (zaN (fun k ρ m'=>∃(ah:List Int)(B A z X:Option D),ρ = [aa (.ob p),aa (shD fs n),aa (.tup (fo.map D.int)),aa (.int more),aa (.tup (ah.map D.int)),B,A,z,X]/\ah.length=k/\(∀(i:Nat)(f:Fd)(v:Int),fs[i]?=aa f->ah[i]?=aa v->0<=v/\v<2^f.b)/\PotAt m0 p q (c+7*k) m') _ 0 ⟨[],_,_,_,_,rfl,rfl,fun i f v _ h=>by simp at h,Q⟩ ?_) ?_
 ·rintro i d ρ m' hd ⟨ah,B,A,z,X,rfl,H,u,E⟩;obtain⟨f,I,rfl⟩:=zdH hd;have hi:i<fs.length:=(yc.mp I).1;rw[yh]at H E ⊢;have P:=yf (show i<fo.length by rw[O.len];exact hi);obtain⟨V,l⟩:=O.at' i _ _ I P;obtain⟨e,b,R⟩:=hs i f I;erw [zav (zg9 hs I P V l H)];ac_nf;refine Run.bind (pick_run E (by(clear b e V H;omega)) (by decide) (by decide)) ?_;rintro _ m1 ⟨x,rfl,x0,x1,t,f1⟩;ac_nf;generalize exV f.b f.kd _ more fo ah=v;have F:∀(v:Int)(m1:Sto),PotAt m0 p q (c+7*i+7) m1->Run (ztw [aa (.ob p),aa (shD fs n),aa (.tup (fo.map D.int)),aa (.int more),aa (.tup (ah.map D.int)),aa (.int (i:Nat)),aa f.e,aa (.int v),aa (.int x)] m1) fun S m2=>∃ρ2,S=Fl.nx ρ2/\∃(ah:List Int)(B A z X:Option D),ρ2=[aa (.ob p),aa (shD fs n),aa (.tup (fo.map D.int)),aa (.int more),aa (.tup (ah.map D.int)),B,A,z,X]/\ah.length=i+1/\(∀(i:Nat)(f:Fd)(v:Int),fs[i]?=aa f->ah[i]?=aa v->0<=v/\v<2^f.b)/\PotAt m0 p q (c+7*(i+1)) m2:=by
   intro v m1 h;have G:∀m,ixD f.e (.int 1) m = .ok (.int f.b) m:=fun m=>ix_t1 _ _ _;unfold ztw;erw [G];erw [zcH (by(clear x1 x0 e l V H hn o;omega))];erw [zbO (p2 _)];ac_nf;simp only[zaP];rw[if_pos (by rw[yd,H];exact yam (zaQ (by simp;(clear x1 x0 b e l V H o;omega))))];ac_nf;have T:(ah++[v%2^f.b]).map D.int=ah.map D.int++[.int (v%2^f.b)]:=by simp
   rw[<- T];refine Run.ok ⟨_,rfl,ah++[v%2^f.b],_,_,_,_,rfl,by simp[H],?_,h.more (by(clear x1 x0 b e l V H hn o;omega))⟩;intro j g w M r;rcases ybC j ah.length with L|L|L
   ·rw[yO L]at r;exact u j g w M r
   ·subst L;rw[H]at M r;rw[I]at M;cases M;rw[<- H]at r;simp at r;subst r;exact md2 _ _
   ·rw[ya9 (by simp;(clear x1 x0 b e l V H hn o;omega))]at r;cases r
  have G:∀m,ixD f.e (.int 1) m = .ok (.int f.b) m:=fun m=>ix_t1 _ _ _;ac_nf;by_cases C:x=5
  ·rw[if_pos C];ac_nf;refine Run.bind (pick_run t (by(clear C x1 x0 b e l V H;omega)) (by decide) (by decide)) ?_;rintro _ m2 ⟨y,rfl,K,Y,s,f2⟩;erw [if_neg (by(clear Y K x1 x0 b e l V H hn o;omega))];ac_nf;exact F (v+y-4) m2 (s.more (by(clear Y K C x1 x0 b e l V H hn o;omega)))
  ·rw[if_neg C];ac_nf;by_cases J:x=6
   ·rw[if_pos J];ac_nf;refine Run.bind (zio t (by(clear J C x1 x0 b e l V H;omega)) b R) ?_;rintro _ m2 ⟨y,rfl,K,Y,s⟩;ac_nf;exact F y m2 (s.more (by(clear Y K J C x1 x0 b e l V H hn o;omega)))
   ·rw[if_neg J];ac_nf;exact F v m1 (t.more (by(clear J C x1 x0 b e l V H hn o;omega)))
 ·rintro _ m' ⟨ρ,rfl,ah,B,A,z,X,rfl,H,u,E⟩;ac_nf;rw[yh,zcz]at H E;ac_nf;exact Run.ok ⟨ah,rfl,⟨H,u⟩,E.more (by(clear H o;omega))⟩
theorem str_0:zrz [.int 0] m = .ok (.str ⟨#[48]⟩) m:=rfl
theorem str_1:zrz [.int 1] m = .ok (.str ⟨#[49]⟩) m:=rfl
variable{hd:List Int}
theorem zr8{fs:List Fd}:∀{i:Nat}{d:D},(zcG (fs.map Fd.e) (wys.map Wy.e) (hd.map D.int))[i]?=aa d->∃f w v,fs[i]?=aa f/\wys[i]?=aa w/\hd[i]?=aa v/\d = .tup [f.e,w.e,.int v]:=by
 induction fs generalizing wys hd with
 |nil=>intro i d h;simp[zcG]at h|cons f fs I=>
  intro i d h;cases wys with
  |nil=>simp[zcG]at h|cons w wys=>
   cases hd with
   |nil=>simp[zcG]at h|cons v hd=>
    simp only[yy,zcG]at h;cases i with
    |zero=>simp at h;exact⟨f,w,v,rfl,rfl,rfl,h.symm⟩|succ i=>
     simp only[yb9]at h;obtain⟨F,W,V,c,b,a,H⟩:=I h;exact⟨F,W,V,by simpa using c,by simpa using b,by simpa using a,H⟩
theorem zk1:∀{fs:List Fd}{wys:List Wy}{hd:List Int},wys.length=fs.length->hd.length=fs.length->(zcG (fs.map Fd.e) (wys.map Wy.e) (hd.map D.int)).length=fs.length
 |[],_,_,_,_=>by simp[zcG]|f::fs,[],_,h,_=>by simp at h|f::fs,w::ws,[],_,h=>by simp at h|f::fs,w::ws,v::hd,h,h'=>by
  simp only[yy,zcG,yx];rw[zk1 (by simpa using h) (by simpa using h')]
theorem zfO{fs:List Fd}{wys:List Wy}(hs:zhw fs)(H:WyOk fs wys):∀k,k<=fs.length->zeP (zcr fs wys) k<=40*k
 |0,_=>by simp[zeP]|k+1,h=>by
  have e1:=yf (show k<fs.length by omega);have e:=yf (show k<wys.length by rw[H.len];omega);rw[zdm (zdk e1 e)];have:=zfO hs H k (by omega);have b:=Wy.w_le (H.at' k _ _ e1 e);have a:=(hs k _ e1).2.1;omega
theorem zqa{fs:List Fd}(h:WyOk fs wys):zeP (zcr fs wys) fs.length=(zcr fs wys).sum:=by
 rw[zeP,<- zbl h,ybA]
theorem zht:∀cs:List Nat,zfs (cs.map fun c=>D.str (zlm c))=aa (cs.map zlm)
 |[]=>rfl|a::r=>by simp only[yy,zfs,zht r];rfl
theorem ztJ{xs:List τ}{lo:Option Int}{x : τ}(h:x∈zlR xs lo hi):x∈xs:=yd4 (ybz h)
theorem zpu(xs:List τ)(lo hi:Option Int):(zlR xs lo hi).length<=xs.length:=by
 unfold zlR;rw[yaE,ycE];omega
theorem zsS:powD (.int 10) (.int 18) m = .ok (.int 1000000000000000000) m:=by
 rw[zkg];have e:powR (.int 10) (.int 18) m=if (0:Int)<=18/\(18:Int)<=1000000/\(10:Int).natAbs<2^64 then .ok (.int ((10:Int)^(18:Int).toNat)) m else .bad:=rfl
 rw[e,if_pos (by decide)];rfl
theorem ztt{N:Int}(h:yaO z=aa N)(hl:z.length<=640):zfH [.str z] m = .ok (.int N) m:=by
 simp only[zfH,h,if_pos hl]
theorem ztQ{a b:af}(h:a.length+b.length<=sizeLine):zaP (.str a) (.str b) m = .ok (.str (a++b)) m:=if_pos h
theorem zq2:∃N:Int,0<N/\zfH [.str (yE "1" ++ Txt.mul (yE "0") 300)] m = .ok (.int N) m:=by
 obtain⟨N,h,e⟩:=L2.huge;exact⟨N,h,ztt e L2.huge_len⟩
theorem ztv:(yE "1").length+(Txt.mul (yE "0") 300).length<=sizeLine:=by decide +kernel
theorem zoz(q:Nat)(s:Int):zlo [(yZ "own", .ob q),(yZ "left", .int 0),(yZ "seed", .int s),(yZ "turn", .int 0)]=ziM q 0 s 0:=rfl
variable{ns:List Int}
theorem zsT(hn:ns.length<=63):Run (zgt [.scr (ns.map D.int)] m) fun a m'=>∃p q,a = .ob p/\PotAt m' p q 0 m':=by
 unfold zgt zlC;erw [mul_s (by decide) (by decide) (by decide)];ac_nf;have j:∀m,zaP (.str "1") (.str (Txt.mul (yE "0") 300)) m = .ok (.str (yE "1" ++ Txt.mul (yE "0") 300)) m:=fun m=>ztQ ztv;rw[j];ac_nf;obtain⟨N,H,g⟩:=zq2 (m:=m);rw[g];erw [zgc];ac_nf;have E:∀m,slD (.scr (ns.map D.int)) none (aa 64) m = .ok (.lst (zlR (ns.map D.int) none (aa 64))) m:=fun m=>rfl;rw[E];ac_nf;refine Run.bind (zaN (fun k ρ m'=>∃(seed:Int)(own:List Int)(x:Option D),ρ = [aa (.scr (ns.map D.int)),aa (.int N),aa (.int seed),aa (.ob m.length),x]/\m'=m++[.lst (own.map D.int)]/\own.length<=k/\(∀a∈own,0<=a)/\0<=seed/\seed<2305843009213693951) _ 0 ⟨5,[],none,rfl,rfl,yb _,fun a h=>by simp at h,by decide,by decide⟩ ?_) ?_
 ·rintro i d ρ m' hd ⟨seed,own,x,rfl,rfl,o,O,s,s1⟩;have e:=ztJ (yW hd);have hi:i<63:=by
   have:=(yc.mp hd).1;have f:=zpu (ns.map D.int) none (aa 64);rw[yd]at f
   (clear s1 s o H;omega)
  simp only[yT]at e;obtain⟨n,_,rfl⟩:=e;rw[yh]at o ⊢;have hm:(m++[MO.lst (own.map D.int)])[m.length]?=aa (.lst (own.map D.int)):=by simp
  erw [zgU (by decide)];erw [zbO (by decide)];erw [zbO (by decide)];erw [zsS];ac_nf;have T:=yaA (seed*69069+n%2305843009213693951+17) (b:=2305843009213693951) (by decide);have t:=yaL (seed*69069+n%2305843009213693951+17) (b:=2305843009213693951) (by decide);by_cases c:1000000000000000000<=n
  ·rw[if_pos c];erw [if_pos (zdx hm)];erw [zbO H];erw [zdI hm (by rw[yd];exact zaQ (by(clear c t T s1 s H hn;omega)))];ac_nf;refine Run.ok ⟨_,rfl,_,own++[n%N],_,rfl,by simp,by simp;(clear c t T hi s1 s H hn;omega),?_,T,t⟩;intro a ha;rcases y6.mp ha with ha|ha
   ·exact O a ha
   ·simp at ha;subst ha;exact yaA _ (by(clear c t T hi s1 s o hn;omega))
  ·rw[if_neg c];ac_nf;exact Run.ok ⟨_,rfl,_,own,_,rfl,rfl,by(clear c t T hi s1 s H hn;omega),O,T,t⟩
 ·rintro _ m' ⟨ρ,rfl,seed,own,x,rfl,rfl,o,O,s,s1⟩;ac_nf;simp only[zmV,zfi];erw [zoz];refine Run.ok ⟨_,m.length,rfl,⟨own,0,seed,0,?_,?_,?_,O,by decide,s,by(clear s o H hn;omega),by decide,by decide⟩,Fr.refl⟩
  ·simp
  ·rw[yO (by simp)];simp
  ·simp
open PySem L2
def dig(n:Int)(k:Nat):Nat:=if n/2^k%2=1 then 49 else 48
def dgs(n:Int):Nat->List Nat
 |0=>[]|k+1=>dig n k::dgs n k
theorem zbr(n:Int):∀k,(dgs n k).length=k
 |0=>rfl|k+1=>by rw[dgs,yx,zbr n k]
theorem zpo(n:Int):∀k,Bin (dgs n k)
 |0=>fun c h=>by simp[dgs]at h|k+1=>fun c h=>by
  rw[dgs,yA]at h;rcases h with rfl|h
  ·unfold dig;split <;> simp
  ·exact zpo n k c h
theorem zfP{a b:af}(h:a.cps.toList=b.cps.toList):a=b:=by
 cases a;cases b;congr 1;exact ybT h
theorem zpN{x:Int}{w:Nat}(g:w<=40):Run (zeE [.int x,.int w] m) fun a m'=>a = .str ⟨(dgs x w).toArray⟩/\m'=m:=by
 unfold zeE zjo;erw [zdU (by(clear g;omega)) (by omega),y8];ac_nf;refine Run.bind (zaN (fun k ρ m'=>∃(X:Option D),ρ = [aa (.int (x/2^k)),aa (.int w),aa (.str ⟨(dgs x k).toArray⟩),X]/\m'=m) (zbu 0 w) 0 ⟨none,by rw[Int.pow_zero,ycD];rfl,rfl⟩ ?_) ?_
 ·rintro i d ρ m' hd ⟨X,rfl,rfl⟩;have hi:i<w:=by
   have:=(yc.mp hd).1;rw[zaO]at this;exact this
  rw[yh];have H:x/2^i/2=x/2^(i+1):=by rw[Int.ediv_ediv_of_nonneg (ydd (p2 i)),ycb]
  have F:∀(c:Nat),c=dig x i->Run ((zaP (.str ⟨#[c]⟩) (.str ⟨(dgs x i).toArray⟩) m').bind fun a m=>(zic (.int (x/2^i)) (.int 2) m).bind fun b m=>Res.ok (Fl.nx [aa b,aa (.int w),aa a,aa d]) m) fun n m2=>∃ρ2,n=Fl.nx ρ2/\∃(X:Option D),ρ2=[aa (.int (x/2^(i+1))),aa (.int w),aa (.str ⟨(dgs x (i+1)).toArray⟩),X]/\m2=m':=by
   intro c f;have l:(⟨(dgs x i).toArray⟩:af).length=i:=by show (dgs x i).toArray.size=i;rw[yG,zbr]
   have j:(⟨#[c]⟩:af).length=1:=rfl;rw[ztQ (by rw[l,j];exact yam (zaQ (by(clear j l f H;omega))))];erw [ztH (by decide)];erw [H];have e:(⟨#[c]⟩:af)++⟨(dgs x i).toArray⟩=⟨(dgs x (i+1)).toArray⟩:=by
    refine zfP ?_;rw[ybi,dgs,f];simp
   rw[e];exact Run.ok ⟨_,rfl,_,rfl,rfl⟩
  erw [zbO (by decide)];ac_nf;rcases (show x/2^i%2=0∨x/2^i%2=1 by(clear H hi g;omega)) with h | h
  ·rw[h,str_0];ac_nf;exact F 48 (by unfold dig;rw[h];rfl)
  ·rw[h,str_1];ac_nf;exact F 49 (by unfold dig;rw[h];rfl)
 ·rintro _ m' ⟨ρ,rfl,X,rfl,rfl⟩;erw [yh,zaO];ac_nf;exact Run.ok ⟨rfl,rfl⟩
theorem zr0(n:Int):∀w,(yC w).map (fun i=>dig n (w-1-i))=dgs n w
 |0=>rfl|w+1=>by
  rw[ybx,yy,yV,dgs,<- zr0 n w];congr 1;refine ybj fun i hi=>?_;show dig n (w+1-1-(i+1))=dig n (w-1-i);congr 1;omega
theorem zsm:zrz [.int (ybn (n/2^p) 1)] m = .ok (.str (zlm (dig n p))) m:=by
 rw[PyProof.Rows.bitAnd_m1];unfold dig;rcases (show n/2^p%2=0∨n/2^p%2=1 by omega) with h|h
 ·rw[h,str_0];rfl
 ·rw[h,str_1];rfl
theorem join_m{cs:List Nat}(h:cs.length<=1000000):zjc (.str "") [.lst (cs.map fun c=>D.str (zlm c))] m = .ok (.str ⟨cs.toArray⟩) m:=by
 simp only[zjc,lOf,yaa,zht];rw[if_pos (zqX _ (fun a ha=>by obtain⟨c,_,rfl⟩:=yT.mp ha;rfl) (by simpa using h))];congr 2;exact zfP (by rw[zoP])
def bitD(n:Int)(d:D):D:=match d with
 |.int p=>.str (zlm (dig n p.toNat))|d=>d
theorem rev_ok{w:Nat}(h:w<=1000):revR [.int w] m = .ok ((yC w).map fun i:Nat=>.int ((w:Int)-1-i)) m:=by
 rw[znL];unfold zqq;simp only;rw[if_pos ⟨by(clear h;omega),by omega⟩,y8]
theorem shr_i:shrD (.int n) (.int (p:Nat)) m = .ok (.int (n/2^p)) m:=by
 unfold shrD;simp only;rw[if_pos (by omega),y8]
theorem and_i{b:Int}:andD (.int a) (.int b) m = .ok (.int (ybn a b)) m:=rfl
theorem bit_el{x:Option D}:eFn zrz (zac (eOp andD (eOp shrD (zag 0) (zag 2)) (eC (.int 1))) zak) [aa (.int n),x,aa (.int (p:Nat))] m = .ok (.str (zlm (dig n p))) m:=by
 simp -implicitDefEqProofs only[eFn,zac,zak,eOp,zag,eC,bind_ok,yd5,yb9,shr_i,and_i,zsm]
theorem zcW{w:Nat}(h:w<=1000):Run (zcp [.int n,.int w] m) fun a m'=>a = .str ⟨(dgs n w).toArray⟩/\m'=m:=by
 unfold zcp zlG;erw [zbw (ds:=(yC w).map fun i:Nat=>.int ((w:Int)-1-i)) (bitD n)]
 ·ac_nf;have e:((yC w).map fun i:Nat=>D.int ((w:Int)-1-i)).map (bitD n)=(dgs n w).map fun c=>D.str (zlm c):=by
   rw[<- zr0,yV,yV];refine ybj fun i hi=>?_;have hi:=yal.mp hi;show D.str (zlm (dig n ((w:Int)-1-i).toNat))=D.str (zlm (dig n (w-1-i)));rw[show ((w:Int)-1-i).toNat=w-1-i by(clear hi h;omega)]
  rw[e,join_m (by rw[zbr];omega)];ac_nf;exact Run.ok ⟨rfl,rfl⟩
 ·ac_nf;exact rev_ok h
 ·simp;omega
 ·intro d hd;simp only[yT,yal]at hd;obtain⟨i,hi,rfl⟩:=hd;obtain⟨p,H⟩:∃p:Nat,(w:Int)-1-i=p:=⟨((w:Int)-1-i).toNat,by(clear h;omega)⟩;rw[H];refine⟨_,rfl,bit_el.trans ?_⟩;simp only[bitD,y8]
def pcK(fs:List Fd)(wys:List Wy)(hd:List Int):Nat->List Nat
 |0=>[]|k+1=>pcK fs wys hd k++match fs[k]?,wys[k]?,hd[k]? with
  |some f,aa w,aa v=>dgs (v%2^w.w f.b) (w.w f.b)|_,_,_=>[]
theorem zf5{fs:List Fd}{wys:List Wy}{hd:List Int}(H:WyOk fs wys)(a:HdOk fs hd):∀k,k<=fs.length->(pcK fs wys hd k).length=zeP (zcr fs wys) k
 |0,_=>by simp[pcK,zeP]|k+1,h=>by
  have e1:=yf (show k<fs.length by omega);have e:=yf (show k<wys.length by rw[H.len];omega);have E:=yf (show k<hd.length by rw[a.len];omega);rw[pcK,e1,e,E,yD,zf5 H a k (by omega),zdm (zdk e1 e)];simp only[zbr]
theorem zkh{fs:List Fd}{wys:List Wy}{hd:List Int}:∀k,Bin (pcK fs wys hd k)
 |0=>fun c h=>by simp[pcK]at h|k+1=>fun c h=>by
  rw[pcK]at h;rcases y6.mp h with h|h
  ·exact zkh k c h
  ·split at h
   ·exact zpo _ _ c h
   ·simp at h
theorem zh7{fs:List Fd}{b:Int}(hs:zhw fs)(hn:fs.length<=12)(o:WyOk fs wys)(s:HdOk fs hd) : Run (zcR [shD fs n,fmD a b wys,.tup (hd.map D.int)] m) fun x m'=>x = .str ⟨(pcK fs wys hd fs.length).toArray⟩/\m'=m:=by
 unfold zcR zgu;ac_nf;have u:∀m,ixD (shD fs n) (.int 0) m = .ok (.tup (fs.map Fd.e)) m:=fun m=>ix_t0 _ _;have y:∀m,ixD (fmD a b wys) (.int 2) m = .ok (.tup (wys.map Wy.e)) m:=fun m=>ix_t2 _ _ _ _;rw[u];erw [y];ac_nf;simp only[zip3];rw[if_pos (by simp[o.len,s.len])];ac_nf;refine Run.bind (zaN (fun k ρ m'=>∃(r q p X:Option D),ρ = [aa (shD fs n),aa (fmD a b wys),aa (.tup (hd.map D.int)),aa (.str ⟨(pcK fs wys hd k).toArray⟩),r,q,p,X]/\m'=m) _ 0 ⟨_,_,_,_,rfl,rfl⟩ ?_) ?_
 ·rintro i d ρ m' t ⟨r,q,p,X,rfl,rfl⟩;obtain⟨f,w,v,E,z,C,rfl⟩:=zr8 t;have hi:i<fs.length:=(yc.mp E).1;rw[yh];have g:=Wy.w_le (o.at' i _ _ E z);obtain⟨H,l,F⟩:=hs i f E;have j:=zfO hs o (i+1) (by(clear l H g hn;omega));have h:=zdm (zdk E z);have c:=zf5 o s i (by(clear h j l H g hn;omega));erw [zav zdw];erw [zcH (by(clear c h j H hi hn;omega))];erw [zbO (p2 _)];erw [zav (zpN (by(clear c h j H hi hn;omega)))];ac_nf;have B:(⟨(pcK fs wys hd i).toArray⟩:af).length=zeP (zcr fs wys) i:=by show (pcK fs wys hd i).toArray.size=_;rw[yG,c]
  have A:(⟨(dgs (v%2^w.w f.b) (w.w f.b)).toArray⟩:af).length=w.w f.b:=by show (dgs (v%2^w.w f.b) (w.w f.b)).toArray.size=_;rw[yG,zbr]
  rw[ztQ (by rw[B,A];exact yam (zaQ (by(clear A B c l H g;omega))))];ac_nf;have e:(⟨(pcK fs wys hd i).toArray⟩:af)++⟨(dgs (v%2^w.w f.b) (w.w f.b)).toArray⟩=⟨(pcK fs wys hd (i+1)).toArray⟩:=by
   refine zfP ?_;rw[ybi,pcK,E,z,C]
  rw[e];exact Run.ok ⟨_,rfl,_,_,_,_,rfl,rfl⟩
 ·rintro _ m' ⟨ρ,rfl,r,q,p,X,rfl,rfl⟩;erw [yh,zk1 o.len s.len];ac_nf;exact Run.ok ⟨rfl,rfl⟩
open PySem PyProof.Rows L2 Mth
theorem zgh:∀ts:List af,(yca (yE "") ts).cps.toList=(ts.map fun t=>t.cps.toList).flatten
 |[]=>rfl|[t]=>by
  show t.cps.toList=_;simp
 |t::d::r=>by
  show (t++yE "" ++ yca (yE "") (d::r)).cps.toList=_;rw[ybi,ybi,zgh (d::r)];show t.cps.toList++[]++_=_;simp
def txD(l:List Nat):D := .str ⟨l.toArray⟩
theorem zjO:∀ls:List (List Nat),zfs (ls.map txD)=aa (ls.map fun l=>⟨l.toArray⟩)
 |[]=>rfl|a::r=>by simp only[yy,txD,zfs];rw[show r.map (fun l=>txD l)=r.map txD from rfl];rw[zjO r];rfl
theorem sum_bd(l:List (List Nat))(h:∀t∈l,t.length<=1000):(l.map yaY).sum<=1000*l.length:=by
 induction l with
 |nil=>exact yb _|cons t r i=>
  rw[yy,yby,yx];have b:=h t (by simp);have a:=i fun u H=>h u (yY _ H);omega
theorem ztm{L:List (List Nat)}(h:∀t∈L,t.length<=1000)(hl:L.length<=1000):zjc (.str "") [.lst (L.map txD)] m = .ok (.str ⟨L.flatten.toArray⟩) m:=by
 have H:JoinOk (yE "") (L.map fun l=>(⟨l.toArray⟩:af))=ae:=by
  refine joinOk_of ?_;have z:(yE "").length=0:=by decide
  rw[z,Nat.mul_zero,ycc];have:=sum_bd L h;have e:((L.map fun l=>(⟨l.toArray⟩:af)).map fun t=>t.length)=L.map yaY:=by
   rw[yV];rfl
  exact yM (by first | exact ybp (congrArg List.sum e) | (rw[e];exact yb _)) (by(clear z;omega))
 simp only[zjc,lOf,yaa,zjO];rw[if_pos H];congr 2;refine zfP ?_;show (yd6 (yE "") _).cps.toList=_;rw[StrLaws.glued_eq_join,zgh,yV];show (L.map id).flatten=_;rw[List.map_id]
def pc1(fs:List Fd)(wys:List Wy)(hd:List Int)(k:Nat):List Nat:=match fs[k]?,wys[k]?,hd[k]? with
 |some f,aa w,aa v=>dgs (v%2^w.w f.b) (w.w f.b)|_,_,_=>[]
theorem zlk(fs:List Fd)(wys:List Wy)(hd:List Int):∀k,pcK fs wys hd k=((yC k).map (pc1 fs wys hd)).flatten
 |0=>rfl|k+1=>by
  rw[zdV,List.flatten_append,<- zlk fs wys hd k,pcK];congr 1;simp only[List.flatten_cons,List.flatten_nil,yaf,pc1];all_goals (cases fs[k]? <;> cases wys[k]? <;> cases hd[k]? <;> rfl)
theorem zm6{ys:List D}:∀{i:Nat}{d:D},(zdZ xs ys)[i]?=aa d->∃x y,xs[i]?=aa x/\ys[i]?=aa y/\d = .tup [x,y]:=by
 induction xs generalizing ys with
 |nil=>intro i d h;simp[zdZ]at h|cons x xs I=>
  intro i d h;cases ys with
  |nil=>simp[zdZ]at h|cons y ys=>
   rw[zdZ]at h;cases i with
   |zero=>simp at h;exact⟨x,y,rfl,rfl,h.symm⟩|succ i=>
    simp only[yb9]at h;obtain⟨a,b,e,c,H⟩:=I h;exact⟨a,b,by simpa using e,by simpa using c,H⟩
theorem zdj:∀{xs ys:List D},xs.length<=ys.length->(zdZ xs ys).length=xs.length
 |[],ys,_=>by simp[zdZ]|x::xs,[],h=>by simp at h|x::xs,y::ys,h=>by
  rw[zdZ,yx,yx,zdj (by simpa using h)]
theorem zdX{fs:List Fd}{b:Int}(hs:zhw fs)(hn:fs.length<=12)(g:WyOk fs wys)(f:HdOk fs hd) : Run (zc5 [shD fs n,fmD a b wys,.tup (hd.map D.int)] m) fun x m'=>x = .str ⟨(pcK fs wys hd fs.length).toArray⟩/\m'=m:=by
 unfold zc5 zly;ac_nf;have H:(hd.map D.int).length<=((zcr fs wys).map fun k:Nat=>D.int k).length:=by rw[yd,yd,zbl g,f.len];exact yb _
 refine Run.bind (zdJ (ds:=zdZ (hd.map D.int) ((zcr fs wys).map fun k:Nat=>.int k)) (fun k m'=>m'=m) (fun i d x=>∃l,x=txD l/\l=pc1 fs wys hd i) ?_ (by rw[zdj H,yd,f.len];(clear H;omega)) rfl ?_) ?_
 ·erw [zav (zeR (by(clear H;omega)) g.len)];ac_nf;simp only[zm7];rw[if_pos H]
 ·rintro i d m' u rfl;obtain⟨x,y,q,w,rfl⟩:=zm6 u;have hi:i<fs.length:=by
   have:=(yc.mp q).1;rw[yd,f.len]at this;exact this
  have E:=yf hi;have j:=yf (show i<wys.length by rw[g.len];exact hi);have r:=yf (show i<hd.length by rw[f.len];exact hi);rw[yI,r,yaz]at q;rw[yI,zdk E j,yaz]at w;cases q;cases w;have s:=Wy.w_le (g.at' i _ _ E j);have v:=(hs i _ E).2.1;erw [zav (zb9 (by(clear H hn;omega)))];erw [zav (zcW (by(clear H hn;omega)))];exact Run.ok ⟨⟨_,rfl,by rw[pc1,E,j,r]⟩,rfl⟩
 ·rintro xs m' ⟨h,C,rfl⟩;rw[zdj H,yd,f.len]at h;obtain⟨L,rfl,o⟩:=lift txD (fun i l=>l=pc1 fs wys hd i) xs 0 fun i x z=>by
   have hi:i<(zdZ (hd.map D.int) ((zcr fs wys).map fun k:Nat=>D.int k)).length:=by
    have:=(yc.mp z).1;rw[zdj H,yd,f.len]
    (clear H hn;omega)
   rw[yh];exact C i _ x (yf hi) z
  have p:L.length=fs.length:=by simpa using h
  have e:L=(yC fs.length).map (pc1 fs wys hd):=by
   refine yd7 (by simp[p]) fun i q w=>?_;have:=o i L[i] (yf q);rw[yh]at this;rw[this];simp
  have B:∀t∈L,t.length<=1000:=by
   intro t A;obtain⟨i,hi,rfl⟩:=yb4.mp A;have:=o i L[i] (yf hi);rw[yh]at this;have c:i<fs.length:=by(clear h H hn;omega)
   have E:=yf c;have j:=yf (show i<wys.length by rw[g.len];exact c);have r:=yf (show i<hd.length by rw[f.len];exact c);rw[this,pc1,E,j,r];have s:=Wy.w_le (g.at' i _ _ E j);have v:=(hs i _ E).2.1;simp only[zbr]
   (clear p h H hn;omega)
  erw [ztm B (by(clear h H;omega))];ac_nf;refine Run.ok ⟨?_,rfl⟩;rw[zlk,e]
def fmE(p:Int×List Int):D := .tup [.int p.1,.tup (p.2.map D.int)]
theorem ne_tup(ns M:List Int):neD (.tup (ns.map D.int)) (.tup (M.map D.int)) m = .ok (.bl (!decide (ns=M))) m:=by
 have h:=zph ns M;simp only[neD,rs,h]
theorem eq_tup(ns M:List Int):eqD (.tup (ns.map D.int)) (.tup (M.map D.int)) m = .ok (.bl (decide (ns=M))) m:=by
 have h:=zph ns M;simp only[eqD,rs,h]
section
variable{fs:List Fd}{b:Int}
theorem zn4(hs:zhw fs)(hn:fs.length<=12)(h:WyOk fs wys)(b:HdOk fs hd):(⟨(pcK fs wys hd fs.length).toArray⟩:af).length<=sizeLine/\(⟨(pcK fs wys hd fs.length).toArray⟩:af).cps.size=(zcr fs wys).sum:=by
 have a:=zf5 h b fs.length (yb _);have c:=zfO hs h fs.length (yb _);have H:=zqa h;have e:(⟨(pcK fs wys hd fs.length).toArray⟩:af).cps.size=zeP (zcr fs wys) fs.length:=by show (pcK fs wys hd fs.length).toArray.size=_;rw[yG,a]
 refine⟨?_,by rw[e,H]⟩;show (⟨(pcK fs wys hd fs.length).toArray⟩:af).cps.size<=sizeLine;rw[e];exact yam (zaQ (by(clear e H a;omega)))
end
theorem zeN{b : Type}(f : b -> Bool):∀l:List b,zih (l.map fun t=>D.bl (f t))=aa (l.map f)
 |[]=>rfl|a::r=>by simp only[yy,zih,zeN f r];rfl
open PySem L2
variable{m':Sto}
theorem PotAt.via(h:PotAt m0 p q c m)(h':PotAt m p q c' m'):PotAt m0 p q c' m':=⟨h'.ex,h.fr.trans h'.fr⟩
theorem PotAt.kept(h':PotAt m p q c' m')(hr:m[r]?=aa o)(H:r≠p)(h:r≠q):m'[r]?=aa o:=by
 rw[h'.fr.at' r (yc.mp hr).1 H h];exact hr
theorem neg_1:ztf (.int 1) m = .ok (.int (-1)) m:=rfl
theorem new_1(a:D):zdg [a] m = .ok (.ob m.length) (m++[.lst [a]]):=if_pos (zb6 (by simp))
theorem ztn(h:m[r]?=aa (.lst (xs++[d]))):ixD (.ob r) (.int (-1)) m = .ok d m:=by
 simp only[ixD,h];have:L2.atI (xs++[d]) (-1)=aa d:=by
  unfold L2.atI L2.ixN;rw[if_neg (by decide),if_pos (by simp;omega)];have e:((-1:Int)+((xs.length:Int)+1)).toNat=xs.length:=by omega
  simp[e]
 rw[this];rfl
theorem zoS{n:Nat}(h:m[r]?=aa (.lst xs))(hd:xs[n]?=aa d):ixD (.ob r) (.int n) m = .ok d m:=by
 simp only[ixD,h];rw[zgF,hd];rfl
theorem zi8(h:m[r]?=aa (.lst xs)):zdb [.ob r] m = .ok (.int xs.length) m:=by simp only[zdb,h]
theorem zsr{k:Nat}{fs:List Fd}(C:PotAt m0 p q c m)(o:c+60+84*k<2^40)(hs:zhw fs)(hn:fs.length<=12)(k0:0<k)(k1:k<=100) : Run (zgs [.ob p,shD fs n,.int k] m) fun a m'=>∃(r:Nat)(H:List (List Int)),a = .ob r/\m'[r]?=aa (.lst (H.map zbS))/\H.length=k/\(∀h∈H,HdOk fs h)/\r≠p/\r≠q/\PotAt m0 p q (c+60+84*k) m':=by
 unfold zgs zlB;ac_nf;refine Run.bind (zq6 C (by(clear k1 k0 hn;omega)) hs hn) ?_;rintro _ m1 ⟨fo,rfl,E,l⟩;erw [new_1];ac_nf;have t:PotAt m0 p q (c+60) (m1++[.lst [.tup (fo.map D.int)]]):=l.app;have hr:(m1++[MO.lst [.tup (fo.map D.int)]])[m1.length]?=aa (.lst [.tup (fo.map D.int)]):=by simp
 have f:m1.length≠p:=yR l.lt.1;have b:m1.length≠q:=yR l.lt.2;have hr0:m0.length<=m1.length:=l.fr.len;generalize m1.length=r at hr f b hr0 ⊢;generalize m1++[MO.lst [.tup (fo.map D.int)]]=mA at t hr ⊢;rw[zdU (by(clear hr0 b f k1 hn o;omega)) (by(clear hr0 b f k0 hn o;omega))];ac_nf;generalize F:((k:Int)-1).toNat=N;refine Run.bind (zaN (fun j ρ m=>∃(X:Option D)(H:List (List Int)),ρ = [aa (.ob p),aa (shD fs n),aa (.int k),aa (.ob r),X]/\m[r]?=aa (.lst (H.map zbS))/\H.length=j+1/\(∀h∈H,HdOk fs h)/\PotAt m0 p q (c+60+84*j) m) (zbu 0 N) 0 ⟨_,[fo],rfl,hr,rfl,fun h y=>by simp at y;subst y;exact E,t⟩ ?_) ?_
 ·rintro i d ρ m hd ⟨X,H,rfl,g1,G,A,s⟩;have hi:i<N:=by
   have:=(yc.mp hd).1;rw[zaO]at this;exact this
  rw[yh]at G s ⊢;erw [if_pos (zdx g1)];erw [neg_1];ac_nf;obtain⟨w,B,e⟩:∃w B,H=w++[B]:=⟨_,_,(List.dropLast_concat_getLast (by intro z;rw[z]at G;simp at G)).symm⟩;have x:=g1;rw[e,yaj]at x;rw[ztn x];ac_nf;refine Run.bind (zq7 s.re (by(clear G hr0 b f k1 k0 hn;omega)) hs hn (A B (by rw[e];simp))) ?_;rintro _ m2 ⟨I,rfl,y,u⟩;ac_nf;have v:=u.kept g1 f b;rw[zdI v (by rw[yd];exact zaQ (by(clear hr0 b f k0 hn o;omega)))];ac_nf;refine Run.ok ⟨_,rfl,_,H++[I],rfl,?_,by simp[G],?_,((s.via u).set hr0 f b).more (by(clear hi G F hr0 b f k1 k0 hn o;omega))⟩
  ·rw[zbY v,yaj];rfl
  ·intro h g;rcases y6.mp g with g|g
   ·exact A h g
   ·simp at g;subst g;exact y
 ·rintro _ m3 ⟨ρ,rfl,X,H,rfl,g1,G,A,s⟩;rw[zaO,yh]at G s;ac_nf;exact Run.ok ⟨r,H,rfl,g1,by(clear hr0 b f k1 hn o;omega),A,f,b,s.more (by(clear G hr0 b f k1 k0 hn o;omega))⟩
theorem zst{i j:Int}(b:0<=i)(a:i<=1000000)(H:0<=j)(h:j<=1000000):rng2 [.int i,.int j] m = .ok (zbu i (j-i).toNat) m:=by rw[zkc];exact if_pos ⟨by(clear h H a;omega),by(clear h H b;omega),by(clear h a b;omega),by(clear H a b;omega)⟩
def fmF(h:List (List Int))(k:Nat)(d:D):D:=match d with
 |.int i=>fmE (i,h.getD ((k:Int)-i).toNat [])|d=>d
theorem zqV{g:List D->Sto->Res D}{l:List Int}(h:g ds m = .ok (.ob m.length) (m++[.lst (l.map D.int)])):zti g ds m = .ok (.lst (l.map D.int)) m:=by
 unfold zti;rw[h,bind_ok];have e:frz (m++[.lst (l.map D.int)]) m.length (.ob m.length) = .lst (l.map D.int):=by simp[frz]
 rw[e];have H:clsd m.length (.lst (l.map D.int))=ae:=by
  have:∀l:List Int,clsdL m.length (l.map D.int)=ae:=by
   intro l;induction l with
   |nil=>simp[clsdL]|cons a r i=>simp[clsdL,clsd,i]
  simp[clsd,this]
 rw[if_pos ⟨by simp,H⟩]
theorem ztu(b:Bool):zfH [.bl b] m = .ok (.int (if b then 1 else 0)) m:=rfl
theorem lst_1(a:D):zc6 [a] m = .ok (.lst [a]) m:=if_pos (zb6 (by simp))
theorem max_i(a b:Int):zi6 [.int a,.int b] m = .ok (.int (if b>a then b else a)) m:=rfl
theorem neg_i(a:Int):ztf (.int a) m = .ok (.int (-a)) m:=rfl
theorem zr4(a:Int):zpO (.int a) m = .ok (.int ((yar a:Nat):Int)) m:=rfl
theorem add_l{a b:List D}(h:a.length+b.length<=sizeLine):zaP (.lst a) (.lst b) m = .ok (.lst (a++b)) m:=if_pos h
theorem min_l(h:ns≠[]):zkB [.lst (ns.map D.int)] m = .ok (.int (zm3 ns)) m:=by
 simp only[zkB,lOf,yaa,zcc,if_pos h]
theorem max_l(h:ns≠[]):zmJ [.lst (ns.map D.int)] m = .ok (.int (maxV ns)) m:=by
 simp only[zmJ,lOf,yaa,zcc,if_pos h]
theorem bits_2(h:1<n):2<=yar n:=by
 unfold yar;rw[if_neg (by simp;omega)];have:1<=n.natAbs.log2:=(Nat.le_log2 (by omega)).mpr (by omega)
 (clear h;omega)
variable{fm:List (Int×List Int)}
theorem zks{fs:List Fd}(hs:zhw fs)(g:fs[i]?=aa f)(r:HdOk fs hd)(c:fm.length<=100)(s:∀x∈fm,HdOk fs x.2) : ∃os:List Int,zcm [shD fs n,.tup (hd.map D.int),.tup (fm.map fmE),.int i] m = .ok (.lst (os.map D.int)) m/\os.length=fm.length:=by
 have hi:i<fs.length:=(yc.mp g).1;obtain⟨H,h,_⟩:=hs i f g;have K:Run (zaZ 9 zdD [shD fs n,.tup (hd.map D.int),.tup (fm.map fmE),.int i] m) fun a m'=>∃os:List Int,a = .ob m.length/\m'=m++[.lst (os.map D.int)]/\os.length=fm.length:=by
  unfold zdD;ac_nf;have E:∀m,ixD (shD fs n) (.int 0) m = .ok (.tup (fs.map Fd.e)) m:=fun m=>ix_t0 _ _;rw[E];erw [zqY g];erw [zcH (by(clear H hi c;omega))];erw [zgc];ac_nf;refine Run.bind (zaN (fun k ρ m'=>∃(q p X:Option D)(os:List Int),ρ = [aa (shD fs n),aa (.tup (hd.map D.int)),aa (.tup (fm.map fmE)),aa (.int i),aa (.int (2^f.b)),aa (.ob m.length),q,p,X]/\m'=m++[.lst (os.map D.int)]/\os.length=k) (fm.map fmE) 0 ⟨_,_,_,[],rfl,rfl,rfl⟩ ?_) ?_
  ·rintro j d ρ m' l ⟨q,p,X,os,rfl,rfl,o⟩;rw[yh]at o ⊢;rw[yI]at l;obtain⟨x,t,rfl⟩:=yag.mp l;have w:j<fm.length:=(yc.mp t).1;have b:=s x (yW t);have z:=yf (show i<hd.length by rw[r.len];exact hi);have y:=yf (show i<x.2.length by rw[b.len];exact hi);obtain⟨v,V⟩:=b.at' i f _ g y;have hm:(m++[MO.lst (os.map D.int)])[m.length]?=aa (.lst (os.map D.int)):=by simp
   unfold fmE;erw [zcD z];erw [zav (zha hs g y v V (by rw[r.len];(clear v w o h H c;omega)))];erw [zbO (p2 _)];erw [if_pos (zdx hm)];erw [zgT (by decide)];erw [ztu];erw [zgT ⟨by have:=p2 f.b;(clear V v w o h H c;omega),p2lt h⟩];ac_nf;generalize hd[i]'(by rw[r.len];exact hi)-exV f.b f.kd (x.2[i]'(by rw[b.len];exact hi)) x.1 x.2 hd=F;rw[zdI hm (by rw[yd];exact zaQ (by(clear V v h H;omega)))];ac_nf;generalize F%2^f.b-2^f.b*_=u;exact Run.ok ⟨_,rfl,_,_,_,os++[u],rfl,by simp,by simp[o]⟩
  ·rintro _ m' ⟨ρ,rfl,q,p,X,os,rfl,rfl,o⟩;ac_nf;exact Run.ok ⟨os,rfl,rfl,by simpa using o⟩
 obtain⟨a,m',e,os,rfl,rfl,o⟩:=K;exact⟨os,zqV e,o⟩
def fitI:EV:=by walk_at "#vetJWsKvis<s<slt8tR7%tOt8t8s<t]%"
def fitW:EV:=by walk_at "#(sP$tWs9(v0sl$sQwxfsKW%t`tjcsafsKW)tavfu&2"
def fitB:EV:=by walk_at "#(sPs4sQwwWt`tavfu&%s9s!^=ua"
theorem zgW:zgx=(zat (zaC (eFn zdg zak) (gN 4))
 (zat (zfx (zfB (eOp ixD (zag 1) (eC (.int 0)))) (gT 2 (zas (gN 5) (zas (gN 6) zbn)))
 (zat (zaC (eOp zaP (eFn zc6 (zac (eC (.int 0)) zak)) (eFn zcm (zac (zag 1) (zac (zag 2) (zac (zag 3) (zac (zag 5) zak)))))) (gN 7))
 (zat (sPar 8 9 (zac (eFn zkB (zac (zag 7) zak)) (zac (eFn zmJ (zac (zag 7) zak)) zak)))
 (zat (zaC fitW (gN 10))
 (zat (zaC fitB (gN 11))
 (zat (zaC (eFn zc6 (zac (eFn zcb (zac (eC (.str "low")) (zac (zag 10) (zac (zag 11) zak)))) (zac (eFn zcb (zac (eC (.str "whole")) zak)) (zac (eFn zcb (zac (eC (.str "keep")) zak)) zak)))) (gN 12))
 (zcg (zb2 zcj za9 (zag 4) (zac (eOp ixD (zag 12) fitI) zak)))))))))
 (zaJ (eFn zeS (zac (zag 4) zak))))):=rfl
variable{x1 x2 x3 x4 x5 x7 x10 x11 x12:Option D}
theorem zri{lo hi:Int}(d:PotAt m0 p q c m)(h:c+1<2^40)(H:0<f.b) : Run (fitW [aa (.ob p),x1,x2,x3,x4,x5,aa f.e,x7,aa (.int lo),aa (.int hi),x10,x11,x12] m) fun a m'=>∃w:Nat,a = .int w/\0<w/\w<=f.b/\PotAt m0 p q (c+1) m':=by
 have E:∀m,ixD f.e (.int 1) m = .ok (.int f.b) m:=fun m=>ix_t1 _ _ _;unfold fitW;erw [E];erw [zr4];erw [max_i];ac_nf;have F:∀u:Int,1<=u->∃w:Nat,D.int (if u<f.b then u else f.b) = .int w/\0<w/\w<=f.b:=fun u g=>⟨(if u<f.b then u else f.b).toNat,by congr 1;split <;> (clear H h;omega),by split <;> (clear h;omega),by split <;> (clear g H h;omega)⟩;by_cases C:1<hi-lo
 ·rw[if_pos C];ac_nf;refine Run.bind (pick_run d (by(clear C H;omega)) (by decide) (by decide)) ?_;rintro _ m1 ⟨x,rfl,x0,x1,b,f1⟩;erw [ztu];ac_nf;have i:=bits_2 C;obtain⟨w,e,w0,w1⟩:=F ((if (yar (hi-lo):Int)>1 then (yar (hi-lo):Int) else 1)-(if x=0 then 1 else 0)) (by
   rw[if_pos (by(clear x1 x0 C H h;omega))];split <;> (clear x1 x0 C H h;omega))
  exact Run.ok ⟨w,e,w0,w1,b⟩
 ·rw[if_neg C];erw [zrR];ac_nf;obtain⟨w,e,w0,w1⟩:=F ((if (yar (hi-lo):Int)>1 then (yar (hi-lo):Int) else 1)-0) (by split <;> (clear C H h;omega));exact Run.ok ⟨w,e,w0,w1,d.more (by(clear w1 w0 C H h;omega))⟩
variable{x6 x9:Option D}
theorem zrk{w:Nat}{lo:Int}(f:PotAt m0 p q c m)(H:c+1<2^40)(h:w<=40)(hl:lo<=0) : Run (fitB [aa (.ob p),x1,x2,x3,x4,x5,x6,x7,aa (.int lo),x9,aa (.int w),x11,x12] m) fun a m'=>∃u:Int,a = .int u/\0<=u/\u<2^w/\PotAt m0 p q (c+1) m':=by
 unfold fitB;erw [neg_i];ac_nf;refine Run.bind (pick_run f (by(clear hl h;omega)) (by decide) (by decide)) ?_;rintro _ m1 ⟨x,rfl,x0,x1,b,f1⟩;erw [ztu];erw [zcH (by(clear x1 x0 hl H;omega))];ac_nf;have d:=p2 w;generalize (2:Int)^w=B at *;have e:(0:Int)<=if x=0 then 1 else 0:=by split <;> (clear d x1 x0 hl h H;omega)
 generalize (if x=0 then (1:Int) else 0)=u at e;refine Run.ok ⟨_,rfl,?_,?_,b⟩
 ·split <;> (clear x1 x0 h H;omega)
 ·split <;> (clear e d x1 x0 hl h H;omega)
theorem zrj{lo hi:Int}(b:PotAt m0 p q c m)(d:c+1<2^40) : Run (fitI [aa (.ob p),x1,x2,x3,x4,x5,x6,x7,aa (.int lo),aa (.int hi),x10,x11,x12] m) fun a m'=>∃j:Int,a = .int j/\0<=j/\j<3/\PotAt m0 p q (c+1) m':=by
 unfold fitI;ac_nf;by_cases C:lo<hi
 ·rw[if_pos C];ac_nf;refine Run.bind (pick_run b (by(clear C;omega)) (by decide) (by decide)) ?_;rintro _ m1 ⟨x,rfl,x0,x1,h,f1⟩;obtain⟨v,H,e⟩:=zbI (m:=m1) (xs:=[.int 0,.int 0,.int 0,.int 1,.int 2]) x0 x1;rw[e];simp only[yA,yK,or_false]at H;rcases H with rfl|rfl|rfl|rfl|rfl <;> exact Run.ok ⟨_,rfl,by decide,by decide,h⟩
 ·rw[if_neg C];ac_nf;refine Run.bind (pick_run b (by(clear C;omega)) (by decide) (by decide)) ?_;rintro _ m1 ⟨x,rfl,x0,x1,h,f1⟩;obtain⟨v,H,e⟩:=zbI (m:=m1) (xs:=[.int 2,.int 2,.int 0]) x0 x1;rw[e];simp only[yA,yK,or_false]at H;rcases H with rfl|rfl|rfl <;> exact Run.ok ⟨_,rfl,by decide,by decide,h⟩
theorem zmT{fs:List Fd}(N:PotAt m0 p q c m)(B:c+40<2^40)(hs:zhw fs)(hn:fs.length<=12)(hh:HdOk fs hd)(o:fm.length<=100)(hfo:∀x∈fm,HdOk fs x.2) : Run (zcU [.ob p,shD fs n,.tup (hd.map D.int),.tup (fm.map fmE)] m) fun a m'=>∃wys:List Wy,a = .tup (wys.map Wy.e)/\WyOk fs wys/\PotAt m0 p q (c+36) m':=by
 unfold zcU;rw[zgW];erw [zgc];ac_nf;have F:PotAt m0 p q c (m++[.lst []]):=N.app;have hr:(m++[MO.lst []])[m.length]?=aa (.lst []):=by simp
 have b:m.length≠p:=yR N.lt.1;have H:m.length≠q:=yR N.lt.2;have hr0:m0.length<=m.length:=N.fr.len;generalize m.length=r at hr b H hr0 ⊢;generalize m++[MO.lst []]=mA at F hr ⊢;have esh:∀m,ixD (shD fs n) (.int 0) m = .ok (.tup (fs.map Fd.e)) m:=fun m=>ix_t0 _ _;rw[esh];ac_nf;refine Run.bind (zaN (fun k ρ m'=>∃(W V T S R A z X:Option D)(wys:List Wy),ρ = [aa (.ob p),aa (shD fs n),aa (.tup (hd.map D.int)),aa (.tup (fm.map fmE)),aa (.ob r),W,V,T,S,R,A,z,X]/\m'[r]?=aa (.lst (wys.map Wy.e))/\wys.length=k/\(∀(i:Nat)(f:Fd)(w:Wy),fs[i]?=aa f->wys[i]?=aa w->w.Ok f.b)/\PotAt m0 p q (c+3*k) m') _ 0 ⟨_,_,_,_,_,_,_,_,[],rfl,hr,rfl,fun i f w _ h=>by simp at h,F⟩ ?_) ?_
 ·rintro i d ρ m' hd' ⟨W,V,T,S,R,A,z,X,wys,rfl,g1,G,g3,C⟩;obtain⟨f,Q,rfl⟩:=zdH hd';have hi:i<fs.length:=(yc.mp Q).1;rw[yh]at G C ⊢;obtain⟨s,t,_⟩:=hs i f Q;obtain⟨os,eo,O⟩:=zks (n:=n) (m:=m') hs Q hh o hfo;erw [lst_1];erw [eo];erw [add_l (by simp;exact yam (zaQ (by(clear t s hi G hr0 H b hn B;omega))))];ac_nf;have ez:D.int 0::os.map D.int=(0::os).map D.int:=rfl;rw[ez,min_l (by simp)];erw [ez,max_l (by simp)];ac_nf;have l:zm3 (0::os)<=0:=zoy (by simp);generalize zm3 (0::os)=lo at l ⊢;generalize maxV (0::os)=hi' at ⊢;refine Run.bind (zri C.re (by(clear l O t s G hr0 H b o;omega)) s) ?_;rintro _ m1 ⟨w,rfl,w0,w1,hp1⟩;ac_nf;refine Run.bind (zrk hp1 (by(clear w1 w0 l O t s G hr0 H b o;omega)) (by(clear w0 l O s hi G hr0 H b o hn B;omega)) l) ?_;rintro _ m2 ⟨u,rfl,E,U,J⟩;erw [if_pos (zdx (J.kept g1 b H))];ac_nf;refine Run.bind (zrj J (by(clear U E w1 w0 l O t s G hr0 H b o;omega))) ?_;rintro _ m3 ⟨j,rfl,M,L,I⟩;ac_nf;have K:=I.kept g1 b H;obtain⟨v,hv,e⟩:=zbI (m:=m3) (xs:=[(Wy.low w u).e,Wy.whole.e,Wy.keep.e]) M (by simpa using L);have Z:∃wy:Wy,v=wy.e/\wy.Ok f.b:=by
   simp only[yA,yK,or_false]at hv;rcases hv with rfl|rfl|rfl
   ·exact⟨_,rfl,w0,w1,E,U⟩
   ·exact⟨_,rfl,trivial⟩
   ·exact⟨_,rfl,trivial⟩
  obtain⟨wy,rfl,Y⟩:=Z;simp only[Wy.e]at e;rw[e];erw [zdI K (by rw[yd];exact zaQ (by(clear L M U E w1 w0 l O t s hr0 H b o B;omega)))];ac_nf;refine Run.ok ⟨_,rfl,_,_,_,_,_,_,_,_,wys++[wy],rfl,?_,by simp[G],?_,((C.via I).set hr0 b H).more (by(clear L M U E w1 w0 l O t s hi G hr0 H b o hn B;omega))⟩
  ·rw[zbY K,yaj];rfl
  ·intro k g w' hg y;rcases ybC k wys.length with P|P|P
   ·rw[yO P]at y;exact g3 k g w' hg y
   ·subst P;rw[G,Q]at hg;cases hg;simp at y;subst y;exact Y
   ·rw[ya9 (by simp;(clear L M U E w1 w0 l O t s hi G hr0 H b o hn B;omega))]at y;cases y
 ·rintro _ m' ⟨ρ,rfl,W,V,T,S,R,A,z,X,wys,rfl,g1,G,g3,C⟩;rw[yh,zcz]at G C;erw [show zeS [.ob r] m' = .ok (.tup (wys.map Wy.e)) m' by simp only[zeS,g1]];ac_nf;exact Run.ok ⟨wys,rfl,⟨G,g3⟩,C.more (by(clear G hr0 H b o B;omega))⟩
theorem add_t{a b:List D}(h:a.length+b.length<=sizeLine):zaP (.tup a) (.tup b) m = .ok (.tup (a++b)) m:=if_pos h
theorem zh6{g:GV}{b:SV}(I:Nat->En->Sto->Prop)(R:D->Sto->Prop):∀(ds:List D)(k:Nat){ρ : En}{m:Sto},I k ρ m->(∀i d ρ m,ds[i]?=aa d->I (k+i) ρ m->Run ((g d ρ m).bind b) fun f m2=>(∃a,f = .nx a/\I (k+i+1) a m2)∨∃v,f = .rt v/\R v m2) →
  Run (zet g b ds ρ m) fun f m'=>(∃ρ',f = .nx ρ'/\I (k+ds.length) ρ' m')∨∃v,f = .rt v/\R v m'
 |[],k,ρ,m,h,_=>⟨_,m,rfl,.inl ⟨ρ,rfl,h⟩⟩|d::r,k,ρ,m,h,st=>by
  obtain⟨f,m2,e2,h2⟩:=st 0 d ρ m rfl h;rcases h2 with⟨a,rfl,h2⟩|⟨v,rfl,h2⟩
  ·obtain⟨F,m',e,H⟩:=zh6 I R r (k+1) h2 fun i d ρ m hd hi=>by
    have:=st (i+1) d ρ m (by simpa using hd) (by rw[show k+(i+1)=k+1+i by omega];exact hi);rw[show k+(i+1)+1=k+1+i+1 by omega]at this;exact this
   refine⟨F,m',?_,by rw[yx,show k+(r.length+1)=k+1+r.length by(clear H;omega)];exact H⟩;rw[zet,<- Res.bind_assoc,e2,bind_ok];exact e
  ·exact⟨.rt v,m2,by rw[zet,<- Res.bind_assoc,e2,bind_ok],.inr ⟨v,rfl,h2⟩⟩
section
theorem is_nn:isD .non .non m = .ok (.bl ae) m:=rfl
theorem isnt_nn:zkG .non .non m = .ok (.bl ai) m:=rfl
theorem ztr(xs:List D):zkG (.tup xs) .non m = .ok (.bl ae) m:=rfl
theorem isi_ss(s:af):zil "str" (.str s) m = .ok (.bl ae) m:=rfl
theorem zsb(a:Int):zeF [.int a] m = .ok (.bl ae) m:=by
 apply zav;unfold zeF zjp;erw [zrP];erw [zrQ];ac_nf;exact Run.ok ⟨rfl,rfl⟩
theorem zpP(a lo hi:Int):zcV [.int a,.int lo,.int hi] m = .ok (.bl (decide (lo<=a/\a<=hi))) m:=by
 apply zav;unfold zcV zgy;erw [zsb];ac_nf;by_cases h:lo<=a
 ·rw[if_pos h];ac_nf;exact Run.ok ⟨by congr 1;simp[h],rfl⟩
 ·rw[if_neg h];ac_nf;exact Run.ok ⟨by congr 1;simp[h],rfl⟩
theorem zts(xs:List D)(lo hi:Int):zjr [.tup xs,.int lo,.int hi] m = .ok (.bl (decide (lo<=xs.length/\(xs.length:Int)<=hi))) m:=by
 apply zav;unfold zjr zo6;erw [zoU];ac_nf;by_cases h:lo<=xs.length
 ·rw[if_pos h];ac_nf;exact Run.ok ⟨by congr 1;simp[h],rfl⟩
 ·rw[if_neg h];ac_nf;exact Run.ok ⟨by congr 1;simp[h],rfl⟩
theorem zoV(H:b<=1000000):zdP [.int v,.int b] m = .ok (.bl (decide (0<=v/\v<2^b))) m:=by
 apply zav;unfold zdP zjq;erw [zcH H];erw [zpP];ac_nf;refine Run.ok ⟨?_,rfl⟩;congr 2;exact propext ⟨fun h=>⟨h.1,by(clear H;omega)⟩,fun h=>⟨h.1,by(clear H;omega)⟩⟩
end
theorem zqb{fs:List Fd}{b:Int}(hs:zhw fs)(hn:fs.length<=12)(h:WyOk fs wys):zfa [shD fs n,fmD a b wys] m = .ok (.int ((zcr fs wys).sum:Nat)) m:=by
 apply zav;unfold zfa zlw;erw [zav (zeR (by omega) h.len)];ac_nf;have e:((zcr fs wys).map fun k:Nat=>D.int k)=((zcr fs wys).map fun k:Nat=>(k:Int)).map D.int:=by rw[yV];rfl
 rw[e];simp only[zpV,lOf,yaa,zcc];have hok:∀x,x∈((zcr fs wys).map fun k:Nat=>(k:Int))->0<=x/\x<=2^50:=by
  intro x c;simp only[yT]at c;obtain⟨k,f,rfl⟩:=c;obtain⟨i,hi⟩:=yaT.mp f;have H:i<fs.length:=by have:=(yc.mp hi).1;rw[zbl h]at this;exact this
  have E:=yf H;have d:=yf (show i<wys.length by rw[h.len];exact H);rw[zdk E d]at hi;cases hi;have:=Wy.w_le (h.at' i _ _ E d);have:=(hs i _ E).2.1
  (clear hn;omega)
 rw[if_pos ⟨hok,by rw[yd,zbl h];omega⟩];ac_nf;refine Run.ok ⟨?_,rfl⟩;congr 1;generalize zcr fs wys=l;induction l with
 |nil=>rfl|cons x l I=>simp only[yy,yby,I];(clear I hn;omega)
def encO:Option (Nat×Int)->D
 |none=>.non|some (j,t)=>.tup [.int j,.int t]
def FO(hd td:List Int):Option (Nat×Int)->Prop
 |none=>∀i:Nat,td[i]?=hd[i]?|some (j,t)=>td[j]?=aa t/\hd[j]?≠aa t/\∀i:Nat,i<j->td[i]?=hd[i]?
variable{td:List Int}
theorem FO.uniq{o o':Option (Nat×Int)}(h:FO hd td o)(h':FO hd td o'):o=o':=by
 match o,o',h,h' with
 |none,none,_,_=>rfl|none,aa (j,t),h,h'=>exact absurd (by rw[<- h j];exact h'.1) h'.2.1|some (j,t),none,h',h=>exact absurd (by rw[<- h j];exact h'.1) h'.2.1|some (j,t),aa (J,t'),h,h'=>
  rcases ybC j J with H|H|H
  ·exact absurd (by rw[<- h'.2.2 j H];exact h.1) h.2.1
  ·subst H;have:=h.1.symm.trans h'.1;cases this;rfl
  ·exact absurd (by rw[<- h.2.2 J H];exact h'.1) h'.2.1
theorem zgX(hl:td.length=hd.length):Run (zcn [.tup (hd.map D.int),.tup (td.map D.int)] m) fun a m'=>∃o,a=encO o/\FO hd td o/\m'=m:=by
 unfold zcn zfm;ac_nf;refine Run.bind (zh6 (fun k ρ m'=>(∃X x,ρ = [aa (.tup (hd.map D.int)),aa (.tup (td.map D.int)),X,x])/\(∀i:Nat,i<k->td[i]?=hd[i]?)/\m'=m) (fun v m'=>∃j t,v=encO (aa (j,t))/\FO hd td (aa (j,t))/\m'=m) _ 0 ⟨⟨_,_,rfl⟩,fun i h=>by(clear hl;omega),rfl⟩ ?_) ?_
 ·rintro i d ρ m' c ⟨⟨X,x,rfl⟩,H,rfl⟩;obtain⟨t,E,rfl⟩:=zdH c;rw[yh]at H ⊢;have hi:i<td.length:=(yc.mp E).1;have e:=yf (show i<hd.length by omega);erw [zcD e];ac_nf;by_cases h:t=hd[i]'(by omega)
  ·rw[decide_eq_true h];ac_nf;refine Run.ok (.inl ⟨_,rfl,⟨_,_,rfl⟩,fun j g=>?_,rfl⟩);rcases ya4 j i with b|b
   ·exact H j b
   ·have:j=i:=by(clear h;omega)
    subst this;rw[E,e,h]
  ·rw[decide_eq_false h];ac_nf;exact Run.ok (.inr ⟨_,rfl,i,t,rfl,⟨E,fun z=>h (by rw[e]at z;cases z;rfl),H⟩,rfl⟩)
 ·rintro _ m' h;rcases h with⟨ρ,rfl,⟨X,x,rfl⟩,H,rfl⟩|⟨v,rfl,j,t,rfl,f,rfl⟩
  ·ac_nf;refine Run.ok ⟨none,rfl,fun i=>?_,rfl⟩;rw[yh,zcz]at H;rcases ya4 i td.length with hi|hi
   ·exact H i hi
   ·rw[ya9 hi,ya9 (by omega)]
  ·ac_nf;exact Run.ok ⟨_,rfl,f,rfl⟩
def zkK:Option (Nat×Nat×Int)->D
 |none=>.non|some (k,j,t)=>.tup [.int k,.int j,.int t]
def tdV(fs:List Fd)(wys:List Wy)(hd:List Int)(x:Int×List Int):List Int:=hdV fs wys x.2 x.1 (pcK fs wys hd fs.length) fs.length
def DB(fs:List Fd)(wys:List Wy)(hd:List Int)(fm:List (Int×List Int)):Option (Nat×Nat×Int)->Prop
 |none=>∀(i:Nat)(x:Int×List Int),fm[i]?=aa x->FO hd (tdV fs wys hd x) none|some (k,j,t)=>(∃x,fm[k]?=aa x/\FO hd (tdV fs wys hd x) (aa (j,t)))/\∀(i:Nat)(x:Int×List Int),i<k->fm[i]?=aa x->FO hd (tdV fs wys hd x) none
theorem zpn{fs:List Fd}{b:Int}(hs:zhw fs)(hn:fs.length<=12)(s:WyOk fs wys)(u:HdOk fs hd)(h:∀p∈fm,HdOk fs p.2) : Run (zjs [shD fs n,fmD a b wys,.tup (hd.map D.int),.tup (fm.map fmE)] m) fun x m'=>∃o,x=zkK o/\DB fs wys hd fm o/\m'=m:=by
 obtain⟨hl,f⟩:=zn4 hs hn s u;unfold zjs zo7;erw [zav (zdX hs hn s u)];ac_nf;refine Run.bind (zh6 (fun k ρ m'=>(∃q l g X,ρ = [aa (shD fs n),aa (fmD a b wys),aa (.tup (hd.map D.int)),aa (.tup (fm.map fmE)),aa (.str ⟨(pcK fs wys hd fs.length).toArray⟩),q,l,g,X])/\(∀i x,i<k->fm[i]?=aa x->FO hd (tdV fs wys hd x) none)/\m'=m) (fun v m'=>∃o,v=zkK o/\DB fs wys hd fm o/\m'=m) _ 0 ⟨⟨_,_,_,_,rfl⟩,fun i x h=>by(clear f hl hn;omega),rfl⟩ ?_) ?_
 ·rintro i d ρ m' w ⟨⟨q,l,g,X,rfl⟩,e,rfl⟩;obtain⟨x,E,rfl⟩:=zdH w;rw[yh]at e ⊢;unfold fmE;erw [zav (zmm hs hn s (h x (yW E)) (zkh fs.length) hl f)];ac_nf;refine Run.bind (zgX (by rw[ze8,u.len])) ?_;rintro _ m' ⟨o,rfl,H,rfl⟩
  match o,H with
  |none,H=>
   unfold encO;erw [isnt_nn];ac_nf;refine Run.ok (.inl ⟨_,rfl,⟨_,_,_,_,rfl⟩,fun j y A r=>?_,rfl⟩);rcases ya4 j i with c|c
   ·exact e j y c r
   ·have:j=i:=by(clear f hl hn;omega)
    subst this;rw[E]at r;cases r;exact H
  |some (j,t),H=>
   unfold encO;erw [ztr];erw [add_t (by simp;exact yam (zaQ (by(clear f hl hn;omega))))];ac_nf;exact Run.ok (.inr ⟨_,rfl,aa (i,j,t),rfl,⟨⟨x,E,H⟩,e⟩,rfl⟩)
 ·rintro _ m' h';rcases h' with⟨ρ,rfl,⟨q,l,g,X,rfl⟩,e,rfl⟩|⟨v,rfl,o,rfl,H,rfl⟩
  ·ac_nf;refine Run.ok ⟨none,rfl,fun i x z=>e i x ?_ z,rfl⟩;rw[yh,zcz];exact(yc.mp z).1
  ·ac_nf;exact Run.ok ⟨o,rfl,H,rfl⟩
theorem ix_sh{fs:List Fd}:ixD (shD fs n) (.int 0) m = .ok (.tup (fs.map Fd.e)) m:=ix_t0 _ _
theorem ix_fm{b:Int}:ixD (fmD a b wys) (.int 2) m = .ok (.tup (wys.map Wy.e)) m:=ix_t2 _ _ _ _
open PySem L2
theorem DB.uniq{fs:List Fd}{o o':Option (Nat×Nat×Int)}(h:DB fs wys hd fm o)(h':DB fs wys hd fm o'):o=o':=by
 have no:∀ {k j t k' J t'},k<k'->DB fs wys hd fm (aa (k,j,t))->DB fs wys hd fm (aa (k',J,t'))->False:=by
  intro k j t k' J t' c a b;obtain⟨⟨x,H,q⟩,_⟩:=a;have:=FO.uniq q (b.2 k x c H);cases this
 match o,o',h,h' with
 |none,none,_,_=>rfl|none,aa (k,j,t),h,⟨⟨x,H,q⟩,_⟩=>exact(nomatch (FO.uniq q (h k x H)))|some (k,j,t),none,⟨⟨x,H,q⟩,_⟩,h=>exact(nomatch (FO.uniq q (h k x H)))|some (k,j,t),aa (k',J,t'),h,h'=>
  rcases ybC k k' with c|c|c
  ·exact(no c h h').elim
  ·subst c;obtain⟨⟨x,H,q⟩,_⟩:=h;obtain⟨⟨y,d,Q⟩,_⟩:=h';rw[H]at d;cases d;cases FO.uniq q Q;rfl
  ·exact(no c h' h).elim
open PySem L2
theorem zo2{l:Sto}(h:m[r]?=aa o):(m++l)[r]?=aa o:=by
 rw[yO (yc.mp h).1];exact h
theorem new_of(h:xs.length<=1000):zdg xs m = .ok (.ob m.length) (m++[.lst xs]):=if_pos (yM h (by decide))
theorem mul_t(h:1<=n/\n<=1000):zcY (.tup [d]) (.int n) m = .ok (.tup (yp n.toNat d)) m:=by rw[zgd];exact if_pos h
open PySem L2
def kGI3(ρ : En):Unit->Sto->Res En:=fun _ m=>.ok ρ m
def kGI2(ρ : En)(d x:D):D->Sto->Res En:=fun y m=>(putL x y d m).bind (kGI3 ρ)
def kGI1(f:EV)(ρ : En)(d:D):D->Sto->Res En:=fun x m=>(f ρ m).bind (kGI2 ρ d x)
section
variable{x y:D}{fo fi:EV}
theorem gI_at:gI fo fi d ρ m=(fo ρ m).bind (kGI1 fi ρ d):=rfl
theorem kgi1_at:kGI1 fi ρ d x m=(fi ρ m).bind (kGI2 ρ d x):=rfl
theorem kgi2_at:kGI2 ρ d x y m=(putL x y d m).bind (kGI3 ρ):=rfl
theorem kgi3_at:kGI3 ρ () m = .ok ρ m:=rfl
end
theorem add_ss{a b:af}(h:a.length+b.length<=sizeLine):zaP (.str a) (.str b) m = .ok (.str (a++b)) m:=if_pos h
theorem zkU{n:Nat}(h:(zbu 0 n)[i]?=aa d):d = .int (i:Nat):=by
 have hi:=(yc.mp h).1;rw[zaO]at hi;simp only[zbu,yI,yb8 hi,yaz,yay,yde]at h;exact h.symm
theorem ztc{d:Int}(h:(2:Int)^b∣(2*y+1)*d):(2:Int)^b∣d:=by
 induction b generalizing d with
 |zero=>simp|succ b i=>
  obtain⟨c,H⟩:=h;rw[ycb]at H;have j:d%2=0:=by
   have a:(2*y+1)*d=2*(y*d)+d:=by rw[Int.add_mul,ycd,Int.one_mul]
   have E:2^b*2*c=2*(2^b*c):=by rw[ya7 (2^b) 2,ycd]
   rw[a,E]at H;generalize y*d=u at H;generalize (2:Int)^b*c=w at H;omega
  obtain⟨d',rfl⟩:∃d',d=2*d':=⟨d/2,by omega⟩;have g:(2:Int)^b∣(2*y+1)*d':=by
   refine⟨c,?_⟩;have a:(2*y+1)*(2*d')=2*((2*y+1)*d'):=by rw[Int.mul_left_comm]
   have E:2^b*2*c=2*(2^b*c):=by rw[ya7 (2^b) 2,ycd]
   rw[a,E]at H;omega
  obtain⟨e,f⟩:=i g;exact⟨e,by rw[f,ycb,ya7 (2^b) 2,ycd]⟩
theorem zss{f:Int}(hi:(i:Int)<2^b)(d:(j:Int)<2^b)(h:(f+(2*y+1)*i)%2^b=(f+(2*y+1)*j)%2^b):i=j:=by
 have a:(2:Int)^b∣(2*y+1)*((i:Int)-j):=by
  have:=Int.dvd_of_emod_eq_zero (Int.emod_eq_emod_iff_emod_sub_eq_zero.mp h);rw[show f+(2*y+1)*i-(f+(2*y+1)*j)=(2*y+1)*((i:Int)-j) by rw[Int.mul_sub];omega]at this;exact this
 obtain⟨c,e⟩:=ztc a;have g:=p2 b;generalize (2:Int)^b=B at *;rcases Int.lt_trichotomy c 0 with H|H|H
 ·have:B*c<=B*(-1):=yd8 (by omega) (by omega);omega
 ·subst H;omega
 ·have:B*1<=B*c:=yd8 (by omega) (by omega);omega
theorem zot{c : Type}[DecidableEq c](g:Nat -> c):∀n,(∀i j,i<n->j<n->g i=g j->i=j)->((yC n).map g).Nodup:=fun n h=>by
 rw[List.Nodup,List.pairwise_map];have:=List.nodup_range (n:=n);refine List.Pairwise.imp_of_mem ?_ this;intro a b ha d H e;exact H (h a b (yal.mp ha) (yal.mp d) e)
def Kd.Ok2(pl b:Nat)(k:Kd):Prop:=k.Ok pl b/\∀row,k = .turn row->2<=row.length/\row.Nodup
theorem ztP(bs:List Bool):zm5 [.lst (bs.map D.bl)] m = .ok (.bl (bs.all id)) m:=by
 simp only[zm5,lOf,yaa];rw[zeN (fun b=>b)];simp
open PySem L2
def chB(c:Nat):Bool:=decide (97<=c/\c<=122)
def nmB(x:af):Bool:=decide (1<=x.length/\x.length<=8)&&x.cps.toList.all chB
theorem len_str(h:z.length<=sizeLine):zdb [.str z] m = .ok (.int z.length) m:=if_pos h
structure ShG(fs:List Fd):Prop where
 at':∀(i:Nat)(f:Fd),fs[i]?=aa f->0<f.b/\f.b<=40/\f.kd.Ok2 i f.b
 nm:∀x∈fs.map Fd.nm,nmB x=ae/\x.length<=8
 nd:(fs.map Fd.nm).Nodup
theorem ShG.ok{fs:List Fd}(h:ShG fs):zhw fs:=fun i f H=>let ⟨a,b,c⟩:=h.at' i f H;⟨a,b,c.1⟩
open PySem L2
theorem zp2{n:Nat}{t:TV}{b:SV}:zlf n t b ρ m=zgV t b n ρ m:=rfl
open PySem L2
structure Fm where
 a:Nat
 b:Nat
 wys:List Wy
def Fm.e(f:Fm):D:=fmD f.a f.b f.wys
structure FmOk(fs:List Fd)(f:Fm):Prop where
 a0:0<f.a
 a1:f.a<=40
 b0:0<f.b
 b1:f.b<=40
 wy:WyOk fs f.wys
structure Rd4 where
 skips:Nat
 gap:Nat
 late:Nat
 anew:Nat
def Rd4.e(r:Rd4):D := .tup [.int r.skips,.int r.gap,.int r.late,.int r.anew]
structure RdOk(r:Rd4):Prop where
 s1:r.skips<=39
 g0:r.skips<=r.gap
 g1:r.gap<=400
 l1:r.late<=20
 n1:r.anew<=400
structure Pt where
 fs:List Fd
 n:Int
 wide:Nat
 fms:List Fm
 rd:Rd4
def Pt.e(p:Pt):D := .tup [shD p.fs p.n,.int p.wide,.tup (p.fms.map Fm.e),p.rd.e]
structure PtOk(p:Pt):Prop where
 n0:0<p.n
 n1:p.n<=1000000
 f0:0<p.fs.length
 f1:p.fs.length<=12
 sh:ShG p.fs
 w0:0<p.wide
 w1:p.wide<=40
 fm:∀f∈p.fms,FmOk p.fs f
 fml:p.fms.length<=12
 rd:RdOk p.rd
open PySem L2
theorem add_ll{a b:List D}(h:a.length+b.length<=1000):zaP (.lst a) (.lst b) m = .ok (.lst (a++b)) m:=if_pos (yM h (by decide))
open PySem L2
theorem zjE{k:Nat}{o:MO}{g:GV}{el:EV}{ρ : En}{m:Sto}(f:D->D)(H:m[k]?=aa o):∀(ds:List D),(∀d∈ds,∃a,g d ρ m = .ok a m/\el a m = .ok (f d) m)->zcq k o g za7 el ρ ds m = .ok (ds.map f) m
 |[],_=>by rw[zcq,zlt H];rfl|d::r,h=>by
  obtain⟨a,e1,e2⟩:=h d (by simp);rw[zcq,zlt H,e1,bind_ok];show (Res.ok ae m).bind _=_;rw[bind_ok,if_pos rfl,e2,bind_ok,zjE f H r fun d hd=>h d (yY _ hd),bind_ok];rfl
variable{fa:EV}
theorem zm0{n k:Nat}{g:GV}(f:D->D)(h:fa ρ m = .ok (.ob k) m)(H:m[k]?=aa (.lst ds))(hl:ds.length<=1000000)(a:∀d∈ds,∃ρ1,g d (ρ ++ yp n none) m = .ok ρ1 m/\el ρ1 m = .ok (f d) m):zdd n (zpT fa) g za7 el ρ m = .ok (ds.map f) m:=by
 unfold zdd zpT;rw[h,bind_ok];have e:zkX (.ob k) m = .ok (k,.lst ds,ds) m:=by simp only[zkX,H]
 rw[e,bind_ok,if_pos hl];exact zjE f H ds a
theorem zpS(l:List τ):zm5 [.lst (l.map fun _=>D.bl ae)] m = .ok (.bl ae) m:=by
 rw[show (l.map fun _=>D.bl ae)=(l.map fun _=>ae).map D.bl by simp,ztP];simp
section
variable{c f mth:af}{fv:EV}{fr:AV}{g:List D->Sto->Res D}
def kFs3(ρ : En):Unit->Sto->Res Fl:=fun _ m3=>.ok (.nx ρ) m3
def kFs2(c f:af)(ρ : En)(y:D):D->Sto->Res Fl:=fun x m2=>(setM c f x y m2).bind (kFs3 ρ)
def kFs1(c f:af)(fo:EV)(ρ : En):D->Sto->Res Fl:=fun y m1=>(fo ρ m1).bind (kFs2 c f ρ y)
theorem fld_at:zeQ c f fa ρ m=(fa ρ m).bind (zpY c f):=rfl
theorem sfld_at:zj9 c f fa fv ρ m=(fv ρ m).bind (kFs1 c f fa ρ):=rfl
theorem kfs1_at:kFs1 c f fa ρ d m=(fa ρ m).bind (kFs2 c f ρ d):=rfl
theorem kfs2_at(x:D):kFs2 c f ρ d x m=(setM c f x d m).bind (kFs3 ρ):=rfl
theorem kfs3_at:kFs3 ρ () m = .ok (.nx ρ) m:=rfl
def kMt2(g:List D->Sto->Res D)(x:D):List D->Sto->Res D:=fun ds m2=>g (x::ds) m2
def kMt1(c mth:af)(g:List D->Sto->Res D)(fr:AV)(ρ : En):D->Sto->Res D:=fun x m1=>if zeg c mth x m1=ae then (fr ρ m1).bind (kMt2 g x) else .bad
theorem mth_at:zgC c mth g fa fr ρ m=(fa ρ m).bind (kMt1 c mth g fr ρ):=rfl
theorem kmt1_at:kMt1 c mth g fr ρ d m=if zeg c mth d m=ae then (fr ρ m).bind (kMt2 g d) else .bad:=rfl
theorem kmt2_at(ds:List D):kMt2 g d ds m=g (d::ds) m:=rfl
def kPar3(i j k:Nat)(ρ : En):List D->Sto->Res Fl:=fun ds m1=>match ds with
 |[x,y,z]=>.ok (.nx (((ρ.set i (aa x)).set j (aa y)).set k (aa z))) m1|_=>.bad
theorem par3_at(i j k:Nat):sPar3 i j k fr ρ m=(fr ρ m).bind (kPar3 i j k ρ):=rfl
theorem kpar3_at(i j k:Nat)(x y z:D):kPar3 i j k ρ [x,y,z] m = .ok (.nx (((ρ.set i (aa x)).set j (aa y)).set k (aa z))) m:=rfl
def kForO(h:GV)(b:SV)(ρ : En):Nat×MO×List D->Sto->Res Fl:=fun t m1=>zoE t.1 t.2.1 h b t.2.2 ρ m1
theorem forO_at{it:OI}{h:GV}{b:SV}:sForO it h b ρ m=(it ρ m).bind (kForO h b ρ):=rfl
theorem kforO_at{h:GV}{b:SV}(k:Nat)(o:MO)(ds:List D):kForO h b ρ (k,o,ds) m=zoE k o h b ds ρ m:=rfl
theorem objI_at:zpT fa ρ m=(fa ρ m).bind zkX:=rfl
theorem isnt_in(i:Int):zkG (.int i) .non m = .ok (.bl ae) m:=rfl
theorem is_in(i:Int):isD (.int i) .non m = .ok (.bl ai) m:=rfl
theorem zju{k:Nat}{fs:List (af×D)}{v:D}(h:m[k]?=aa (.ins c fs))(e:fs.lookup f=aa v):zpY c f (.ob k) m = .ok v m:=by
 simp only[zpY,h,if_true,e,opt]
theorem ziw{k:Nat}{fs:List (af×D)}{y:D}(h:m[k]?=aa (.ins c fs))(e:fs.length<1000):setM c f (.ob k) y m = .ok () (m.set k (.ins c (ziK f y fs))):=by
 simp only[setM,h];exact if_pos ⟨trivial,e⟩
theorem mth_ok{k:Nat}{fs:List (af×D)}(h:m[k]?=aa (.ins c fs))(e:fs.lookup mth=none):zeg c mth (.ob k) m=ae:=by
 simp only[zeg,h,e,decide_true,Option.isNone_none,Bool.and_self]
end
local macro_rules | `(tactic| walk_at "w") => do
  let ids := ("run_at fin_nx fin_rt seq_at seq_nx seq_rt nil_at ret_at rt_at retN_at drop_at kdrop_at if_at kif_at asg_at kasg_at nx_at gs_nil gs_cons gT_at par_at kpar_at List.set_cons_zero List.set_cons_succ for_at kfor_at eC_at op_at kop_at un_at fn_at ife_at kife_at aNil_at aCons_at kcons_at kcons2_at asB_at tV_at andT_at kandT_at orT_at korT_at notT_at knotT_at and_at kand_at or_at kor_at not_at knot_at aIt_at sq_t sq_l sq_s sq_c rngA_at enumA_at kenum_t kenum_l zipA_at kzip_at zip3A_at kzip3_at kzip4_at oNone_at oSome_at ksome_at slD_at ksl1_at ksl2_at slA_at kslA1_at kslA2_at meth_at kmeth_at isStr_at isTup_at chain_at kch1_at kch2_at kch3_at put_at kputA_at kputB_at kputC_at kputE_at bind_ok bind_then then_at var_0 var_S gN_at Bool.false_eq_true reduceIte List.map_cons List.map_nil List.length_cons List.length_nil Nat.reduceAdd Nat.reduceSub List.cons_append List.nil_append add_i sub_i eq_i ne_i eq_s ne_s lt_i le_i gt_i ge_i lst_0 lst_2 lst_3 lst_4 lst_5 tup_0 tup_1 tup_2 tup_3 min_i len_t len_l tup_l l1 ix_t0 ix_t1 ix_t2 List.replicate List.append_nil decide_eq_true_eq Bool.not_true Bool.not_false eq_self not_true_eq_false not_false_eq_true decide_true decide_false ofs_eq String.reduceEq fld_at sfld_at kfs1_at kfs2_at kfs3_at mth_at kmt1_at kmt2_at par3_at kpar3_at forO_at kforO_at objI_at isnt_in is_in is_nn isnt_nn max_i".splitOn " ").toArray.map fun s => Lean.mkIdent s.toName
  `(tactic| try simp only [$[$ids:ident],*])
def onD:Option Nat->D
 |none=>.non|some n=>.int n
def prF(pt:D)(l:Nat)(had base:Option Nat)(fresh:Nat):List (af×D):=[("pact", pt),("pressed", .ob l),("had", onD had),("base", onD base),("fresh", .int fresh)]
structure PrAt(m:Sto)(k l:Nat)(pt:Pt)(hs:List (List Int))(had base:Option Nat)(fresh:Nat):Prop where
 self:m[k]?=aa (.ins "Presser" (prF pt.e l had base fresh))
 lst:m[l]?=aa (.lst (hs.map zbS))
 kl:k≠l
variable{l:Nat}{base:Option Nat}{hs:List (List Int)}{had:Option Nat}
theorem PrAt.app{r:Sto}{k:Nat}{pt:Pt}{fresh:Nat}(h:PrAt m k l pt hs had base fresh):PrAt (m++r) k l pt hs had base fresh:=⟨zo2 h.self,zo2 h.lst,h.kl⟩
theorem PrAt.lt{k:Nat}{pt:Pt}{fresh:Nat}(h:PrAt m k l pt hs had base fresh):k<m.length/\l<m.length:=⟨(yc.mp h.self).1,(yc.mp h.lst).1⟩
variable{m1:Sto}{reach:Nat}
section
variable{k:Nat}{pt:Pt}{fresh:Nat}
theorem PrAt.pact(h:PrAt m k l pt hs had base fresh):zpY "Presser" "pact" (.ob k) m = .ok pt.e m:=zju h.self rfl
theorem PrAt.pressed(h:PrAt m k l pt hs had base fresh):zpY "Presser" "pressed" (.ob k) m = .ok (.ob l) m:=zju h.self rfl
theorem PrAt.hadF(h:PrAt m k l pt hs had base fresh):zpY "Presser" "had" (.ob k) m = .ok (onD had) m:=zju h.self rfl
theorem PrAt.baseF(h:PrAt m k l pt hs had base fresh):zpY "Presser" "base" (.ob k) m = .ok (onD base) m:=zju h.self rfl
theorem PrAt.freshF(h:PrAt m k l pt hs had base fresh):zpY "Presser" "fresh" (.ob k) m = .ok (.int fresh) m:=zju h.self rfl
theorem zgi(pt:Pt):ixD pt.e (.int 0) m = .ok (shD pt.fs pt.n) m:=ix_t0 _ _
theorem zls(pt:Pt):ixD pt.e (.int 1) m = .ok (.int pt.wide) m:=ix_t1 _ _ _
theorem zjd(pt:Pt):ixD pt.e (.int 2) m = .ok (.tup (pt.fms.map Fm.e)) m:=ix_t2 _ _ _ _
theorem zoR(pt:Pt):ixD pt.e (.int 3) m = .ok pt.rd.e m:=zkF (n:=3) rfl
theorem ix_rd0(r:Rd4):ixD r.e (.int 0) m = .ok (.int r.skips) m:=ix_t0 _ _
theorem ix_rd3(r:Rd4):ixD r.e (.int 3) m = .ok (.int r.anew) m:=zkF (n:=3) rfl
theorem zoG(h:m[r]?=aa (.lst xs)):zdb [.ob r] m = .ok (.int xs.length) m:=by simp only[zdb,h]
theorem zfg(h:PrAt m k l pt hs had base fresh):zaB [.ob k] m = .ok (.int hs.length) m:=by
 apply zav;unfold zaB zew;erw [h.pressed];erw [zoG h.lst,yd];exact Run.ok ⟨rfl,rfl⟩
theorem PrAt.meth(h:PrAt m k l pt hs had base fresh)(e:(prF pt.e l had base fresh).lookup x=none):zeg "Presser" x (.ob k) m=ae:=mth_ok h.self e
def anB(pt:Pt)(n:Nat):Bool:=decide (pt.rd.anew≠0/\n%pt.rd.anew=0)
theorem anew_w(h:PrAt m k l pt hs had base fresh):zaY [.ob k] m = .ok (.bl (anB pt hs.length)) m:=by
 apply zav;unfold zaY zcl;erw [h.pact];erw [zoR];erw [ix_rd3];ac_nf;by_cases H:pt.rd.anew=0
 ·rw[decide_eq_true (show ((pt.rd.anew:Nat):Int)=0 by omega)];ac_nf;exact Run.ok ⟨by simp[anB,H],rfl⟩
 ·rw[decide_eq_false (show ¬ ((pt.rd.anew:Nat):Int)=0 by omega)];erw [if_pos (h.meth rfl)];erw [zfg h];erw [zbO (by omega)];ac_nf;refine Run.ok ⟨?_,rfl⟩;unfold anB;congr 1;apply decide_eq_decide.mpr;have:((hs.length:Int)%pt.rd.anew)=((hs.length%pt.rd.anew:Nat):Int):=by push_cast;rfl
  rw[this];constructor
  ·intro e;exact⟨H,by exact_mod_cast e⟩
  ·rintro⟨_,e⟩;exact_mod_cast e
def shB(pt:Pt)(n:Nat)(base:Option Nat)(fresh reach:Nat):Bool:=(match base with | some b=>decide ((n:Int)-reach<=b) | none=>ai)||(decide ((fresh:Int)<=n-1-pt.rd.skips)&&decide ((n:Int)-reach<=n-1-pt.rd.skips))
theorem zpR(bs:List Bool):anyF [.lst (bs.map D.bl)] m = .ok (.bl (bs.any id)) m:=by
 simp only[anyF,lOf,yaa];rw[zeN (fun b=>b)];simp
theorem zpy{before:Int}{xs:List Int}(h:PrAt m1 k l pt hs had base fresh)(hr:m1[r]?=aa (.lst (xs.map D.int)))(H:xs.length<=10) : zdd 1 (zpT (zag 2)) (gN 4) za7 (eOp geD (zag 4) (eOp zcd (zgC "Presser" "sent" zaB (zag 0) zak) (zag 1))) [aa (.ob k),aa (.int reach),aa (.ob r),aa (.int before)] m1 = .ok ((xs.map fun x=>decide ((hs.length:Int)-reach<=x)).map D.bl) m1:=by
 rw[zm0 (k:=r) (ds:=xs.map D.int) (fun d=>match d with | .int x=>.bl (decide ((hs.length:Int)-reach<=x)) | _=>.non) (by ac_nf) hr (by rw[yd];omega) (by
  intro d hd;obtain⟨x,H,rfl⟩:=yT.mp hd;refine⟨_,rfl,?_⟩;show (eOp geD (zag 4) (eOp zcd (zgC "Presser" "sent" zaB (zag 0) zak) (zag 1))) [aa (.ob k),aa (.int reach),aa (.ob r),aa (.int before),aa (.int x)] m1=_;erw [if_pos (h.meth rfl)];erw [zfg h];ac_nf)]
 congr 1;simp
theorem zmd(h:PrAt m k l pt hs had base fresh):Run (zbb [.ob k,.int reach] m) fun a m'=>a = .bl (shB pt hs.length base fresh reach)/\∃r,m'=m++r:=by
 unfold zbb zcM;have K:∀(m1:Sto)(r:Nat)(xs:List Int)(R:Sto),m1=m++R->PrAt m1 k l pt hs had base fresh->m1[r]?=aa (.lst (xs.map D.int))->m.length<=r->xs.length<=5 →
   Run ((zat (zaC (eOp zcd (eOp zcd (zgC "Presser" "sent" zaB (zag 0) zak) (eC (.int 1))) (eOp ixD (eOp ixD (zeQ "Presser" "pact" (zag 0)) (eC (.int 3))) (eC (.int 0)))) (gN 3))
 (zat (sIf (tV (eOp geD (zag 3) (zeQ "Presser" "fresh" (zag 0))))
 (zcg (zb2 zcj za9 (zag 2) (zac (zag 3) zak)))
 zbG)
 (zaJ (eFn anyF (zac (eFn gL1 (zdd 1 (zpT (zag 2)) (gN 4) za7 (eOp geD (zag 4) (eOp zcd (zgC "Presser" "sent" zaB (zag 0) zak) (zag 1))))) zak)))) [aa (.ob k),aa (.int reach),aa (.ob r),none] m1).bind zjw) fun a m'=>a = .bl ((xs.any fun x=>decide ((hs.length:Int)-reach<=x))||(decide ((fresh:Int)<=hs.length-1-pt.rd.skips)&&decide ((hs.length:Int)-reach<=hs.length-1-pt.rd.skips)))/\∃r,m'=m++r:=by
  intro m1 r xs R e H hr hr0 f;erw [if_pos (H.meth rfl)];erw [zfg H];erw [H.pact];erw [zoR];erw [ix_rd0];erw [H.freshF];ac_nf;by_cases c:(fresh:Int)<=hs.length-1-pt.rd.skips
  ·rw[if_pos c];erw [if_pos (zdx hr)];erw [zdI hr (by rw[yd];exact zaQ (by omega))];ac_nf;have hl:=h.lt;have d:PrAt (m1.set r (.lst (xs.map D.int++[.int (hs.length-1-pt.rd.skips)]))) k l pt hs had base fresh:=⟨by rw[zba (by omega)];exact H.self,by rw[zba (by omega)];exact H.lst,h.kl⟩;have hr2:(m1.set r (.lst (xs.map D.int++[.int (hs.length-1-pt.rd.skips)])))[r]?=aa (.lst ((xs++[(hs.length:Int)-1-pt.rd.skips]).map D.int)):=by rw[zbY hr];simp
   rw[zpy d hr2 (by simp;omega)];erw [zpR];ac_nf;refine Run.ok ⟨?_,R.set (r-m.length) (.lst (xs.map D.int++[.int (hs.length-1-pt.rd.skips)])),?_⟩
   ·simp[List.any_append,c,yb7,Function.comp_def]
   ·rw[e,ydf _ _ hr0]
  ·rw[if_neg c];erw [zpy H hr (by omega)];erw [zpR];ac_nf;exact Run.ok ⟨by simp[c,yb7,Function.comp_def],R,e⟩
 erw [h.baseF];cases base with
 |none=>
  simp only[onD];erw [zgc];simp only[kasg_at,gN_at,ybD,ybE,bind_ok,bind_then,then_at,nx_at,seq_nx];have:=K (m++[.lst []]) m.length [] [.lst []] rfl h.app (by simp) (yb _) (by simp);simpa [shB] using this
 |some b=>
  simp only[onD];erw [h.baseF];simp only[onD];erw [new_of (by simp)];simp only[kasg_at,gN_at,ybD,ybE,bind_ok,bind_then,then_at,nx_at,seq_nx];have:=K (m++[.lst [.int b]]) m.length [(b:Int)] [.lst [.int b]] rfl h.app (by simp) (yb _) (by simp);simpa [shB] using this
end
def mxI(a b:Int):Int:=if b>a then b else a
def leV(pt:Pt)(n:Nat)(had:Option Nat):Int:=match had with
 |none=>mxI 0 ((n:Int)-1-pt.rd.gap)|some h=>mxI (mxI 0 ((n:Int)-1-pt.rd.gap)) ((h:Int)-pt.rd.late)
def ctB(pt:Pt)(n:Nat)(had:Option Nat)(count:Nat):Bool:=decide ((n:Int)+pt.rd.late-leV pt n had<2^count)
theorem sl_13(a b c d:D):slD (.tup [a,b,c,d]) (aa 1) (aa 3) m = .ok (.tup [b,c]) m:=rfl
section
variable{k:Nat}{pt:Pt}{fresh:Nat}
theorem zpv(h:PrAt m k l pt hs had base fresh){count:Nat}(H:count<=1000):za4 [.ob k,.int count] m = .ok (.bl (ctB pt hs.length had count)) m:=by
 apply zav;unfold za4 zcv;erw [h.pact];erw [zoR];ac_nf;simp only[Rd4.e];rw[sl_13];erw [if_pos (h.meth rfl)];erw [zfg h];erw [h.hadF];cases had with
 |none=>
  simp only[onD];erw [zcH (by omega)];erw [if_pos (h.meth rfl)];erw [zfg h];ac_nf;exact Run.ok ⟨rfl,rfl⟩
 |some a=>
  simp only[onD];erw [h.hadF];simp only[onD];erw [zcH (by omega)];erw [if_pos (h.meth rfl)];erw [zfg h];ac_nf;exact Run.ok ⟨rfl,rfl⟩
def fmL(hs:List (List Int))(reach:Nat):List (Int×List Int):=(yC (min reach hs.length)).map fun i=>(((i:Nat):Int)+1,hs.getD (hs.length-1-i) [])
theorem zqp{i j:Int}(h:i<=j)(a : -1000000<=i)(H:j<=1000000):rng2 [.int i,.int j] m = .ok (zbu i (j-i).toNat) m:=by
 rw[zkc];exact if_pos ⟨by omega,by omega,by omega,by omega⟩
theorem zpa(h:PrAt m k l pt hs had base fresh)(hr:reach<=1000)(hl:hs.length<=100000):zbh [.ob k,.int reach] m = .ok (.tup ((fmL hs reach).map fmE)) m:=by
 apply zav;unfold zbh zdc;erw [h.pressed];ac_nf;unfold zcy zeG;erw [zoG h.lst,yd];ac_nf;have hm:(if (hs.length:Int)<reach then (hs.length:Int) else reach)=((min reach hs.length:Nat):Int):=by split <;> omega
 rw[zbw (ds:=zbu 1 (min reach hs.length)) (fun d=>match d with | .int i=>.tup [.int i,zbS (hs.getD (hs.length-i.toNat) [])] | _=>.non)]
 ·ac_nf;refine Run.ok ⟨?_,rfl⟩;congr 1;simp only[zbu,fmL,yV];apply ybj;intro i hi;have H:i<min reach hs.length:=yal.mp hi;simp only[Function.comp,fmE];rw[show (1:Int)+(i:Nat)=(i:Int)+1 by omega,show ((i:Int)+1).toNat=i+1 by omega,show hs.length-(i+1)=hs.length-1-i by omega];rfl
 ·erw [hm,zqp (by omega) (by omega) (by omega)];congr 2;omega
 ·rw[zaO];omega
 ·intro d hd;simp only[zbu,yT]at hd;obtain⟨i,hi,rfl⟩:=hd;have H:i<min reach hs.length:=yal.mp hi;refine⟨_,rfl,?_⟩;show (eFn zcb (zac (zag 3) (zac (eOp ixD (zag 0) (eOp zcd (zag 2) (zag 3))) zak))) [aa (.ob l),aa (.int reach),aa (.int hs.length),aa (.int (1+(i:Nat)))] m=_;ac_nf;have e:ixD (.ob l) (.int ((hs.length:Int)-(1+(i:Nat)))) m = .ok (zbS (hs.getD (hs.length-(1+i)) [])) m:=by
   rw[show (hs.length:Int)-(1+(i:Nat))=((hs.length-(1+i):Nat):Int) by omega];simp only[ixD,h.lst];show opt (atI (hs.map zbS) _) m=_;rw[zgF,yI,yf (show hs.length-(1+i)<hs.length by omega)];simp[opt,ya5,show hs.length-(1+i)<hs.length by omega]
  rw[e];erw [show ((1:Int)+(i:Nat)).toNat=1+i by omega]
theorem head_g{fs:List Fd}(hs:zhw fs)(hn:fs.length<=12)(h:HdOk fs hd):zfb [shD fs n,zbS hd] m = .ok (.bl ae) m:=by
 apply zav;unfold zfb zlE zbS;erw [zav (zfr (by omega))];erw [zts];erw [yd,yd,h.len,decide_eq_true (by omega)];ac_nf;rw[zbw (ds:=zdZ (hd.map D.int) (fs.map fun f=>D.int f.b)) (fun _=>.bl ae) (by
  ac_nf;simp only[zm7];rw[if_pos (by simp[h.len])]) (by rw[zdj (by simp[h.len]),yd,h.len];omega) (by
  intro d H;obtain⟨i,hi⟩:=yaT.mp H;obtain⟨x,y,c,b,rfl⟩:=zm6 hi;rw[yI]at c b;obtain⟨v,j,rfl⟩:=yag.mp c;obtain⟨f,a,rfl⟩:=yag.mp b;obtain⟨g,e,_⟩:=hs i f a;refine⟨_,rfl,?_⟩;show zdP [.int v,.int f.b] m=_;rw[zoV (by omega),decide_eq_true (h.at' i f v a j)])]
 erw [zpS];exact Run.ok ⟨rfl,rfl⟩
theorem ask_w(h:PrAt m k l pt hs had base fresh)(H:PtOk pt)(a:HdOk pt.fs hd):zbi [.ob k,zbS hd] m = .ok .non m:=by
 apply zav;unfold zbi zb1;erw [h.pact];erw [zgi];erw [head_g H.sh.ok H.f1 a];ac_nf;exact Run.ok ⟨rfl,rfl⟩
def HiV(pt:Pt)(hs:List (List Int))(had base:Option Nat)(fresh:Nat)(hd:List Int)(f:Fm)(a:D):Prop :=
 if anB pt hs.length=ae then a = .str "anew" else if shB pt hs.length base fresh f.a=ai then a = .str "shared" else if ctB pt hs.length had f.b=ai then a = .str "count" else ∃o,a=zkK o/\DB pt.fs f.wys hd (fmL hs f.a) o
theorem zpb{fs:List Fd}(h:∀x∈hs,HdOk fs x):∀p∈fmL hs reach,HdOk fs p.2:=by
 intro p H;simp only[fmL,yT,yal]at H;obtain⟨i,hi,rfl⟩:=H;have a:hs.length-1-i<hs.length:=by omega
 simp only[ya5,yf a,ya6];exact h _ (yaG a)
theorem zq3(h:PrAt m k l pt hs had base fresh)(e:PtOk pt)(p:HdOk pt.fs hd)(g:∀x∈hs,HdOk pt.fs x)(hl:hs.length<=100000){f:Fm}(j:pt.fms[i]?=aa f) : Run (za5 [.ob k,zbS hd,.int i] m) fun a m'=>HiV pt hs had base fresh hd f a/\∃r,m'=m++r:=by
 have H:=e.fm f (yW j);unfold za5 zcw;erw [h.pact];erw [zjd];ac_nf;have E:∀m,ixD (.tup (pt.fms.map Fm.e)) (.int i) m = .ok f.e m:=fun m=>zkF (by rw[yI,j];rfl);rw[E];erw [show slD f.e none (aa 2) m = .ok (.tup [.int f.a,.int f.b]) m from rfl];erw [if_pos (h.meth rfl)];erw [anew_w h];by_cases c:anB pt hs.length=ae
 ·rw[c];ac_nf;exact Run.ok ⟨by unfold HiV;rw[if_pos c],[],by simp⟩
 rw[Bool.eq_false_iff.mpr c];erw [if_pos (h.meth rfl)];ac_nf;refine Run.bind (zmd h) ?_;rintro _ m1 ⟨rfl,r,rfl⟩;have b:PrAt (m++r) k l pt hs had base fresh:=h.app;by_cases C:shB pt hs.length base fresh f.a=ai
 ·rw[C];ac_nf;exact Run.ok ⟨by unfold HiV;rw[if_neg c,if_pos C],r,rfl⟩
 rw[show shB pt hs.length base fresh f.a=ae by simpa using C];erw [if_pos (b.meth rfl)];erw [zpv b (by have:=H.b1;omega)];by_cases d:ctB pt hs.length had f.b=ai
 ·rw[d];ac_nf;exact Run.ok ⟨by unfold HiV;rw[if_neg c,if_neg C,if_pos d],r,rfl⟩
 rw[show ctB pt hs.length had f.b=ae by simpa using d];erw [b.pact];erw [zgi];erw [b.pact];erw [zjd];erw [E];erw [if_pos (b.meth rfl)];erw [zpa b (by have:=H.a1;omega) hl];ac_nf;refine Run.bind (zpn e.sh.ok e.f1 H.wy p (zpb g)) ?_;rintro _ m2 ⟨o,rfl,n,rfl⟩;ac_nf;exact Run.ok ⟨by unfold HiV;rw[if_neg c,if_neg C,if_neg d];exact⟨o,rfl,n⟩,r,rfl⟩
end
def wdN(n:Nat):Nat:=if n<=1 then 0 else (n-1).log2+1
theorem wdN_lt{n w:Nat}:2^w<n↔w<wdN n:=by
 unfold wdN;by_cases h:n<=1
 ·rw[if_pos h];have:=Nat.one_le_two_pow (n:=w);omega
 ·rw[if_neg h,Nat.lt_succ_iff,Nat.le_log2 (by omega)];omega
def wfT:TV:=by walk_at "#otJ*3"
def wfB:SV:=by walk_at "#:J*MgsU/)t{"
theorem znb{n:Nat}{m:Sto}:∀(j w f:Nat),w+j=wdN n->j<f->zgV wfT wfB f [aa (.int n),aa (.int w),aa (.int (2^w))] m = .ok (.nx [aa (.int n),aa (.int (wdN n)),aa (.int (2^wdN n))]) m
 |0,w,0,_,h=>absurd h (Nat.not_lt_zero _)|0,w,f+1,e,_=>by
  have H:w=wdN n:=by omega
  subst H;have hn : ¬ ((2:Int)^wdN n<n):=by
   have:=mt wdN_lt.mp (yac (wdN n))
   exact_mod_cast this
  rw[zgV];have E:wfT [aa (.int n),aa (.int (wdN n)),aa (.int (2^wdN n))] m = .ok ai m:=by
   unfold wfT;erw [decide_eq_false hn]
  rw[E,bind_ok,if_neg (by decide)]
 |j+1,w,0,_,h=>absurd h (Nat.not_lt_zero _)|j+1,w,f+1,e,h=>by
  have hn:(2:Int)^w<n:=by
   have:=wdN_lt.mpr (show w<wdN n by omega)
   exact_mod_cast this
  rw[zgV];have E:wfT [aa (.int n),aa (.int w),aa (.int (2^w))] m = .ok ae m:=by
   unfold wfT;erw [decide_eq_true hn]
  have a:wfB [aa (.int n),aa (.int w),aa (.int (2^w))] m = .ok (.nx [aa (.int n),aa (.int ((w+1:Nat):Int)),aa (.int (2^(w+1)))]) m:=by
   unfold wfB;erw [zgU ⟨by decide,by decide⟩];erw [ycb];rfl
  rw[E,bind_ok,if_pos rfl,a,bind_ok];exact znb j (w+1) f (by omega) (by omega)
theorem zgZ{n:Nat}(h:n<=2^50):zck [.int n] m = .ok (.int (wdN n)) m:=by
 have H:wdN n<=50:=ybR fun z=>by
  have:=wdN_lt.mpr z;omega
 apply zav;unfold zck zaZ;show Run (Res.bind (zat (zaC (eC (.int 0)) (gN 1)) (zat (zaC (eC (.int 1)) (gN 2)) (zat (zlf zre wfT wfB) (zaJ (zag 1)))) [aa (.int n),none,none] m) zjw) _;erw [zp2];have:=znb (n:=n) (m:=m) (wdN n) 0 zre (by omega) (ydx H (by decide));rw[show ((0:Nat):Int)=0 from rfl,show ((2:Int)^0)=1 from rfl]at this;rw[this];ac_nf;exact Run.ok ⟨rfl,rfl⟩
def fmW(pt:Pt):Fm:=⟨1,pt.wide,yp pt.fs.length .whole⟩
def zdi(pt:Pt):Option Nat->Fm
 |none=>fmW pt|some i=>pt.fms.getD i ⟨1,1,[]⟩
def ztN(pt:Pt):Option Nat->Prop
 |none=>True|some i=>i<pt.fms.length
theorem fmW_ok{pt:Pt}(h:PtOk pt):FmOk pt.fs (fmW pt):=⟨by show 0<1;decide,by show 1<=40;decide,h.w0,h.w1,⟨by simp[fmW],fun i f w a H=>by
 simp only[fmW]at H;have:=yW H;rw[(yd9.mp this).2];exact trivial⟩⟩
variable{at':Option Nat}
theorem zgA{pt:Pt}(h:PtOk pt)(ha:ztN pt at'):FmOk pt.fs (zdi pt at'):=by
 cases at' with
 |none=>exact fmW_ok h|some i=>
  have hi:i<pt.fms.length:=ha;show FmOk pt.fs (pt.fms.getD i ⟨1,1,[]⟩);simp only[ya5,yf hi,ya6];exact h.fm _ (yaG hi)
theorem zlI{pt:Pt}(h:PtOk pt)(ha:ztN pt at'):zei [pt.e,onD at'] m = .ok (zdi pt at').e m:=by
 apply zav;unfold zei zlF;cases at' with
 |none=>
  simp only[onD];erw [zls];erw [zgi];erw [ix_sh];erw [yd,mul_t ⟨by have:=h.f0;omega,by have:=h.f1;omega⟩];ac_nf;refine Run.ok ⟨?_,rfl⟩;simp only[zdi,fmW,Fm.e,fmD,List.map_replicate,y8,Wy.e];rfl
 |some i=>
  have hi:i<pt.fms.length:=ha;simp only[onD];erw [zjd];ac_nf;rw[zkF (d:=(zdi pt (aa i)).e) (by
   rw[yI,yf hi];simp[zdi,ya5,yf hi])]
  exact Run.ok ⟨rfl,rfl⟩
theorem zjS{pt:Pt}(h:PtOk pt):zbT [pt.e] m = .ok (.int (wdN (1+pt.fms.length))) m:=by
 apply zav;unfold zbT zgp;erw [zjd];erw [yd,show (1:Int)+(pt.fms.length:Nat)=((1+pt.fms.length:Nat):Int) by push_cast;rfl,zgZ (by have:=h.fml;omega)];exact Run.ok ⟨rfl,rfl⟩
theorem zlY{pt:Pt}(h:PtOk pt):zbk [pt.e] m = .ok (.int (wdN pt.n.toNat)) m:=by
 have a:=h.n0;have H:=h.n1;apply zav;unfold zbk zfn;erw [zgi];erw [show ixD (shD pt.fs pt.n) (.int 1) m = .ok (.int pt.n) m from ix_t1 _ _ _];ac_nf;have e:=zgZ (n:=pt.n.toNat) (m:=m) (by omega);rw[ybF (by omega)]at e;rw[e];exact Run.ok ⟨rfl,rfl⟩
def lsz(pt:Pt)(at':Option Nat):Nat:=wdN (1+pt.fms.length)+(zdi pt at').b+(zcr pt.fs (zdi pt at').wys).sum+wdN pt.n.toNat
theorem zfj{pt:Pt}(h:PtOk pt)(ha:ztN pt at'):zbC [pt.e,onD at'] m = .ok (.int (lsz pt at')) m:=by
 apply zav;unfold zbC zfk;erw [zlI h ha];erw [zjS h];erw [show ixD (zdi pt at').e (.int 1) m = .ok (.int (zdi pt at').b) m from ix_t1 _ _ _];erw [zgi];erw [show zfa [shD pt.fs pt.n,(zdi pt at').e] m = .ok (.int ((zcr pt.fs (zdi pt at').wys).sum:Nat)) m from zqb h.sh.ok h.f1 (zgA h ha).wy];erw [zlY h];ac_nf;refine Run.ok ⟨?_,rfl⟩;unfold lsz;congr 1
def ckS(hd:List Int):Int:=((yC hd.length).map fun i:Nat=>((i:Int)+2)*hd.getD i 0).sum
def ckV(pt:Pt)(number:Nat)(hd:List Int):Int:=((number:Int)+ckS hd)%pt.n
theorem zlN(hd:List Int):∀(xs:List Int)(k:Nat),(zcF k (xs.map D.int)).map (fun d=>match d with | .tup [.int i,.int v]=>D.int ((i+2)*v) | _=>.non)=((yC xs.length).map fun i:Nat=>(((k+i:Nat):Int)+2)*xs.getD i 0).map D.int
 |[],k=>rfl|x::xs,k=>by
  rw[yy,zcF,yy,zlN hd xs (k+1),yx,ybx,yy,yy,yV];simp only[ycc,List.getD_cons_zero,yV];congr 1;apply ybj;intro i _;simp only[Function.comp,Nat.succ_eq_add_one,List.getD_cons_succ];rw[show k+1+i=k+(i+1) by omega]
theorem sum_i{xs:List Int}(h:(∀a,a∈xs->0<=a/\a<=2^50)/\xs.length<=1000):zpV [.lst (xs.map D.int)] m = .ok (.int xs.sum) m:=by
 simp only[zpV,lOf,yaa,zcc];exact if_pos h
variable{number:Nat}
theorem zpC{pt:Pt}(h:PtOk pt)(f:HdOk pt.fs hd):zdQ [shD pt.fs pt.n,.int number,zbS hd] m = .ok (.int (ckV pt number hd)) m:=by
 have hl:=f.len;have o:=h.f1;apply zav;unfold zdQ zjt zbS;ac_nf;rw[zbw (ds:=zcF 0 (hd.map D.int)) (fun d=>match d with | .tup [.int i,.int v]=>D.int ((i+2)*v) | _=>.non) (by ac_nf) (by rw[zcz];omega) (by
  intro d c;obtain⟨i,hi⟩:=yaT.mp c;obtain⟨v,k,rfl⟩:=zdH hi;have l:=(yc.mp k).1;refine⟨_,rfl,?_⟩;show (eOp zcY (eOp zaP (zag 3) (eC (.int 2))) (zag 4)) [aa (shD pt.fs pt.n),aa (.int number),aa (.tup (hd.map D.int)),aa (.int ((0+i:Nat):Int)),aa (.int v)] m=_;ac_nf;rw[zgT ⟨by omega,by omega⟩])]
 ac_nf;rw[zlN hd,sum_i ⟨fun a b=>by
  simp only[yT,yal]at b;obtain⟨i,hi,rfl⟩:=b;have g:=yf (show i<pt.fs.length by omega);have E:=yf hi;obtain⟨V,j⟩:=f.at' i _ _ g E;have n:=p2le (h.sh.at' i _ g).2.1;simp only[ya5,E,ya6];have e:((0+i:Nat):Int)+2<=14:=by omega
  have H:0<=((0+i:Nat):Int)+2:=by omega
  generalize ((0+i:Nat):Int)+2=q at e H;generalize hd[i]=v at V j;refine⟨Int.mul_nonneg H V,?_⟩;have:q*v<=14*v:=ydG e V;omega,by simp;omega⟩]
 erw [show ixD (shD pt.fs pt.n) (.int 1) m = .ok (.int pt.n) m from ix_t1 _ _ _];erw [zbO h.n0];refine Run.ok ⟨?_,rfl⟩;unfold ckV ckS;simp only[yh]
def srtI:Option Nat->Int
 |none=>0|some i=>1+(i:Int)
def ltL(pt:Pt)(at':Option Nat)(number:Nat)(hd:List Int):List Nat:=dgs (srtI at') (wdN (1+pt.fms.length))++dgs ((number:Int)%2^(zdi pt at').b) (zdi pt at').b++pcK pt.fs (zdi pt at').wys hd pt.fs.length++dgs (ckV pt number hd) (wdN pt.n.toNat)
theorem zk3{n:Nat}(h:n<=2^50):wdN n<=50:=ybR fun z=>by
 have:=wdN_lt.mpr z;omega
theorem zsn(a b:List Nat):((⟨a.toArray⟩:af)++⟨b.toArray⟩)=⟨(a++b).toArray⟩:=by
 apply zfP;show (a.toArray++b.toArray).toList=_;simp
theorem add_str{a b:List Nat}(h:a.length+b.length<=100000):zaP (.str ⟨a.toArray⟩) (.str ⟨b.toArray⟩) m = .ok (.str ⟨(a++b).toArray⟩) m:=by
 rw[add_ss (show a.toArray.size+b.toArray.size<=sizeLine from by simp;exact yM h (by decide)),zsn]
theorem zmM{pt:Pt}(h:PtOk pt)(ha:ztN pt at')(c:HdOk pt.fs hd):zcP [pt.e,onD at',.int number,zbS hd] m = .ok (.str ⟨(ltL pt at' number hd).toArray⟩) m:=by
 have b:=zgA h ha;have w1:=zk3 (n:=1+pt.fms.length) (by have:=h.fml;omega);have w:=zk3 (n:=pt.n.toNat) (by have:=h.n1;omega);have g:=b.b1;have H:=zf5 b.wy c pt.fs.length (yb _);have d:=zfO h.sh.ok b.wy pt.fs.length (yb _);have f:=h.f1;apply zav;unfold zcP zhe;erw [zlI h ha];ac_nf;have e:∀m,ixD (zdi pt at').e (.int 1) m = .ok (.int (zdi pt at').b) m:=fun m=>ix_t1 _ _ _;have tail:Run ((zat (zaC (eFn zcp (zac (eFn zbB (zac (zag 2) (zac (eOp ixD (zag 4) (eC (.int 1))) zak))) (zac (eOp ixD (zag 4) (eC (.int 1))) zak))) (gN 6))
 (zat (zaC (eFn zcp (zac (eFn zdQ (zac (eOp ixD (zag 0) (eC (.int 0))) (zac (zag 2) (zac (zag 3) zak)))) (zac (eFn zbk (zac (zag 0) zak)) zak))) (gN 7))
 (zaJ (eOp zaP (eOp zaP (eOp zaP (zag 5) (zag 6)) (eFn zc5 (zac (eOp ixD (zag 0) (eC (.int 0))) (zac (zag 4) (zac (zag 3) zak))))) (zag 7))))) [aa pt.e,aa (onD at'),aa (.int number),aa (zbS hd),aa (zdi pt at').e,aa (.str ⟨(dgs (srtI at') (wdN (1+pt.fms.length))).toArray⟩),none,none] m |>.bind zjw) fun a m'=>a = .str ⟨(ltL pt at' number hd).toArray⟩/\m'=m:=by
  erw [e];erw [zav (zb9 (by omega))];erw [e];erw [zav (zcW (by omega))];erw [zgi];erw [zpC h c];erw [zlY h];erw [zav (zcW (by omega))];erw [add_str (by rw[zbr,zbr];omega)];erw [zgi];erw [show zc5 [shD pt.fs pt.n,(zdi pt at').e,zbS hd] m = .ok (.str ⟨(pcK pt.fs (zdi pt at').wys hd pt.fs.length).toArray⟩) m from zav (zdX h.sh.ok h.f1 b.wy c)];erw [add_str (by rw[yD,zbr,zbr,H];omega)];erw [add_str (by rw[yD,yD,zbr,zbr,zbr,H];omega)];exact Run.ok ⟨rfl,rfl⟩
 cases at' with
 |none=>
  simp only[onD];erw [zjS h];erw [zav (zcW (by omega))];simp only[kasg_at,gN_at,ybD,ybE,bind_ok,bind_then,then_at,nx_at,seq_nx];exact tail
 |some i=>
  simp only[onD];erw [zjS h];erw [zav (zcW (by omega))];simp only[kasg_at,gN_at,ybD,ybE,bind_ok,bind_then,then_at,nx_at,seq_nx];exact tail
section
variable{k:Nat}{pt:Pt}{fresh:Nat}
theorem HiV.kind{f:Fm}{a:D}(h:HiV pt hs had base fresh hd f a):(∃s,a = .str s)∨∃o,a=zkK o:=by
 unfold HiV at h;split at h
 ·exact .inl ⟨_,h⟩
 ·split at h
  ·exact .inl ⟨_,h⟩
  ·split at h
   ·exact .inl ⟨_,h⟩
   ·obtain⟨o,h,_⟩:=h;exact .inr ⟨o,h⟩
theorem Fr.app2{r:Sto}:Fr p q m (m++r):=⟨by rw[yD];exact yaq _ _,fun j h _ _=>yO h⟩
theorem zrN(pt:Pt)(m:Sto):Run (mkM "Presser" zaU [pt.e] m) fun a m'=>a = .ob m.length/\PrAt m' m.length (m.length+1) pt [] none none 0/\∃r,m'=m++r:=by
 unfold mkM zaU zex;ac_nf;have E:∀fs:List (af×D),(m++[MO.ins "Presser" fs])[m.length]?=aa (.ins "Presser" fs):=fun fs=>by simp
 rw[ziw (E _) (by show 0<1000;decide)];rw[show (m++[MO.ins "Presser" []]).set m.length (.ins "Presser" (ziK "pact" pt.e []))=m++[.ins "Presser" [("pact", pt.e)]] by rw[ydf _ _ (yb _),Nat.sub_self];rfl];erw [zgc];ac_nf;have e:∀fs:List (af×D),(m++[MO.ins "Presser" fs]++[MO.lst []])[m.length]?=aa (.ins "Presser" fs):=fun fs=>by simp
 have es:∀fs g:List (af×D),(m++[MO.ins "Presser" fs]++[MO.lst []]).set m.length (.ins "Presser" g)=m++[.ins "Presser" g]++[.lst []]:=fun fs g=>by
  rw[yaS,ydf _ _ (yb _),Nat.sub_self,yaS];rfl
 have el:∀fs:List (af×D),(m++[MO.ins "Presser" fs]).length=m.length+1:=fun fs=>by simp
 rw[el,ziw (e _) (by show 1<1000;decide),es];erw [ziw (e _) (by show 2<1000;decide),es];erw [ziw (e _) (by show 3<1000;decide),es];erw [ziw (e _) (by show 4<1000;decide),es];ac_nf;refine Run.ok ⟨rfl,⟨by rw[e];rfl,?_,by omega⟩,_,by rw[yaS]⟩;rw[yaF (by simp)];simp
end
open PySem L2
open PySem L2
theorem wsW(pt:Pt):zcr pt.fs (fmW pt).wys=pt.fs.map fun f=>f.b:=by
 unfold zcr fmW;induction pt.fs with
 |nil=>rfl|cons f r i=>
  show Wy.w f.b .whole::ya8 (fun f w=>Wy.w f.b w) r (yp r.length .whole)=_;rw[i];rfl
open PySem L2
section
variable{k:Nat}{pt:Pt}{fresh:Nat}
theorem HiV.uniq{f:Fm}{a A:D}(h:HiV pt hs had base fresh hd f a)(h':HiV pt hs had base fresh hd f A):a=A:=by
 unfold HiV at h h';split at h
 ·rename_i c;rw[if_pos c]at h';rw[h,h']
 ·rename_i e;rw[if_neg e]at h';split at h
  ·rename_i c;rw[if_pos c]at h';rw[h,h']
  ·rename_i d;rw[if_neg d]at h';split at h
   ·rename_i c;rw[if_pos c]at h';rw[h,h']
   ·rename_i C;rw[if_neg C]at h';obtain⟨o,rfl,b⟩:=h;obtain⟨o',rfl,H⟩:=h';rw[DB.uniq b H]
theorem is_hi2{f:Fm}{a:D}(h:HiV pt hs had base fresh hd f a):∃b:Bool,isD a .non m = .ok (.bl b) m/\(b=ae↔a = .non):=by
 rcases h.kind with⟨s,rfl⟩|⟨o,rfl⟩
 ·exact⟨ai,rfl,by simp⟩
 ·match o with
  |none=>exact⟨ae,rfl,by simp[zkK]⟩|some (x,y,z)=>exact⟨ai,rfl,by simp[zkK]⟩
def zdh(pt:Pt)(hs:List (List Int))(had base:Option Nat)(fresh:Nat)(hd:List Int)(i:Nat):Prop:=∃f,pt.fms[i]?=aa f/\HiV pt hs had base fresh hd f .non
open Classical in
def zgI(pt:Pt)(M:Nat->Prop):Nat->Option Nat
 |0=>none|i+1=>if lsz pt (aa i)<lsz pt (zgI pt M i)/\M i then aa i else zgI pt M i
theorem zhr{M:Nat->Prop}:∀i,i<=pt.fms.length->ztN pt (zgI pt M i)
 |0,_=>trivial|i+1,h=>by
  rw[zgI];split
  ·exact h
  ·exact zhr i (Nat.le_of_succ_le h)
theorem zhG(h:PrAt m k l pt hs had base fresh)(g:PtOk pt)(s:HdOk pt.fs hd)(n:∀x∈hs,HdOk pt.fs x)(hl:hs.length<=100000) : Run (zaX [.ob k,zbS hd] m) fun a m'=>a=onD (zgI pt (zdh pt hs had base fresh hd) pt.fms.length)/\∃r,m'=m++r:=by
 unfold zaX zcL;erw [h.pact];erw [zjd];erw [yd,zdU (by omega) (by have:=g.fml;omega)];ac_nf;refine Run.bind (zaN (fun i ρ m'=>∃(X:Option D)(r:Sto),ρ = [aa (.ob k),aa (zbS hd),aa (onD (zgI pt (zdh pt hs had base fresh hd) i)),X]/\m'=m++r) (zbu 0 (pt.fms.length:Int).toNat) 0 ⟨none,[],rfl,by simp⟩ ?_) ?_
 ·rintro i d ρ m1 f ⟨X,r,rfl,rfl⟩;have hi:=(yc.mp f).1;rw[zaO]at hi;have H:i<pt.fms.length:=by simpa using hi
  have:=zkU f;subst this;have j:PrAt (m++r) k l pt hs had base fresh:=h.app;have o:=yf H;rw[yh,show zgI pt (zdh pt hs had base fresh hd) (i+1)=_ from rfl];erw [j.pact];erw [show zbC [pt.e,.int (i:Nat)] (m++r) = .ok (.int (lsz pt (aa i))) (m++r) from zfj (at':=aa i) g H];erw [j.pact];erw [zfj g (zhr i (by omega))];erw [zgI];generalize zgI pt (zdh pt hs had base fresh hd) i=B;by_cases C:((lsz pt (aa i):Nat):Int)<lsz pt B
  ·rw[if_pos C];rw[if_pos (j.meth rfl)];ac_nf;refine Run.bind (zq3 j g s n hl o) ?_;rintro a m2 ⟨ha,R,rfl⟩;obtain⟨b,e,q⟩:=is_hi2 (m:=m++r++R) ha;erw [e];cases b with
   |true=>
    rw[q.mp rfl]at ha;rw[if_pos ⟨by omega,_,o,ha⟩];ac_nf;exact Run.ok ⟨_,rfl,_,r++R,rfl,by simp⟩
   |false=>
    rw[if_neg (by
     rintro⟨_,F,c,p⟩;rw[o]at c;cases c;have:=q.mpr (ha.uniq p);cases this)]
    ac_nf;exact Run.ok ⟨_,rfl,_,r++R,rfl,by simp⟩
  ·rw[if_neg C,if_neg (fun z=>C (by omega))];ac_nf;exact Run.ok ⟨_,rfl,_,r,rfl,rfl⟩
 ·rintro _ m1 ⟨ρ,rfl,X,r,rfl,rfl⟩;rw[yh,zaO,y8];ac_nf;exact Run.ok ⟨rfl,r,rfl⟩
theorem zmj(h:PrAt m k l pt hs had base fresh)(b:PtOk pt)(d:HdOk pt.fs hd)(c:∀x∈hs,HdOk pt.fs x)(hl:hs.length<=900)(e:(hs.length:Int)<2^pt.wide) : Run (zb8 [.ob k,zbS hd] m) fun a m'=>a = .str ⟨(ltL pt (zgI pt (zdh pt hs had base fresh hd) pt.fms.length) hs.length hd).toArray⟩/\PrAt m' k l pt (hs++[hd]) had base fresh/\Fr k l m m':=by
 unfold zb8 zcE;erw [if_pos (h.meth rfl)];erw [ask_w h b d];erw [if_pos (h.meth rfl)];erw [zfg h];erw [h.pact];erw [zls];erw [zcH (by have:=b.w1;omega)];erw [if_neg (show ¬ ((hs.length:Nat):Int)=2^pt.wide by omega)];erw [h.pact];ac_nf;rw[if_pos (h.meth rfl)];ac_nf;refine Run.bind (zhG h b d c (by omega)) ?_;rintro _ m1 ⟨rfl,r,rfl⟩;have H:PrAt (m++r) k l pt hs had base fresh:=h.app;erw [zmM b (zhr _ (yb _)) d];erw [H.pressed];erw [if_pos (zdx H.lst)];erw [zdI H.lst (by rw[yd];exact zaQ (by omega))];ac_nf;refine Run.ok ⟨rfl,⟨by rw[zba (Ne.symm h.kl)];exact H.self,by rw[zbY H.lst,yaj];rfl,h.kl⟩,Fr.app2.trans Fr.set'⟩
end
open Classical in
theorem zjC{g:GV}{c:TV}{el:EV}{ρ : En}(I:Sto->Prop)(M:Nat->Prop)(f:Nat->D):∀(ds:List D)(k:Nat){m:Sto},I m->(∀i d m,ds[i]?=aa d->I m->∃a,g d ρ m = .ok a m/\Run (c a m) fun b m'=>I m'/\(b=ae↔M (k+i))/\el a m' = .ok (f (k+i)) m') →
  Run (zej g c el ρ ds m) fun xs m'=>xs=((yao k ds.length).filter fun i=>decide (M i)).map f/\I m'
 |[],k,m,h,_=>⟨[],m,rfl,rfl,h⟩|d::r,k,m,h,st=>by
  obtain⟨a,e1,b,m1,e2,h1,H,e3⟩:=st 0 d m rfl h;rw[ycc]at H e3;obtain⟨xs,m2,E,rfl,e⟩:=zjC I M f r (k+1) h1 fun i d m hd hi=>by
   have:=st (i+1) d m (by simpa using hd) hi;rw[show k+(i+1)=k+1+i by omega]at this;exact this
  rw[zej,e1,bind_ok,e2,bind_ok,yx,ycO,List.filter_cons];cases b with
  |true=>exact⟨_,m2,by rw[if_pos rfl,e3,bind_ok,E,bind_ok],by rw[if_pos (decide_eq_true (H.mp rfl)),yy],e⟩|false=>exact⟨_,m2,by rw[if_neg (by decide),E],by rw[if_neg (by rw[decide_eq_true_eq];exact fun z=>by have:=H.mpr z;cases this)],e⟩
theorem isi_ts(s:af):zil "tuple" (.str s) m = .ok (.bl ai) m:=rfl
theorem is_sn(s:af):isD (.str s) .non m = .ok (.bl ai) m:=rfl
theorem zqk{s:af}:zdO [.str s,.str s] m = .ok (.bl ae) m:=by
 apply zav;show Run (zbK (11+1) _ m) _;rw[zbK];unfold zey;erw [isi_ts];erw [is_sn];erw [isi_ss];ac_nf;exact Run.ok ⟨by simp,rfl⟩
theorem zoD{pt:Pt}(h:PtOk pt)(ha:ztN pt at')(a:HdOk pt.fs hd):(ltL pt at' number hd).length=lsz pt at':=by
 have H:=zf5 (zgA h ha).wy a pt.fs.length (yb _);unfold ltL lsz;rw[yD,yD,yD,zbr,zbr,zbr,H];have:zeP (zcr pt.fs (zdi pt at').wys) pt.fs.length=(zcr pt.fs (zdi pt at').wys).sum:=by
  unfold zeP;rw[yb3 (by rw[zbl (zgA h ha).wy];exact yb _)]
 omega
section
variable{k n:Nat}{pt:Pt}{fresh:Nat}{f:Fm}
theorem zr3(M:Nat->Prop):∀n,(zgI pt M n=none∨∃i,i<n/\M i/\zgI pt M n=aa i)/\lsz pt (zgI pt M n)<=lsz pt none/\∀i,i<n->M i->lsz pt (zgI pt M n)<=lsz pt (aa i)
 |0=>⟨.inl rfl,yb _,fun i h=>by omega⟩|n+1=>by
  obtain⟨h1,h2,b⟩:=zr3 M n;rw[zgI];by_cases c:lsz pt (aa n)<lsz pt (zgI pt M n)/\M n
  ·rw[if_pos c];refine⟨.inr ⟨n,by omega,c.2,rfl⟩,by omega,fun i hi a=>?_⟩;rcases ya4 i n with H|H
   ·have:=b i H a;omega
   ·have:i=n:=by omega
    subst this;exact yb _
  ·rw[if_neg c];refine⟨?_,h2,fun i hi a=>?_⟩
   ·rcases h1 with h1|⟨i,f,e,d⟩
    ·exact .inl h1
    ·exact .inr ⟨i,by omega,e,d⟩
   ·rcases ya4 i n with H|H
    ·exact b i H a
    ·have:i=n:=by omega
     subst this;exact ybR fun z=>c ⟨z,a⟩
theorem lsz_le(h:PtOk pt)(ha:ztN pt at'):lsz pt at'<=700:=by
 have H:=zgA h ha;have w1:=zk3 (n:=1+pt.fms.length) (by have:=h.fml;omega);have w:=zk3 (n:=pt.n.toNat) (by have:=h.n1;omega);have c:=H.b1;have a:=zfO h.sh.ok H.wy pt.fs.length (yb _);have b:=h.f1;have:zeP (zcr pt.fs (zdi pt at').wys) pt.fs.length=(zcr pt.fs (zdi pt at').wys).sum:=by
  unfold zeP;rw[yb3 (by rw[zbl H.wy];exact yb _)]
 unfold lsz;omega
end
instance(l:List Nat):Decidable (Bin l):=by unfold Bin;infer_instance
variable{h:List D->Sto->Res D}{m2:Sto}
section
variable{fr:AV}{c:TV}{f g:SV}{e:Exc}
theorem puA(q:fa ρ m = .ok d m1):zat (sPu (zaC fa (gN i))) g ρ m=g (ρ.set i (aa d)) m1:=by
 show (Res.pu (Res.bind (fa ρ m) _)).bind _=_;rw[q];rfl
theorem exT{a:D}(q:c ρ m = .ok ae m1):zat (sIf (tPu c) (zqn x (aPu (zac (eC a) zak))) zbG) g ρ m = .exc ⟨x,[]⟩ m1:=by
 show (Res.bind (Res.pu (c ρ m)) _).bind _=_;rw[q];rfl
end
section
variable{pt:Pt}{l:List Nat}
theorem tryX{es:List af}{f fs:SV}{c:Exc}(q:f ρ m = .exc c m1)(h:(es.contains c.cls&&isX c.cls x)=ae):zpW es x f i fs ρ m=(fs (ρ.set i (aa (.exn c.cls c.args))) m1).bind fun F m2=>.ok (ztD i F) m2:=by
 unfold zpW;rw[q];exact if_pos h
end
def OkLe(a b:Res α):Prop:=∀x m,a = .ok x m->b = .ok x m
section
variable{a a' b:Res α}{k k':α -> Sto->Res β}
theorem OkLe.refl:OkLe a a:=fun _ _ h=>h
theorem OkLe.bad:OkLe (.bad:Res α) b:=fun _ _ h=>nomatch h
theorem OkLe.pu(h:OkLe a b):OkLe a b.pu:=fun x m e=>by rw[h x m e];rfl
theorem OkLe.bind(h:OkLe a a')(H:∀x m,OkLe (k x m) (k' x m)):OkLe (a.bind k) (a'.bind k'):=fun y m e=>by
 cases ha:a with
 |ok x m1=>rw[ha]at e;rw[h x m1 ha];exact H x m1 y m e|exc c m1=>rw[ha]at e;cases e|bad=>rw[ha]at e;cases e
end
variable{cn mn:af}
section
variable{f f' g g':SV}{c:TV}{fr:AV}{h':List D->Sto->Res D}{n:Nat}
def SLe(f g:SV):Prop:=∀ρ m,OkLe (f ρ m) (g ρ m)
theorem SLe.refl:SLe f f:=fun _ _=>.refl
theorem SLe.pu:SLe f (sPu f):=fun _ _=>OkLe.pu .refl
theorem SLe.bad:SLe sBad f:=fun _ _=>.bad
theorem SLe.seq(H:SLe f f')(h:SLe g g'):SLe (zat f g) (zat f' g'):=fun ρ m=>OkLe.bind (H ρ m) fun F m1=>by
 cases F with
 |nx a=>exact h a m1|rt d=>exact .refl|bk a=>exact .refl|ct a=>exact .refl
theorem SLe.ife(H:SLe f f')(h:SLe g g'):SLe (sIf c f g) (sIf (tPu c) f' g'):=fun ρ m=>OkLe.bind (OkLe.pu .refl) fun b m1=>by
 cases b with
 |true=>exact H ρ m1|false=>exact h ρ m1
theorem SLe.mth(H:∀ds m,OkLe (h ds m) (h' ds m)):SLe (zcg (zgC cn mn h fa fr)) (zcg (yMth cn mn h' fa fr)):=fun ρ m=>OkLe.bind (OkLe.bind (OkLe.pu .refl) fun x m1=>by
 by_cases hi:zeg cn mn x m1=ae
 ·rw[if_pos hi,if_pos hi];exact OkLe.bind (OkLe.pu .refl) fun ds m2=>H _ _
 ·rw[if_neg hi];exact .bad) fun _ _=>.refl
theorem SLe.run(h:SLe f f'):OkLe (zaZ n f ds m) (zaZ n f' ds m):=OkLe.bind (h _ _) fun _ _=>.refl
end
theorem zr5(ds:List D)(m:Sto):OkLe (zbi ds m) (zbc ds m):=by
 unfold zbi zbc zb1 zcN;exact SLe.run (SLe.ife .bad .refl)
theorem zqy(ds:List D)(m:Sto):OkLe (zb8 ds m) (zaH ds m):=by
 unfold zb8 zaH zcE zbJ;exact SLe.run (SLe.seq (SLe.mth zr5) (SLe.seq .pu (SLe.seq (SLe.ife .bad .refl) (SLe.seq .pu (SLe.seq .pu .pu)))))
theorem dropO{m3:Sto}{fr:AV}{g:SV}{d':D}(Q:fa ρ m = .ok d m1)(hi:zeg cn mn d m1=ae)(q:fr ρ m1 = .ok ds m2)(r:h (d::ds) m2 = .ok d' m3):zat (zcg (yMth cn mn h fa fr)) g ρ m=g ρ m3:=by
 show (Res.bind (Res.bind (Res.pu (fa ρ m)) _) _).bind _=_;rw[Q];show (Res.bind (if zeg cn mn d m1=ae then _ else _) _).bind _=_;rw[if_pos hi];show (Res.bind (Res.bind (Res.pu (fr ρ m1)) _) _).bind _=_;rw[q];show (Res.bind (h (d::ds) m2) _).bind _=_;rw[r];rfl
section
variable{k:Nat}{pt:Pt}{fresh:Nat}{a:D}
theorem pressM(h:PrAt m k l pt hs had base fresh)(H:PtOk pt)(b:HdOk pt.fs hd)(a:(hs.length:Int)=2^pt.wide):zaH [.ob k,zbS hd] m = .exc ⟨"NoMore", []⟩ m:=by
 have e:zaH [.ob k,zbS hd] m=(zbJ [aa (.ob k),aa (zbS hd),none,none] m).bind zjw:=rfl;rw[e];unfold zbJ;rw[dropO (d := .ob k) (ds:=[zbS hd]) (m1:=m) (m2:=m) (m3:=m) rfl (h.meth rfl) rfl (zr5 _ _ _ _ (ask_w h H b))];rw[puA (d := .int hs.length) (m1:=m) (by
  apply zav;erw [if_pos (h.meth rfl)];erw [zfg h];exact Run.ok ⟨rfl,rfl⟩)]
 rw[exT (m1:=m) (by
  apply zav;erw [h.pact];erw [zls];erw [zcH (by have:=H.w1;omega)];ac_nf;exact Run.ok ⟨decide_eq_true a,rfl⟩)]
 rfl
end
theorem ztx(h:ds.length<=1000):zc6 ds m = .ok (.lst ds) m:=if_pos (yM h (by decide))
open PySem L2
open PySem L2
open PySem L2
def zmU:EV:=by walk_at "#w}tfxxu=xyxz*t7"
theorem zkJ:zo8=(zat (sPu (zaC (eFn (mkM "Presser" zaU) (zac (zag 0) zak)) (gN 2)))
 (zaJ (eY1 zeS (eFn gL1 (zdd 1 (oPu (zpT (zag 1))) (gPu (gN 3)) (tPu za7) zmU))))):=rfl
variable{x0:Option D}
section
variable{k:Nat}{pt:Pt}{fresh:Nat}
theorem zpk(h:PrAt m k l pt hs had base fresh):zmU [x0,x1,aa (.ob k),aa d] m=(zaH [.ob k,d] m).bind fun x m1=>(zdb [x] m1).pu:=by
 show (Res.bind (if zeg "Presser" "press" (.ob k) m=ae then (Res.bind (Res.ok [d] m) fun ds m2=>zaH (.ob k::ds) m2) else .bad) fun x m1=>(zdb [x] m1).pu)=_;rw[if_pos (h.meth rfl)];rfl
def sz48(pt:Pt)(hs:List (List Int))(hd:List Int):Nat:=lsz pt (zgI pt (zdh pt hs none none 0 hd) pt.fms.length)
theorem zpj(h:PrAt m k l pt hs none none 0)(b:PtOk pt)(d:HdOk pt.fs hd)(c:∀x∈hs,HdOk pt.fs x)(hl:hs.length<=900)(i:(hs.length:Int)<2^pt.wide) : ∃m',zmU [x0,x1,aa (.ob k),aa (zbS hd)] m = .ok (.int (sz48 pt hs hd)) m'/\PrAt m' k l pt (hs++[hd]) none none 0/\Fr k l m m':=by
 obtain⟨a,m',e,ha,h',f⟩:=zmj h b d c hl i;subst ha;refine⟨m',?_,h',f⟩;rw[zpk h,zqy _ _ _ _ e];have g:lsz pt (zgI pt (zdh pt hs none none 0 hd) pt.fms.length)<=700:=lsz_le b (zhr _ (yb _));have H:=zoD (number:=hs.length) b (zhr (M:=zdh pt hs none none 0 hd) _ (yb _)) d;show (zdb [_] m').pu=_;rw[len_str (by show yaY _<=_ ; first | (simp only[H];exact yM g (by decide)) | (show Array.size _<=_;rw[yG,H];exact yM g (by decide)))];show Res.ok (D.int _) m'=_;congr 2;have:=zoD (number:=hs.length) b (zhr (M:=zdh pt hs none none 0 hd) _ (yb _)) d;show (((ltL pt _ hs.length hd).toArray.size:Nat):Int)=_;rw[yG,this];rfl
theorem zrm(h:PrAt m k l pt hs none none 0)(a:PtOk pt)(b:HdOk pt.fs hd)(H:(hs.length:Int)=2^pt.wide):zmU [x0,x1,aa (.ob k),aa (zbS hd)] m = .exc ⟨"NoMore", []⟩ m:=by
 rw[zpk h,pressM h a b H];rfl
end
section
variable{k:Nat}{pt:Pt}{all:List (List Int)}
def szL(pt:Pt)(all:List (List Int))(a n:Nat):List D:=(yC n).map fun j=>.int (sz48 pt (all.take (a+j)) (all.getD (a+j) []):Nat)
theorem zp8(a n:Nat):szL pt all a (n+1) = .int (sz48 pt (all.take a) (all.getD a []):Nat)::szL pt all (a+1) n:=by
 unfold szL;rw[ybx,yy,yV,ycc];congr 1;apply ybj;intro j _;simp only[Function.comp];rw[show a+j.succ=a+1+j by omega]
theorem zek{rest:List D}(hr:m[r]?=aa (.lst (all.map zbS))):zcq r (.lst (all.map zbS)) (gPu (gN 3)) (tPu za7) zmU [x0,x1,aa (.ob k),none] (zbS hd::rest) m = (zmU [x0,x1,aa (.ob k),aa (zbS hd)] m).bind fun x m3=>(zcq r (.lst (all.map zbS)) (gPu (gN 3)) (tPu za7) zmU [x0,x1,aa (.ob k),none] rest m3).bind fun xs M=>.ok (x::xs) M:=by
 rw[zcq,zlt hr];rfl
theorem zjF:∀(rest done:List (List Int)){m:Sto},all=done++rest->PrAt m k l pt done none none 0->PtOk pt->m[r]?=aa (.lst (all.map zbS))->r≠k->r≠l->(∀x∈all,HdOk pt.fs x)->all.length<=900->(all.length:Int)<=2^pt.wide →
  ∃m',zcq r (.lst (all.map zbS)) (gPu (gN 3)) (tPu za7) zmU [x0,x1,aa (.ob k),none] (rest.map zbS) m = .ok (szL pt all done.length rest.length) m'/\Fr k l m m'
 |[],done,m,ha,h,hp,hr,a,R,H,hl,c=>⟨m,by rw[yaZ,zcq,zlt hr];rfl,Fr.refl⟩|hd::rest,done,m,ha,h,hp,hr,a,R,H,hl,c=>by
  have d:all.length=done.length+(rest.length+1):=by rw[ha,yD,yx]
  have b:HdOk pt.fs hd:=H hd (by rw[ha];simp);obtain⟨m1,i,f,f1⟩:=zpj (x0:=x0) (x1:=x1) h hp b (fun x e=>H x (by rw[ha];simp[e])) (by omega) (by omega);have hr1:m1[r]?=aa (.lst (all.map zbS)):=by rw[f1.2 r (yc.mp hr).1 a R];exact hr
  obtain⟨m2,E,f2⟩:=zjF rest (done++[hd]) (by rw[ha,yaS];rfl) f hp hr1 a R H hl c;refine⟨m2,?_,f1.trans f2⟩;rw[yy,zek hr,i];show (Res.bind (zcq _ _ _ _ _ _ _ m1) _)=_;rw[E];show Res.ok _ m2=_;rw[yx,zp8];have t:all.take done.length=done:=by rw[ha];simp
  have g:all.getD done.length []=hd:=by rw[ha];simp[ya5]
  rw[t,g,yD];rfl
theorem zhp:∀(rest done:List (List Int)){m:Sto},all=done++rest->PrAt m k l pt done none none 0->PtOk pt->m[r]?=aa (.lst (all.map zbS))->r≠k->r≠l->(∀x∈all,HdOk pt.fs x)->all.length<=900->(done.length:Int)<=2^pt.wide->(2^pt.wide:Int)<all.length →
  ∃m',zcq r (.lst (all.map zbS)) (gPu (gN 3)) (tPu za7) zmU [x0,x1,aa (.ob k),none] (rest.map zbS) m = .exc ⟨"NoMore", []⟩ m'/\Fr k l m m'
 |[],done,m,ha,h,hp,hr,d,R,b,hl,f,H=>by
  rw[yaf]at ha;rw[ha]at H;omega
 |hd::rest,done,m,ha,h,hp,hr,d,R,b,hl,f,H=>by
  have a:HdOk pt.fs hd:=b hd (by rw[ha];simp);by_cases c:(done.length:Int)=2^pt.wide
  ·refine⟨m,?_,Fr.refl⟩;rw[yy,zek hr,zrm h hp a c];rfl
  ·have e:all.length=done.length+(rest.length+1):=by rw[ha,yD,yx]
   obtain⟨m1,i,g,f1⟩:=zpj (x0:=x0) (x1:=x1) h hp a (fun x H=>b x (by rw[ha];simp[H])) (by omega) (by omega);have hr1:m1[r]?=aa (.lst (all.map zbS)):=by rw[f1.2 r (yc.mp hr).1 d R];exact hr
   obtain⟨m2,E,f2⟩:=zhp rest (done++[hd]) (by rw[ha,yaS];rfl) g hp hr1 d R b hl (by rw[yD,ybQ];omega) H;refine⟨m2,?_,f1.trans f2⟩;rw[yy,zek hr,i];show (Res.bind (zcq _ _ _ _ _ _ _ m1) _)=_;rw[E];rfl
end
def EX(m m':Sto):Prop:=m.length<=m'.length/\∀j,j<m.length->m'[j]?=m[j]?
theorem EX.refl:EX m m:=⟨yb _,fun _ _=>rfl⟩
theorem EX.app{n:Sto}:EX m (m++n):=⟨by simp,fun j h=>yO h⟩
theorem EX.trans{a b c:Sto}(h:EX a b)(g:EX b c):EX a c:=⟨yM h.1 g.1,fun j H=>(g.2 j (yF H h.1)).trans (h.2 j H)⟩
theorem EX.at(h:EX m m')(e:m[j]?=aa o):m'[j]?=aa o:=(h.2 j (yc.mp e).1).trans e
theorem zlT{pt:D}{k:Nat}(e:mkM "Presser" zaU [pt] m = .ok (.ob k) m1)(hr:m1[r]?=aa (.lst xs))(h:xs.length<=1000000) : zbW [pt,.ob r] m=((zcq r (.lst xs) (gPu (gN 3)) (tPu za7) zmU [aa pt,aa (.ob r),aa (.ob k),none] xs m1).bind fun ys m2=>(zeS [.lst ys] m2).pu):=by
 unfold zbW;rw[zkJ];have a1:sPu (zaC (eFn (mkM "Presser" zaU) (zac (zag 0) zak)) (gN 2)) [aa pt,aa (.ob r),none] m = .ok (.nx [aa pt,aa (.ob r),aa (.ob k)]) m1:=by
  show Res.pu (Res.bind (mkM "Presser" zaU [pt] m) _)=_;rw[e];rfl
 have a2:oPu (zpT (zag 1)) [aa pt,aa (.ob r),aa (.ob k)] m1 = .ok (r,.lst xs,xs) m1:=by
  show Res.pu (zkX (.ob r) m1)=_;unfold zkX;simp only[hr];rfl
 show Res.bind (Res.bind (sPu (zaC (eFn (mkM "Presser" zaU) (zac (zag 0) zak)) (gN 2)) [aa pt,aa (.ob r),none] m) _) _=_;rw[a1];show Res.bind (zaJ (eY1 zeS (eFn gL1 (zdd 1 (oPu (zpT (zag 1))) (gPu (gN 3)) (tPu za7) zmU))) [aa pt,aa (.ob r),aa (.ob k)] m1) _=_;unfold zaJ eY1 eFn zdd;rw[a2];show Res.bind (Res.bind (Res.bind (Res.bind (if xs.length<=1000000 then _ else _) _) _) _) _=_;rw[if_pos h];show Res.bind (Res.bind (Res.bind (Res.bind (zcq r (.lst xs) (gPu (gN 3)) (tPu za7) zmU [aa pt,aa (.ob r),aa (.ob k),none] xs m1) _) _) _) _=_;cases zcq r (.lst xs) (gPu (gN 3)) (tPu za7) zmU [aa pt,aa (.ob r),aa (.ob k),none] xs m1 with
 |bad=>rfl|exc c n=>rfl|ok ys n=>
  show Res.bind (Res.bind ((zeS [.lst ys] n).pu) _) _=(zeS [.lst ys] n).pu;cases (zeS [.lst ys] n).pu <;> rfl
variable{d1 d2:D}
section
variable{pt:Pt}{all:List (List Int)}
theorem zlS(H:PtOk pt)(hr:m[r]?=aa (.lst (all.map zbS)))(c:∀x∈all,HdOk pt.fs x)(hl:all.length<=900)(h:(all.length:Int)<=2^pt.wide) : ∃m',zbW [pt.e,.ob r] m = .ok (.tup (szL pt all 0 all.length)) m'/\EX m m':=by
 obtain⟨a,m1,e,ha,d,n,hn⟩:=zrN pt m;subst ha hn;have l:=(yc.mp hr).1;have hr1:(m++n)[r]?=aa (.lst (all.map zbS)):=(yO l).trans hr;obtain⟨m2,E,f2⟩:=zjF (all:=all) (x0:=aa pt.e) (x1:=aa (.ob r)) all [] rfl d H hr1 (by omega) (by omega) c hl h;refine⟨m2,?_,?_⟩
 ·rw[zlT e hr1 (by rw[yd];omega),E];rfl
 ·exact⟨yM (by simp) f2.1,fun j b=>(f2.2 j (by rw[yD];omega) (by omega) (by omega)).trans (yO b)⟩
theorem zpx(H:PtOk pt)(hr:m[r]?=aa (.lst (all.map zbS)))(c:∀x∈all,HdOk pt.fs x)(hl:all.length<=900)(h:(2^pt.wide:Int)<all.length) : ∃m',zbW [pt.e,.ob r] m = .exc ⟨"NoMore", []⟩ m'/\EX m m':=by
 obtain⟨a,m1,e,ha,d,n,hn⟩:=zrN pt m;subst ha hn;have l:=(yc.mp hr).1;have hr1:(m++n)[r]?=aa (.lst (all.map zbS)):=(yO l).trans hr;obtain⟨m2,E,f2⟩:=zhp (all:=all) (x0:=aa pt.e) (x1:=aa (.ob r)) all [] rfl d H hr1 (by omega) (by omega) c hl (by simp;exact ydd (ydb (by decide))) h;refine⟨m2,?_,?_⟩
 ·rw[zlT e hr1 (by rw[yd];omega),E];rfl
 ·exact⟨yM (by simp) f2.1,fun j b=>(f2.2 j (by rw[yD];omega) (by omega) (by omega)).trans (yO b)⟩
def ex48:List af:=["HeadError", "NoHead", "NoLetter", "NoWord", "NoMore", "NoDeed", "NoPlace", "Beyond", "NoStream", "NoLine", "NoText"]
def tb48:SV:=by walk_at "#vkw~y#s=sj"
theorem zsh(e:zbW [d1,d2] m = .ok d m'):tb48 [aa d1,aa d2,x2,x3,x4] m = .ok (.nx [aa d1,aa d2,x2,aa d,x4]) m':=by
 show Res.bind (zbW [d1,d2] m) _=_;rw[e];rfl
theorem zp7{c:Exc}(e:zbW [d1,d2] m = .exc c m'):tb48 [aa d1,aa d2,x2,x3,x4] m = .exc c m':=by
 show Res.bind (zbW [d1,d2] m) _=_;rw[e];rfl
theorem znj(e:zbW [d1,d2] m = .ok d m'):zbV [d1,d2] m = .ok d m':=by
 have E:zbV [d1,d2] m=(zcQ [aa d1,aa d2,none,none,none] m).bind zjw:=rfl;rw[E];unfold zcQ;show Res.bind (Res.bind (zpW ex48 "HeadError" tb48 4 _ [aa d1,aa d2,aa .non,aa .non,none] m) _) zjw=_;have:zpW ex48 "HeadError" tb48 4 (zaC (zag 4) (gN 2)) [aa d1,aa d2,aa .non,aa .non,none] m = .ok (.nx [aa d1,aa d2,aa .non,aa d,none]) m':=by
  unfold zpW;rw[zsh e]
 rw[this];rfl
theorem zma(e:zbW [d1,d2] m = .exc ⟨"NoMore", []⟩ m'):zbV [d1,d2] m = .ok (.str "more") m':=by
 have E:zbV [d1,d2] m=(zcQ [aa d1,aa d2,none,none,none] m).bind zjw:=rfl;rw[E];unfold zcQ;show Res.bind (Res.bind (zpW ex48 "HeadError" tb48 4 _ [aa d1,aa d2,aa .non,aa .non,none] m) _) zjw=_;have:zpW ex48 "HeadError" tb48 4 (zaC (zag 4) (gN 2)) [aa d1,aa d2,aa .non,aa .non,none] m = .ok (.nx [aa d1,aa d2,aa (.exn "NoMore" []),aa .non,none]) m':=by
  rw[tryX (zp7 e) (by decide)];rfl
 rw[this];rfl
end
theorem zoJ(Q:PotAt m0 p q c m)(l:c+8<2^40)(s:0<b)(t:b<=40)(g:pl<=100) : Run (zez [.ob p,.int pl,.int b] m) fun a m'=>∃kd:Kd,a=kd.e/\kd.Ok2 pl b/\PotAt m0 p q (c+8) m'/\Fr p q m m':=by
 unfold zez zji;erw [zcH (by(clear g s l;omega))];ac_nf;have r:=p2 b;have H:=p2lt t;generalize o:(2:Int)^b=B at r H;refine Run.bind (za6 (k:=0) Q l rfl (by decide) (by decide)) ?_;rintro _ m1 ⟨w,rfl,w0,w1,F,f1⟩;ac_nf;by_cases C:w<3
 ·rw[if_pos C];ac_nf;refine Run.bind (za6 F l rfl (by split <;> (clear C w1 w0 H o g t s l;omega)) (by split <;> (clear C w1 w0 H r o g t s l;omega))) ?_;rintro _ m2 ⟨x,rfl,x0,x1,J,f2⟩;ac_nf;refine Run.bind (za6 J l rfl r H) ?_;rintro _ m3 ⟨y,rfl,E,Y,I,f3⟩;ac_nf;refine Run.bind (za6 I l rfl (by decide) (by decide)) ?_;rintro _ N ⟨z,rfl,u,Z,A,f4⟩;obtain⟨v,G,e⟩:=zbI (m:=N) (xs:=[.int x,.int y]) u Z;erw [e];ac_nf;have P:x<B:=by split at x1 <;> (clear Z u Y E x0 C w1 w0 H r o g t s l;omega)
  refine Run.ok ?_;simp only[yA,yK,or_false]at G;rcases G with rfl|rfl
  ·exact⟨.step x,rfl,⟨⟨x0,by rw[o];exact P⟩,fun _ h=>by cases h⟩,A.up rfl,f1.trans (f2.trans (f3.trans f4))⟩
  ·exact⟨.step y,rfl,⟨⟨E,by rw[o];exact Y⟩,fun _ h=>by cases h⟩,A.up rfl,f1.trans (f2.trans (f3.trans f4))⟩
 rw[if_neg C];ac_nf;by_cases D:w=3
 ·rw[if_pos D];ac_nf;refine Run.bind (za6 F l rfl (by decide) (by decide)) ?_;rintro _ m2 ⟨x,rfl,x0,x1,J,f2⟩;erw [zgT (by(clear x1 x0 D C w1 w0 H r o g t s l;omega))];ac_nf;refine Run.bind (za6 J l rfl r H) ?_;rintro _ m3 ⟨y,rfl,E,Y,I,f3⟩;ac_nf;refine Run.bind (za6 I l rfl (by decide) (by decide)) ?_;rintro _ N ⟨z,rfl,u,Z,A,f4⟩;ac_nf;generalize hn:(if 2+z<B then 2+z else B)=n;have n0:0<n:=by rw[<- hn];split <;> (clear hn Z x1 x0 D C w1 w0 H r o g t s l;omega)
  have n1:n<=12:=by rw[<- hn];split <;> (clear n0 hn u Y E x1 x0 D C w1 w0 H r o g t s l;omega)
  rw[zbw (ds:=zbu 0 n.toNat) (fun d=>match d with | .int i=>.int ((y+i*(1+2*x))%B) | d=>d)]
  ·ac_nf;refine Run.ok ⟨.turn ((yC n.toNat).map fun i=>(y+(0+(i:Nat):Int)*(1+2*x))%B),?_,⟨⟨?_,?_,?_⟩,?_⟩,A.up rfl,f1.trans (f2.trans (f3.trans f4))⟩
   ·simp only[Kd.e,zbu,yV];rfl
   ·simp;(clear n1 hn Z u Y E x1 x0 D C w1 w0 H r o g t s l;omega)
   ·simp;(clear n0 hn Z u Y E x1 x0 D C w1 w0 H r o g t s l;omega)
   ·intro v G;simp only[yT]at G;obtain⟨i,_,rfl⟩:=G;rw[o];exact⟨yaA _ (by(clear n1 Z u Y E x1 x0 D C w1 w0 H r o g t s l;omega)),yaL _ r⟩
   ·intro row O;cases O;have R:(2:Int)<=B:=by
     rw[<- o];have:=yd1 (n:=2) (by decide) s
     exact_mod_cast this
    have T:2<=n:=by rw[<- hn];split <;> omega
    have S:n<=B:=by rw[<- hn];split <;> omega
    refine⟨by simp;omega,zot _ _ fun i j hi U e=>zss (b:=b) (f:=y) (y:=x) (by rw[o];omega) (by rw[o];omega) ?_⟩;rw[o];have ex:∀i:Nat,y+(0+(i:Nat):Int)*(1+2*x)=y+(2*x+1)*(i:Int):=fun i=>by rw[yde,ya7,Int.add_comm 1]
    rw[<- ex i,<- ex j];exact e
  ·erw [zdU (by(clear n1 hn Z u Y E x1 x0 D C w1 w0 H r o g t s l;omega)) (by(clear n0 hn Z u Y E x1 x0 D C w1 w0 H r o g t s l;omega))]
  ·rw[zaO];(clear n0 hn Z u Y E x1 x0 D C w1 w0 H r o g t s l;omega)
  ·intro d hd;simp only[zbu,yT]at hd;obtain⟨i,hi,rfl⟩:=hd;simp only[yal]at hi;exact⟨_,rfl,zsf r (by(clear hi n1 n0 hn Z u Y E D C w1 w0 H r o g t s l;omega))⟩
 rw[if_neg D];ac_nf;have M:∀m1,PotAt m0 p q (c+1) m1->Fr p q m m1->Run ((zaj [.ob p,.int 2] m1).bind (zoO (zoO (ixD (.lst [.tup [.str "still"],.tup [.str "drawn"]])) kRt) zjw)) fun a m'=>∃kd:Kd,a=kd.e/\kd.Ok2 pl b/\PotAt m0 p q (c+8) m'/\Fr p q m m':=by
  intro m1 F f1;refine Run.bind (za6 F l rfl (by decide) (by decide)) ?_;rintro _ N ⟨z,rfl,u,Z,A,f4⟩;obtain⟨v,G,e⟩:=zbI (m:=N) (xs:=[.tup [.str "still"],.tup [.str "drawn"]]) u Z;erw [e];ac_nf;refine Run.ok ?_;simp only[yA,yK,or_false]at G;rcases G with rfl|rfl
  ·exact⟨.still,rfl,⟨trivial,fun _ h=>by cases h⟩,A.up rfl,f1.trans f4⟩
  ·exact⟨.drawn,rfl,⟨trivial,fun _ h=>by cases h⟩,A.up rfl,f1.trans f4⟩
 by_cases K:w<6
 ·rw[if_pos K];ac_nf;by_cases L:(0:Int)<pl
  ·rw[if_pos L];ac_nf;refine Run.bind (za6 F l rfl (by(clear K D C w1 w0 H r o g t s l;omega)) (by(clear L K D C w1 w0 H r o t s l;omega))) ?_;rintro _ m2 ⟨x,rfl,x0,x1,J,f2⟩;ac_nf;refine Run.bind (za6 J l rfl (by decide) (by decide)) ?_;rintro _ m3 ⟨y,rfl,E,Y,I,f3⟩;ac_nf;refine Run.bind (za6 I l rfl (by decide) (by decide)) ?_;rintro _ N ⟨z,rfl,u,Z,A,f4⟩;obtain⟨v,G,e⟩:=zbI (m:=N) (xs:=[.int 1,.int (y-99)]) u Z;erw [e];ac_nf;obtain⟨i,rfl⟩:∃i:Nat,x=i:=⟨x.toNat,by(clear Z u Y E x1 L K D C w1 w0 H r o g t s l;omega)⟩;simp only[yA,yK,or_false]at G;rcases G with rfl|rfl
   ·exact Run.ok ⟨.wth i 1,rfl,⟨⟨by(clear x0 Z u Y E L K D C w1 w0 H r o g t s l;omega),by(clear x1 x0 Z u Y E L K D C w1 w0 H r o g t s l;omega),by(clear x1 x0 Z u Y E L K D C w1 w0 H r o g t s l;omega)⟩,fun _ h=>by cases h⟩,A.up rfl,f1.trans (f2.trans (f3.trans f4))⟩
   ·exact Run.ok ⟨.wth i (y-99),rfl,⟨⟨by(clear x0 Z u Y E L K D C w1 w0 H r o g t s l;omega),by(clear x1 x0 Z u Y L K D C w1 w0 H r o g t s l;omega),by(clear x1 x0 Z u E L K D C w1 w0 H r o g t s l;omega)⟩,fun _ h=>by cases h⟩,A.up rfl,f1.trans (f2.trans (f3.trans f4))⟩
  ·rw[if_neg L];ac_nf;exact M m1 F f1
 ·rw[if_neg K];ac_nf;exact M m1 F f1
theorem ztj(h:i<12):∃s:af,s.length=1/\ixD (.str "abcdefghijkl") (.int i) m = .ok (.str s) m/\s=⟨#[97+i]⟩:=by
 have H:∀j,j<12->(yE "abcdefghijkl").cps.toList[j]?=aa (97+j):=by decide
 refine⟨⟨#[97+i]⟩,rfl,?_,rfl⟩;have e:ixD (.str "abcdefghijkl") (.int i) m=if (yE "abcdefghijkl").length<=sizeLine then opt ((L2.atI (yE "abcdefghijkl").cps.toList i).map fun c=>D.str ⟨#[c]⟩) m else .bad:=rfl
 rw[e,if_pos (by decide),zgF,H i h];rfl
def Sh8(fs:List Fd):Prop:=∀(i:Nat)(f:Fd),fs[i]?=aa f->0<f.b/\f.b<=40/\f.kd.Ok2 i f.b/\∃c:Nat,c<8/\f.nm=Txt.mul ⟨#[97+i]⟩ (1+(c:Int))
theorem Sh8.app{fs:List Fd}(h:Sh8 fs)(e:0<f.b)(d:f.b<=40)(b:f.kd.Ok2 fs.length f.b)(a:∃c:Nat,c<8/\f.nm=Txt.mul ⟨#[97+fs.length]⟩ (1+(c:Int))):Sh8 (fs++[f]):=fun i g H=>by
 rcases ybC i fs.length with hi|hi|hi
 ·rw[yO hi]at H;exact h i g H
 ·subst hi;simp at H;subst H;exact⟨e,d,b,a⟩
 ·rw[ya9 (by rw[yD,ybQ];omega)]at H;cases H
theorem nm8:∀i:Nat,i<12->∀c:Nat,c<8->nmB (Txt.mul ⟨#[97+i]⟩ (1+(c:Int)))=ae/\(Txt.mul ⟨#[97+i]⟩ (1+(c:Int))).length<=8/\(Txt.mul ⟨#[97+i]⟩ (1+(c:Int))).cps[0]?=aa (97+i):=by decide +kernel
theorem Sh8.g{fs:List Fd}(h:Sh8 fs)(hn:fs.length<=12):ShG fs:=by
 refine⟨fun i f H=>let ⟨a,b,c,_⟩:=h i f H;⟨a,b,c⟩,fun x l=>?_,?_⟩
 ·obtain⟨f,H,rfl⟩:=yT.mp l;obtain⟨i,hi⟩:=yaT.mp H;obtain⟨_,_,_,c,g,e⟩:=h i f hi;have:=nm8 i (by have:=(yc.mp hi).1;omega) c g;rw[e];exact⟨this.1,this.2.1⟩
 ·rw[List.nodup_iff_pairwise_ne,List.pairwise_iff_getElem];intro i j hi k m e;rw[yd]at hi k;obtain⟨_,_,_,c,g,n⟩:=h i fs[i] (yf hi);obtain⟨_,_,_,d,hd,E⟩:=h j fs[j] (yf k);rw[yb5,yb5,n,E]at e;have z:=(nm8 i (by omega) c g).2.2;have Z:=(nm8 j (by omega) d hd).2.2;rw[e,Z]at z;simp at z;omega
theorem zme(P:PotAt m0 p q c m)(u:c+300<2^40) : Run (zdB [.ob p] m) fun a m'=>∃(fs:List Fd)(n:Int),a = .tup [.tup (fs.map Fd.e),.int n]/\0<n/\n<=1000000/\fs≠[]/\fs.length<=12/\Sh8 fs/\PotAt m0 p q (c+300) m':=by
 unfold zdB zhi;erw [zgc];ac_nf;have L:PotAt m0 p q c (m++[.lst []]):=P.app;have hr:(m++[MO.lst []])[m.length]?=aa (.lst []):=by simp
 have g:m.length≠p:=yR P.lt.1;have H:m.length≠q:=yR P.lt.2;have hr0:m0.length<=m.length:=P.fr.len;generalize m.length=r at hr g H hr0 ⊢;generalize m++[MO.lst []]=mA at L hr ⊢;refine Run.bind (za6 (k:=0) L u rfl (by decide) (by decide)) ?_;rintro _ m1 ⟨z,rfl,Z,o,E,f1⟩;ac_nf;obtain⟨v,B,e⟩:=zbI (m:=m1) (xs:=[.int 2,.int 4,.int 12]) Z o;rw[e];have C:∃k:Int,v = .int k/\0<k/\k<=12:=by
  simp only[yA,yK,or_false]at B;rcases B with rfl|rfl|rfl <;> exact⟨_,rfl,by decide,by decide⟩
 obtain⟨k,rfl,k0,k1⟩:=C;ac_nf;refine Run.bind (za6 E u rfl k0 (by(clear k0 o Z hr0 H g u;omega))) ?_;rintro _ m2 ⟨y,rfl,t,Y,x,f2⟩;erw [zdU (by(clear Y k1 k0 o Z hr0 H g u;omega)) (by(clear t k0 o Z hr0 H g u;omega))];ac_nf;have hr2:m2[r]?=aa (.lst []):=by rw[(f1.trans f2).at' r (yc.mp hr).1 g H];exact hr
 generalize A:(1+y).toNat=N;have j:0<N:=by(clear Y k1 k0 o Z hr0 H g u;omega)
 have w:N<=12:=by(clear j t k0 o Z hr0 H g u;omega)
 refine Run.bind (zaN (fun k ρ m=>∃(fs:List Fd)(left:Int)(Q O X:Option D),ρ = [aa (.ob p),aa (.ob r),aa (.int left),Q,O,X]/\m[r]?=aa (.lst (fs.map Fd.e))/\fs.length=k/\Sh8 fs/\PotAt m0 p q (c+2+20*k) m) (zbu 0 N) 0 ⟨[],90,none,none,none,rfl,hr2,rfl,fun i f h=>by simp at h,x⟩ ?_) ?_
 ·rintro i d ρ m hd ⟨fs,left,Q,O,X,rfl,g1,G,W,I⟩;have hi:i<N:=by
   have:=(yc.mp hd).1;rw[zaO]at this;exact this
  have V:d = .int (i:Nat):=by
   simp only[zbu,yI,yb8 hi,yaz,yay,yde]at hd;exact hd.symm
  subst V;rw[yh]at G I;have l:c+2+20*i+20<2^40:=by(clear G j A Y t k1 k0 o Z hr0 H g;omega)
  have K:∀(m1:Sto)(z:Int),0<z->z<=40->PotAt m0 p q (c+2+20*i+1) m1->Fr p q m m1->Run ((zaj [.ob p,.int z] m1).bind fun y m2=>zaP (.int 1) y m2) fun a m'=>∃b:Nat,a = .int b/\0<b/\b<=40/\PotAt m0 p q (c+2+20*i+2) m'/\Fr p q m m':=by
   intro m1 z Z o h f;refine Run.bind (za6 h l rfl Z (by(clear Z l hi G w j A Y t k1 k0 hr0 H g u;omega))) ?_;rintro _ m2 ⟨y,rfl,t,Y,x,f2⟩;refine Run.ok ⟨(1+y).toNat,?_,by(clear Y o Z l hi G w j A k1 k0 hr0 H g u;omega),by(clear t Z l hi G w j A k1 k0 hr0 H g u;omega),x,f.trans f2⟩;rw[ybF (by(clear Y o Z l hi G w j A k1 k0 hr0 H g u;omega))]
  have J:Run ((eOp zaP (eC (.int 1)) (eFn zaj (zac (zag 0) (zac (eIf (tV (eOp gtD (zag 2) (eC (.int 0)))) (eOp ixD (eFn zc6 (zac (eC (.int 3)) (zac (eC (.int 8)) (zac (eC (.int 40)) zak)))) (eFn zaj (zac (zag 0) (zac (eC (.int 3)) zak)))) (eC (.int 3))) zak)))) [aa (.ob p),aa (.ob r),aa (.int left),aa (.int (i:Nat)),O,X] m) fun a m'=>∃b:Nat,a = .int b/\0<b/\b<=40/\PotAt m0 p q (c+2+20*i+2) m'/\Fr p q m m':=by
   ac_nf;by_cases c1:0<left
   ·rw[if_pos c1];ac_nf;refine Run.bind (za6 (k:=0) I l rfl (by decide) (by decide)) ?_;rintro _ m2 ⟨y,rfl,t,Y,x,f2⟩;ac_nf;obtain⟨v,B,e⟩:=zbI (m:=m2) (xs:=[.int 3,.int 8,.int 40]) t Y;rw[e];simp only[yA,yK,or_false]at B;ac_nf;rcases B with rfl|rfl|rfl
    ·exact K m2 3 (by decide) (by decide) x f2
    ·exact K m2 8 (by decide) (by decide) x f2
    ·exact K m2 40 (by decide) (by decide) x f2
   ·rw[if_neg c1];ac_nf;exact K m 3 (by decide) (by decide) (I.up (k:=0) (k':=1) rfl) Fr.refl
  simp only[seq_at,asg_at,bind_ok,bind_then,gN_at,ybE,ybD];refine Run.bind J ?_;rintro _ m1 ⟨b,rfl,b0,b1,E,f1⟩;ac_nf;obtain⟨s,hs,e,R⟩:=ztj (i:=i) (m:=m1) (by(clear b1 b0 l G j A Y t k1 k0 o Z hr0 H g u;omega));rw[e];ac_nf;refine Run.bind (za6 E l rfl (by decide) (by decide)) ?_;rintro _ m2 ⟨y,rfl,t,Y,x,f2⟩;erw [mul_s hs (by(clear Y hs b1 b0 l hi G w j A k1 k0 o Z hr0 H g u;omega)) (by(clear t hs b1 b0 l hi G w j A k1 k0 o Z hr0 H g u;omega))];ac_nf;have F:m2[r]?=aa (.lst (fs.map Fd.e)):=by rw[(f1.trans f2).at' r (yc.mp g1).1 g H];exact g1
  rw[if_pos (zdx F)];ac_nf;refine Run.bind (zoJ x (by(clear Y t hs b1 b0 hi G w j A k1 k0 o Z hr0 H g u;omega)) b0 b1 (by(clear Y t hs b1 b0 l G j A k1 k0 o Z hr0 H g u;omega))) ?_;rintro _ m3 ⟨kd,rfl,hk,U,f3⟩;ac_nf;have M:m3[r]?=aa (.lst (fs.map Fd.e)):=by rw[f3.at' r (yc.mp F).1 g H];exact F
  rw[zdI M (by rw[yd];exact zaQ (by(clear Y t hs b1 b0 l j A k1 k0 o Z hr0 H g u;omega)))];ac_nf;refine Run.ok ⟨_,rfl,fs++[⟨Txt.mul s (1+y),b,kd⟩],left-b,_,_,_,rfl,?_,?_,?_,?_⟩
  ·rw[zbY M,yaj];rfl
  ·rw[yD,G];simp
  ·exact W.app b0 b1 (by rw[G];exact hk) ⟨y.toNat,by omega,by
    rw[G,R,show (1:Int)+y=1+(y.toNat:Int) by omega]⟩
  ·exact(U.set hr0 g H).more (by(clear Y t hs b1 b0 l hi G w j A k1 k0 o Z hr0 H g u;omega))
 ·rintro _ m3 ⟨ρ,rfl,fs,left,Q,O,X,rfl,g1,G,W,I⟩;rw[zaO,yh]at G I;ac_nf;simp only[zeS,g1];erw [pow106];ac_nf;refine Run.bind (pick_run I (by(clear G j A Y t k1 k0 o Z hr0 H g;omega)) (by decide) (by decide)) ?_;rintro _ m4 ⟨z,rfl,Z,o,T,f4⟩;ac_nf;refine Run.bind (pick_run T (by(clear o Z G j A Y t k1 k0 hr0 H g;omega)) (by decide) (by decide)) ?_;rintro _ m5 ⟨y,rfl,t,Y,S,f5⟩;ac_nf;obtain⟨v,B,e⟩:=zbI (m:=m5) (xs:=[.int 1,.int 2,.int 1000000,.int (1+z)]) t Y;rw[e];have C:∃n:Int,v = .int n/\0<n/\n<=1000000:=by
   simp only[yA,yK,or_false]at B;rcases B with rfl|rfl|rfl|rfl <;> exact⟨_,rfl,by(clear Y t o G w j A k1 k0 hr0 H g u;omega),by(clear Y t Z G w j A k1 k0 hr0 H g u;omega)⟩
  obtain⟨n,rfl,n0,n1⟩:=C;ac_nf;refine Run.ok ⟨fs,n,rfl,n0,n1,fun z=>?_,by(clear n1 n0 Y t o Z j A k1 k0 hr0 H g u;omega),W,S.more (by(clear n1 n0 Y t o Z G j A k1 k0 hr0 H g u;omega))⟩;rw[z]at G;simp at G
  (clear n1 n0 Y t o Z w A k1 k0 hr0 H g u;omega)
variable{hds:List (List Int)}
theorem zeH{k:Nat}(hr:m[r]?=aa (.lst (hds.map zbS)))(g:k<hds.length)(hl:hds.length<=100)(f:0<reach) : Run (zbD [.ob r,.int k,.int reach] m) fun a m'=>a = .tup ((fmL (hds.take k) reach).map fmE)/\m'=m:=by
 unfold zbD zfl;ac_nf;generalize h:(if (k:Int)<(reach:Int) then (k:Int) else (reach:Int))=M;have b:0<=M:=by rw[<- h];split <;> (clear h hl g;omega)
 have H:M<=k:=by rw[<- h];split <;> (clear b h f hl g;omega)
 have c:(if (reach:Int)<(k:Int) then (reach:Int) else (k:Int))=M:=by rw[<- h];split <;> split <;> (clear H b h f hl g;omega)
 have j:∀d∈zbu 1 (M+1-1).toNat,∃i:Nat,d = .int (1+(i:Nat))/\i<k:=by
  intro d hd;simp only[zbu,yT,yal]at hd;obtain⟨i,hi,rfl⟩:=hd;exact⟨i,rfl,by(clear H b h f hl g;omega)⟩
 rw[zbw (ds:=zbu 1 (M+1-1).toNat) (fmF hds k) (by
   ac_nf;simp only[c,h];rw[zst (by decide) (by decide) (by(clear c H h f hl g;omega)) (by(clear H b h f;omega))]) (by rw[zaO];(clear H b h f;omega)) (by
   intro d hd;obtain⟨i,rfl,hi⟩:=j d hd;refine⟨[aa (.ob r),aa (.int k),aa (.int reach),aa (.int (1+(i:Nat)))],rfl,?_⟩;ac_nf;have e:(k:Int)-(1+(i:Nat))=((k-1-i:Nat):Int):=by(clear c H b h f hl g;omega)
   rw[e,zoS hr (d:=zbS hds[k-1-i]) (by rw[yI,yf (by(clear e hi c H b h f hl;omega))];rfl)];ac_nf;simp only[fmF,fmE,zbS];rw[e,y8,y9,yf (by(clear e hi c H b h f hl;omega))];rfl)]
 ac_nf;refine Run.ok ⟨?_,rfl⟩;have em:(M+1-1).toNat=min reach k:=by rw[<- h];split <;> omega
 have el:(hds.take k).length=k:=by rw[yaE];omega
 unfold fmL;rw[el,em];simp only[zbu,yV];congr 1;apply ybj;intro i hi;have l:i<min reach k:=by simpa using hi
 simp only[Function.comp,fmF];congr 1;refine Prod.ext (Int.add_comm _ _) ?_;show hds.getD _ []=(hds.take k).getD _ [];rw[show ((k:Int)-(1+(i:Nat))).toNat=k-1-i by omega,y9,y9,List.getElem?_take];rw[if_pos (by omega)]
theorem ztg{pt:Pt}{f:Fm}(e:pt.fms[j]?=aa f):zdh pt hs none none 0 hd j↔(anB pt hs.length=ai/\pt.rd.skips<hs.length/\pt.rd.skips<f.a/\((hs.length:Int)+pt.rd.late-mxI 0 ((hs.length:Int)-1-pt.rd.gap)<2^f.b)/\∀x∈fmL hs f.a,tdV pt.fs f.wys hd x=hd):=by
 have l:shB pt hs.length none 0 f.a=decide (pt.rd.skips<hs.length/\pt.rd.skips<f.a):=by
  unfold shB;rw[ybW];by_cases a:pt.rd.skips<hs.length <;> by_cases b:pt.rd.skips<f.a <;> simp[a,b] <;> omega
 have g:ctB pt hs.length none f.b=decide ((hs.length:Int)+pt.rd.late-mxI 0 ((hs.length:Int)-1-pt.rd.gap)<2^f.b):=rfl;have p:∀o,D.non=zkK o->o=none:=fun o h=>by
  cases o with
  |none=>rfl|some x=>obtain⟨a,b,c⟩:=x;cases h
 have E:DB pt.fs f.wys hd (fmL hs f.a) none↔∀x∈fmL hs f.a,tdV pt.fs f.wys hd x=hd:=by
  constructor
  ·intro h x m;obtain⟨i,hi⟩:=yaT.mp m;exact yea (h i x hi)
  ·intro h i x hi k;rw[h x (yaT.mpr ⟨i,hi⟩)]
 constructor
 ·rintro⟨F,H,h⟩;rw[e]at H;cases H;unfold HiV at h;split at h
  ·cases h
  ·rename_i a;split at h
   ·cases h
   ·rename_i b;split at h
    ·cases h
    ·rename_i c;obtain⟨o,n,h⟩:=h;rw[p o n]at h;rw[l]at b;rw[g]at c;have B:=of_decide_eq_true (by simpa using b:decide (pt.rd.skips<hs.length/\pt.rd.skips<f.a)=ae);exact⟨by simpa using a,B.1,B.2,by simpa using c,E.mp h⟩
 ·rintro⟨a,b1,b2,c,d⟩;refine⟨f,e,?_⟩;unfold HiV;rw[if_neg (by rw[a];decide),if_neg (by rw[l,decide_eq_true ⟨b1,b2⟩];decide),if_neg (by rw[g,decide_eq_true c];decide)];exact⟨none,rfl,E.mpr d⟩
theorem an48{pt:Pt}:(if (0:Int)<(pt.rd.anew:Nat) then (zdu (.int (i:Nat)) (.int (pt.rd.anew:Nat)) m).bind (zoO (kOp eqD (eC (.int 0)) ρ) asB) else Res.ok ai m) = .ok (anB pt i) m:=by
 unfold anB;by_cases a:(0:Int)<(pt.rd.anew:Nat)
 ·rw[if_pos a,zbO a];show (Res.bind (eqD (.int ((i:Int)%(pt.rd.anew:Nat))) (.int 0) m) asB)=_;rw[show eqD (.int ((i:Int)%(pt.rd.anew:Nat))) (.int 0) m = .ok (.bl (decide (((i:Int)%(pt.rd.anew:Nat))=0))) m from eq_i _ _];show Res.ok (decide _) m=_;congr 1;apply decide_eq_decide.mpr;omega
 ·rw[if_neg a];congr 1;exact(decide_eq_false (by omega)).symm
theorem zq8{pt:Pt}{f:Fm}(H:PtOk pt)(hr:m[r]?=aa (.lst (hds.map zbS)))(J:∀x∈hds,HdOk pt.fs x)(hi:i<hds.length)(hl:hds.length<=100)(w:pt.fms[j]?=aa f) : Run (zc7 [pt.e,.ob r,.int i,.int j] m) fun a m'=>∃b:Bool,a = .bl b/\(b=ae↔zdh pt (hds.take i) none none 0 (hds.getD i []) j)/\m'=m:=by
 have l:(pt.fms.map Fm.e)[j]?=aa (fmD f.a f.b f.wys):=by rw[yI,w];rfl
 unfold zc7 zjm Pt.e Rd4.e;erw [zkF l];unfold fmD;erw [an48];ac_nf;have el:(hds.take i).length=i:=by rw[yaE];omega
 have fo:=H.fm f (yW w);rw[show (if anB pt i=ae then Res.ok ae m else if (i:Int)<=(pt.rd.skips:Nat) then Res.ok ae m else Res.ok (decide ((f.a:Int)<=(pt.rd.skips:Nat))) m)=Res.ok (decide (anB pt i=ae∨i<=pt.rd.skips∨f.a<=pt.rd.skips)) m by
  by_cases a:anB pt i=ae
  ·rw[if_pos a];congr 1;exact(decide_eq_true (.inl a)).symm
  ·rw[if_neg a];by_cases b:(i:Int)<=(pt.rd.skips:Nat)
   ·rw[if_pos b];congr 1;exact(decide_eq_true (.inr (.inl (by omega)))).symm
   ·rw[if_neg b];congr 1;apply decide_eq_decide.mpr;constructor
    ·intro h;exact .inr (.inr (by omega))
    ·rintro (h|h|h)
     ·exact absurd h a
     ·omega
     ·omega]
 ac_nf;by_cases C:anB pt i=ae∨i<=pt.rd.skips∨f.a<=pt.rd.skips
 ·rw[if_pos C];ac_nf;refine Run.ok ⟨ai,rfl,?_,rfl⟩;rw[ztg w,el];constructor
  ·intro h;cases h
  ·rintro⟨a,b,c,_⟩;rcases C with h|h|h
   ·rw[a]at h;cases h
   ·omega
   ·omega
 rw[if_neg C];erw [zcH (by have:=fo.b1;omega)];ac_nf;have n:hds[i]?=aa (hds.getD i []):=by rw[y9,yf hi];rfl
 generalize hds.getD i []=hd at n ⊢;have u:HdOk pt.fs hd:=J hd (yW n);have s:(hds.map zbS)[i]?=aa (.tup (hd.map D.int)):=by rw[yI,n];rfl
 by_cases A:(2:Int)^f.b<=(i:Int)+(pt.rd.late:Nat)-if (i:Int)-1-(pt.rd.gap:Nat)>0 then (i:Int)-1-(pt.rd.gap:Nat) else 0
 ·rw[if_pos A];ac_nf;refine Run.ok ⟨ai,rfl,?_,rfl⟩;rw[ztg w,el];constructor
  ·intro h;cases h
  ·rintro⟨_,_,_,d,_⟩;exact absurd d (Int.not_lt.mpr A)
 rw[if_neg A];erw [zkF l];erw [zoS hr s];erw [zav (zh7 H.sh.ok H.f1 fo.wy u)];erw [zav (zeH hr hi hl fo.a0)];ac_nf;have v:∀p∈fmL (hds.take i) f.a,HdOk pt.fs p.2:=zpb fun x y=>J x (ybz y);have G:(fmL (hds.take i) f.a).length<=100:=by simp only[fmL,yd,yap,el];omega
 have hm:zdh pt (hds.take i) none none 0 hd j↔∀x∈fmL (hds.take i) f.a,tdV pt.fs f.wys hd x=hd:=by
  rw[ztg w,el];constructor
  ·exact fun h=>h.2.2.2.2
  ·refine fun h=>⟨?_,?_,?_,Int.not_le.mp A,h⟩
   ·cases q:anB pt i with
    |false=>rfl|true=>exact absurd (.inl q) C
   ·exact Nat.not_le.mp fun z=>C (.inr (.inl z))
   ·exact Nat.not_le.mp fun z=>C (.inr (.inr z))
 rw[hm];generalize fmL (hds.take i) f.a=fm at v G ⊢;obtain⟨F,B⟩:=zn4 H.sh.ok H.f1 fo.wy u;refine Run.bind (zdJ (ds:=fm.map fmE) (fun k m'=>m'=m) (fun i d x=>∃t:Bool,x = .bl t/\∀p,fm[i]?=aa p->t=decide (tdV pt.fs f.wys hd p=hd)) ?_ (by rw[yd];omega) rfl ?_) ?_
 ·ac_nf
 ·rintro k d m' o rfl;have I:k<fm.length:=by have:=(yc.mp o).1;simpa using this
  have K:=yf I;rw[yI,K,yaz]at o;cases o;simp only[fmE];erw [zkF l];erw [zav (zh8 H.sh.ok H.f1 fo.wy (v _ (yaG I)) (zkh pt.fs.length) F B)];erw [zoS hr s];erw [eq_tup];exact Run.ok ⟨⟨_,rfl,fun p H=>by rw[K]at H;cases H;rfl⟩,rfl⟩
 ·rintro xs m' ⟨g,M,rfl⟩;rw[yd]at g;obtain⟨L,rfl,E⟩:=lift D.bl (fun i t=>∀p,fm[i]?=aa p->t=decide (tdV pt.fs f.wys hd p=hd)) xs 0 fun i x y=>by
   have hi:i<fm.length:=by have:=(yc.mp y).1;omega
   rw[yh];exact M i _ x (by rw[yI,yf hi];rfl) y
  have e:L=fm.map fun p=>decide (tdV pt.fs f.wys hd p=hd):=by
   refine yd7 (by simpa using g) fun i O N=>?_;have hi:i<fm.length:=by simpa using N
   have:=E i L[i] (yf O) fm[i] (by rw[yh];exact yf hi);rw[this];simp
  have P:zm5 [.lst (L.map D.bl)] m' = .ok (.bl (fm.all fun p=>decide (tdV pt.fs f.wys hd p=hd))) m':=by
   have:=zeN (fun t:Bool=>t) L;simp only[zm5,lOf,yaa];rw[show L.map D.bl=L.map (fun t=>D.bl t) from rfl,this];simp only[List.map_id',e,List.all_map];rfl
  erw [P];ac_nf;exact Run.ok ⟨_,rfl,by simp,rfl⟩
theorem ztL{n:Nat}(h:1<=n):yar ((n:Int)-1)=wdN n:=by
 unfold yar wdN;by_cases c:n<=1
 ·have:n=1:=by omega
  subst this;rfl
 ·rw[if_neg c];have e:((n:Int)-1)=((n-1:Nat):Int):=by omega
  rw[e];simp;omega
theorem zrA{n:Nat}(h:1<=n):zcx [.int n] m = .ok (.int (wdN n)) m:=by
 have r:Run (zcx [.int n] m) fun a m'=>a = .int (wdN n)/\m'=m:=by
  unfold zcx zjh;erw [zr4,ztL h];ac_nf;exact Run.ok ⟨rfl,rfl⟩
 exact zav r
theorem zp1{fs:List Fd}{X:Option D}(g:WyOk fs wys)(hn:fs.length<=12)(h:it [x0,x1,x2,x3,x4,x5,x6,x7,X,x9] m = .ok (zdZ (fs.map Fd.e) (wys.map Wy.e)) m) : zbM 2 it (gT 2 (zas (gN 10) (zas (gN 11) zbn))) za7 (eFn zbj (zac (zag 10) (zac (zag 11) zak))) [x0,x1,x2,x3,x4,x5,x6,x7,X,x9] m = .ok ((zcr fs wys).map fun k:Nat=>D.int k) m:=by
 have r:Run (zbM 2 it (gT 2 (zas (gN 10) (zas (gN 11) zbn))) za7 (eFn zbj (zac (zag 10) (zac (zag 11) zak))) [x0,x1,x2,x3,x4,x5,x6,x7,X,x9] m) fun xs m'=>xs=(zcr fs wys).map (fun k:Nat=>D.int k)/\m'=m:=by
  have c:(zdZ (fs.map Fd.e) (wys.map Wy.e)).length=fs.length:=by rw[zhy _ _ (by rw[yd,yd,g.len];exact yb _),yd]
  refine Run.mono (zdJ (ds:=zdZ (fs.map Fd.e) (wys.map Wy.e)) (fun k m'=>m'=m) (fun i d x=>∀f w,fs[i]?=aa f->wys[i]?=aa w->x = .int (w.w f.b:Nat)) h (by rw[c];omega) rfl ?_) ?_
  ·rintro i d m' hd rfl;obtain⟨a,b,ha,j,rfl⟩:=zhz _ _ _ _ hd;rw[yI]at ha j;obtain⟨f,q,rfl⟩:=yag.mp ha;obtain⟨w,e,rfl⟩:=yag.mp j;erw [zav zdw];refine Run.ok ⟨fun F W n l=>?_,rfl⟩;rw[q]at n;rw[e]at l;cases n;cases l;rfl
  ·rintro xs m' ⟨H,s,rfl⟩;refine⟨yea fun i=>?_,rfl⟩;rw[c]at H;by_cases hi:i<fs.length
   ·have p:=yf (show i<xs.length by omega);have o:=yf hi;have E:=yf (show i<wys.length by rw[g.len];exact hi);obtain⟨d,hd⟩:∃d,(zdZ (fs.map Fd.e) (wys.map Wy.e))[i]?=aa d:=⟨_,yf (by rw[c];exact hi)⟩;rw[p,yI,zdk o E,s i d _ hd p _ _ o E];rfl
   ·rw[ya9 (by omega),ya9 (by rw[yd,zbl g];omega)]
 exact zav r
theorem sum48{ws:List Nat}(h:∀a∈ws,a<=40)(hl:ws.length<=1000):zpV [.lst (ws.map fun k:Nat=>D.int k)] m = .ok (.int (ws.sum:Nat)) m:=by
 rw[show (ws.map fun k:Nat=>D.int k)=(ws.map fun k:Nat=>(k:Int)).map D.int by rw[yV];rfl,sum_i ⟨fun a ha=>by
  obtain⟨k,H,rfl⟩:=yT.mp ha;have:=h k H;omega,by rw[yd];omega⟩]
 congr 2;clear h hl;induction ws with
 |nil=>rfl|cons a r i=>rw[yy,yby,yby,i];push_cast;rfl
def fsz(pt:Pt)(f:Fm):Nat:=f.b+(zcr pt.fs f.wys).sum+wdN pt.n.toNat
theorem zkD(pt:Pt)(a:Option Nat):lsz pt a=wdN (1+pt.fms.length)+fsz pt (zdi pt a):=by unfold lsz fsz;omega
theorem zsa{fs:List Fd}(hs:zhw fs)(H:WyOk fs wys):∀a∈zcr fs wys,a<=40:=fun a ha=>by
 obtain⟨i,hi⟩:=yaT.mp ha;have h:i<fs.length:=by have:=(yc.mp hi).1;rw[zbl H]at this;exact this
 have e:=yf h;have E:=yf (show i<wys.length by rw[H.len];exact h);rw[zdk e E]at hi;cases hi;have c:=(hs i _ e).2.1;have b:=Wy.w_le (H.at' i _ _ e E);omega
theorem znr{pt:Pt}(h:PtOk pt):Run (zdA [pt.e] m) fun a m'=>∃s,a = .tup [.int (fsz pt (fmW pt):Nat),.ob s]/\m'[s]?=aa (.lst (pt.fms.map fun f=>D.int (fsz pt f:Nat)))/\m.length<=s/\EX m m':=by
 have hn:=h.n0;have q:=h.n1;obtain⟨n,b⟩:∃k:Nat,pt.n=k:=⟨pt.n.toNat,by omega⟩;unfold zdA zhh Pt.e Rd4.e;erw [show ixD (shD pt.fs pt.n) (.int 1) m = .ok (.int pt.n) m from ix_t1 _ _ _];erw [b,zrA (by omega)];erw [zgc];ac_nf;generalize u:D.tup [shD pt.fs (n:Int),D.int pt.wide,D.tup (List.map Fm.e pt.fms),D.tup [D.int pt.rd.skips,D.int pt.rd.gap,D.int pt.rd.late,D.int pt.rd.anew]]=E;generalize t:D.tup [D.int pt.rd.skips,D.int pt.rd.gap,D.int pt.rd.late,D.int pt.rd.anew]=R;have l:(m++[MO.lst []])[m.length]?=aa (.lst []):=by simp
 have o:EX m (m++[MO.lst []]):=EX.app;have p:∀f:Fm,fsz pt f=f.b+(zcr pt.fs f.wys).sum+wdN n:=fun f=>by unfold fsz;rw[b];rfl
 refine Run.bind (zaN (fun k ρ m'=>∃e c X:Option D,ρ = [aa E,aa (shD pt.fs (n:Int)),aa (.int pt.wide),aa (.tup (List.map Fm.e pt.fms)),aa R,aa (.int (wdN n:Nat)),aa (.ob m.length),e,c,X]/\m'[m.length]?=aa (.lst ((pt.fms.take k).map fun f=>D.int (fsz pt f:Nat)))/\EX m m') (pt.fms.map Fm.e) 0 ⟨none,none,none,rfl,by simpa using l,o⟩ ?_) ?_
 ·rintro i d ρ m1 hd ⟨e,c,X,rfl,g1,g⟩;rw[yh]at g1 ⊢;rw[yI]at hd;obtain⟨f,H,rfl⟩:=yag.mp hd;have fo:=h.fm f (yW H);have hi:=(yc.mp H).1;unfold Fm.e fmD;erw [if_pos (zdx g1)];ac_nf;rw[zp1 (fs:=pt.fs) (wys:=f.wys) fo.wy h.f1 (by
   show (Res.bind (ixD (shD pt.fs (n:Int)) (.int 0) m1) _)=_;rw[show ixD (shD pt.fs (n:Int)) (.int 0) m1 = .ok (.tup (pt.fs.map Fd.e)) m1 from ix_t0 _ _];show (if (pt.fs.map Fd.e).length<=(f.wys.map Wy.e).length then Res.ok (zdZ (pt.fs.map Fd.e) (f.wys.map Wy.e)) m1 else .bad)=_;rw[if_pos (by rw[yd,yd,fo.wy.len];exact yb _)])]
  erw [sum48 (zsa h.sh.ok fo.wy) (by rw[zbl fo.wy];have:=h.f1;omega)];erw [zdI g1 (by rw[yd,yaE];exact zaQ (by have:=h.fml;omega))];ac_nf;refine Run.ok ⟨_,rfl,_,_,_,rfl,?_,?_⟩
  ·rw[zbY g1,List.take_succ,H,yaj];simp only[Option.toList,yy,yaZ,p];congr 5;try omega
  ·exact⟨by rw[yak];exact g.1,fun j r=>by rw[yan (by omega)];exact g.2 j r⟩
 ·rintro _ m1 ⟨ρ,rfl,e,c,X,rfl,g1,g⟩;rw[yh,yd,ybA]at g1;ac_nf;rw[zbw (ds:=pt.fs.map Fd.e) (fun d=>match d with | .tup [_,x,_]=>x | d=>d) (by
    show (Res.bind (ixD (shD pt.fs (n:Int)) (.int 0) m1) zkW)=_;rw[show ixD (shD pt.fs (n:Int)) (.int 0) m1 = .ok (.tup (pt.fs.map Fd.e)) m1 from ix_t0 _ _];rfl) (by rw[yd];have:=h.f1;omega) (by
    intro d hd;obtain⟨f,H,rfl⟩:=yT.mp hd;exact⟨_,rfl,show ixD (.tup [.str f.nm,.int f.b,f.kd.e]) (.int 1) m1=_ from ix_t1 _ _ _⟩)]
  ac_nf;rw[show ((pt.fs.map Fd.e).map fun d=>match d with | .tup [_,x,_]=>x | d=>d)=(pt.fs.map fun f=>f.b).map fun k:Nat=>D.int k by rw[yV,yV];rfl];rw[sum48 (fun a ha=>by
    obtain⟨f,H,rfl⟩:=yT.mp ha;obtain⟨i,hi⟩:=yaT.mp H;exact(h.sh.ok i f hi).2.1) (by rw[yd];have:=h.f1;omega)]
  ac_nf;refine Run.ok ⟨m.length,?_,g1,yb _,g⟩;rw[p,wsW];show D.tup [D.int _,D.ob _]=D.tup [D.int _,D.ob _];congr 3
open Classical in
theorem min48{pt:Pt}(M:Nat->Prop):(wdN (1+pt.fms.length):Int)+zm3 ((fsz pt (zdi pt none):Int)::((yao 0 pt.fms.length).filter fun i=>decide (M i)).map fun j:Nat=>(fsz pt (zdi pt (aa j)):Int))=(lsz pt (zgI pt M pt.fms.length):Nat):=by
 obtain⟨a,g,f⟩:=zr3 (pt:=pt) M pt.fms.length;generalize H:((fsz pt (zdi pt none):Int)::((yao 0 pt.fms.length).filter fun i=>decide (M i)).map fun j:Nat=>(fsz pt (zdi pt (aa j)):Int))=L;have hm:zm3 L∈L:=zqS (by rw[<- H];simp);have a1:(lsz pt (zgI pt M pt.fms.length):Int)<=wdN (1+pt.fms.length)+zm3 L:=by
  rw[<- H]at hm;rcases yA.mp hm with e|e
  ·rw[H]at e;rw[e];have:=zkD pt none;omega
  ·obtain⟨j,d,e⟩:=yT.mp e;rw[H]at e;rw[<- e];have h:=ybH.mp d;have c:M j:=of_decide_eq_true h.2;have b:j<pt.fms.length:=by have:=(yeb.mp h.1).2;omega
   have:=f j b c;have:=zkD pt (aa j);omega
 have a2:zm3 L<=(fsz pt (zdi pt (zgI pt M pt.fms.length)):Int):=by
  refine zoy ?_;rw[<- H];rcases a with a|⟨i,hi,c,a⟩
  ·rw[a];exact yaN ..
  ·rw[a];refine yY _ (yT.mpr ⟨i,ybH.mpr ⟨yeb.mpr ⟨by omega,by omega⟩,decide_eq_true c⟩,rfl⟩)
 have:=zkD pt (zgI pt M pt.fms.length);omega
theorem zp9{pt:Pt}{all:List (List Int)}(a n:Nat):szL pt all a (n+1)=szL pt all a n++[.int (sz48 pt (all.take (a+n)) (all.getD (a+n) []):Nat)]:=by
 unfold szL;rw[yc1,yaj];rfl
theorem zrh{pt:Pt}{f:Fm}(h:pt.fms[j]?=aa f):zdi pt (aa j)=f:=by
 show pt.fms.getD j _=f;rw[y9,h];rfl
open Classical in
theorem some48{pt:Pt}{s k:Nat}(H:PtOk pt)(hr:m[r]?=aa (.lst (hds.map zbS)))(hs:m[s]?=aa (.lst (pt.fms.map fun f=>D.int (fsz pt f:Nat))))(c:∀x∈hds,HdOk pt.fs x)(hl:hds.length<=100)(a:k<hds.length) : zbM 1 (zhv zij (zac (eFn zdb (zac (zag 3) zak)) zak)) (gN 7) (tV (eFn zc7 (zac (zag 0) (zac (zag 1) (zac (zag 5) (zac (zag 7) zak)))))) (eOp ixD (zag 3) (zag 7)) [aa pt.e,aa (.ob r),x2,aa (.ob s),x4,aa (.int (k:Nat)),x6] m = .ok ((((yao 0 pt.fms.length).filter fun i=>decide (zdh pt (hds.take k) none none 0 (hds.getD k []) i)).map fun j:Nat=>(fsz pt (zdi pt (aa j)):Int)).map D.int) m:=by
 have e:=H.fml;have E:zhv zij (zac (eFn zdb (zac (zag 3) zak)) zak) [aa pt.e,aa (.ob r),x2,aa (.ob s),x4,aa (.int (k:Nat)),x6] m = .ok (zbu 0 pt.fms.length) m:=by
  show Res.bind (Res.bind (zdb [.ob s] m) _) zij=_;rw[zi8 hs,yd];show zij [.int (pt.fms.length:Nat)] m=_;rw[zdU (by omega) (by omega)];simp
 have R:Run (zbM 1 (zhv zij (zac (eFn zdb (zac (zag 3) zak)) zak)) (gN 7) (tV (eFn zc7 (zac (zag 0) (zac (zag 1) (zac (zag 5) (zac (zag 7) zak)))))) (eOp ixD (zag 3) (zag 7)) [aa pt.e,aa (.ob r),x2,aa (.ob s),x4,aa (.int (k:Nat)),x6] m)
   fun xs m'=>xs=(((yao 0 pt.fms.length).filter fun i=>decide (zdh pt (hds.take k) none none 0 (hds.getD k []) i)).map fun j:Nat=>D.int (fsz pt (zdi pt (aa j)):Nat))/\m'=m:=by
  unfold zbM;rw[E,bind_ok,if_pos (by rw[zaO];omega)];refine Run.mono (zjC (fun m'=>m'=m) (zdh pt (hds.take k) none none 0 (hds.getD k [])) (fun j:Nat=>D.int (fsz pt (zdi pt (aa j)):Nat)) (zbu 0 pt.fms.length) 0 rfl ?_) ?_
  ·rintro i d m' hd rfl;have hi:i<pt.fms.length:=by have:=(yc.mp hd).1;rw[zaO]at this;exact this
   have:=zkU hd;subst this;rw[yh];have h:=yf hi;refine⟨[aa pt.e,aa (.ob r),x2,aa (.ob s),x4,aa (.int (k:Nat)),x6,aa (.int (i:Nat))],rfl,?_⟩;ac_nf;refine Run.bind (zq8 H hr c a hl h) ?_;rintro _ m2 ⟨b,rfl,g,rfl⟩;ac_nf;refine Run.ok ⟨rfl,g,?_⟩;rw[zrh h];exact zoS hs (by rw[yI,h];rfl)
  ·rintro xs m' ⟨rfl,rfl⟩;rw[zaO];exact⟨rfl,rfl⟩
 rw[zav R,yV];rfl
open Classical in
theorem zpl{pt:Pt}(t:PtOk pt)(hr:m[r]?=aa (.lst (hds.map zbS)))(z:∀x∈hds,HdOk pt.fs x)(hl:hds.length<=100) : Run (zdE [pt.e,.ob r] m) fun a m'=>a = .tup (szL pt hds 0 hds.length)/\EX m m':=by
 unfold zdE zhk;ac_nf;refine Run.bind (znr t) ?_;rintro _ m1 ⟨s,rfl,hs,w,e⟩;erw [zgc];ac_nf;have hr1:=e.at hr;have b:(m1++[MO.lst []])[s]?=aa (.lst (pt.fms.map fun f=>D.int (fsz pt f:Nat))):=(EX.app (m:=m1)).at hs;have hr2:(m1++[MO.lst []])[r]?=aa (.lst (hds.map zbS)):=(EX.app (m:=m1)).at hr1;have p:(m1++[MO.lst []])[m1.length]?=aa (.lst []):=by simp
 have E:EX m (m1++[MO.lst []]):=e.trans EX.app;have H:s≠m1.length:=yB (yc.mp hs).1;have c:r≠m1.length:=yB (yc.mp hr1).1;have o:m.length<=m1.length:=e.1;generalize m1.length=q at p H c o ⊢;generalize m1++[MO.lst []]=mA at b hr2 p E ⊢;rw[zi8 hr2,yd];erw [zdU (by omega) (by omega)];ac_nf;have u:=t.fml;refine Run.bind (zaN (fun k ρ m'=>∃n X:Option D,ρ = [aa pt.e,aa (.ob r),aa (.int (fsz pt (fmW pt):Nat)),aa (.ob s),aa (.ob q),n,X]/\m'[q]?=aa (.lst (szL pt hds 0 k))/\m'[s]?=aa (.lst (pt.fms.map fun f=>D.int (fsz pt f:Nat)))/\m'[r]?=aa (.lst (hds.map zbS))/\EX m m') (zbu 0 ((hds.length:Nat):Int).toNat) 0 ⟨none,none,rfl,p,b,hr2,E⟩ ?_) ?_
 ·rintro i d ρ m' hd ⟨n,X,rfl,g1,l,v,G⟩;have hi:i<hds.length:=by have:=(yc.mp hd).1;rw[zaO]at this;omega
  have:=zkU hd;subst this;rw[yh]at g1 ⊢;erw [some48 t v l z hl hi];erw [if_pos (zdx g1)];erw [zi8 l,yd];erw [show D.int (1+((pt.fms.length:Nat):Int))=D.int ((1+pt.fms.length:Nat):Int) by push_cast;rfl,zrA (by omega)];ac_nf;have h:=min48 (pt:=pt) (zdh pt (hds.take i) none none 0 (hds.getD i []));have g:(((yao 0 pt.fms.length).filter fun I=>decide (zdh pt (hds.take i) none none 0 (hds.getD i []) I)).map fun j:Nat=>(fsz pt (zdi pt (aa j)):Int)).length<=12:=by
   rw[yd];refine yM (List.length_filter_le _ _) ?_;rw[List.length_range'];exact u
  generalize (((yao 0 pt.fms.length).filter fun I=>decide (zdh pt (hds.take i) none none 0 (hds.getD i []) I)).map fun j:Nat=>(fsz pt (zdi pt (aa j)):Int))=L at h g ⊢;rw[ztx (by simp)];erw [add_ll (by rw[yd,ybQ];omega)];erw [show D.int (fsz pt (fmW pt):Nat)::L.map D.int=((fsz pt (zdi pt none):Int)::L).map D.int from rfl,min_l (by simp)];erw [h];rw[zdI g1 (by unfold szL;rw[yd,yap];exact zaQ (by omega))];ac_nf;refine Run.ok ⟨_,rfl,_,_,rfl,?_,?_,?_,?_⟩
  ·rw[zbY g1,zp9,yh];rfl
  ·rw[yan (Ne.symm H)];exact l
  ·rw[yan (Ne.symm c)];exact v
  ·exact⟨by rw[yak];exact G.1,fun j y=>by rw[yan (by omega)];exact G.2 j y⟩
 ·rintro _ m' ⟨ρ,rfl,n,X,rfl,g1,l,v,G⟩;rw[yh,zaO,y8]at g1;erw [show zeS [.ob q] m' = .ok (.tup (szL pt hds 0 hds.length)) m' by simp only[zeS,g1]];ac_nf;exact Run.ok ⟨rfl,G⟩
theorem zml{many:Nat}{fs:List Fd}(hp:PotAt m p q c m)(hc:c+1000<2^40)(hs:ShG fs)(h0:0<fs.length)(hn:fs.length<=12)(n0:0<n)(n1:n<=1000000)(hr:m[r]?=aa (.lst (hds.map zbS)))(rp:r≠p)(rq:r≠q)(hh:∀x∈hds,HdOk fs x)(hd0:0<hds.length)(hl:hds.length<=100)(hm:many<=5) : Run (zdC [.ob p,shD fs n,.ob r,.int many] m) fun a m'=>∃pt:Pt,a=pt.e/\PtOk pt/\pt.fs=fs/\PotAt m p q (c+1000) m':=by
 have lr:=(yc.mp hr).1;unfold zdC zhj;erw [zgc];ac_nf;have V:PotAt m p q c (m++[.lst []]):=hp.app;have hq:(m++[MO.lst []])[m.length]?=aa (.lst []):=by simp
 have sp:m.length≠p:=yR hp.lt.1;have sq:m.length≠q:=yR hp.lt.2;have s0:m.length<=m.length:=yb _;generalize hS:m.length=s at hq sp sq;generalize m++[MO.lst []]=mA at V hq ⊢;rw[zdU (by omega) (by omega)];ac_nf;refine Run.bind (zaN (fun k ρ m'=>∃(L K J X:Option D)(fms:List Fm),ρ = [aa (.ob p),aa (shD fs n),aa (.ob r),aa (.int many),aa (.ob s),L,K,J,X,none,none,none,none]/\m'[s]?=aa (.lst (fms.map Fm.e))/\fms.length=k/\(∀f∈fms,FmOk fs f)/\PotAt m p q (c+110*k) m') (zbu 0 ((many:Nat):Int).toNat) 0 ⟨none,none,none,none,[],rfl,hq,rfl,fun f h=>by simp at h,V⟩ ?_) ?_
 ·rintro i d ρ m1 hd ⟨L,K,J,X,fms,rfl,g1,Z,g3,G⟩;have hi:i<many:=by have:=(yc.mp hd).1;rw[zaO]at this;omega
  rw[yh]at Z G ⊢;have hr1:m1[r]?=aa (.lst (hds.map zbS)):=(G.fr.at' r lr rp rq).trans hr;have hcB:c+110*i+110<2^40:=by omega
  erw [zi8 hr1,yd];ac_nf;have ls:=(yc.mp g1).1;refine Run.bind (pick_run G.re (by omega) (by omega) (by omega)) ?_;rintro _ m2 ⟨N,rfl,u0,u1,E,f2⟩;obtain⟨O,rfl⟩:∃k:Nat,N=k:=⟨N.toNat,by omega⟩;ac_nf;refine Run.bind (pick_run E (by omega) (by decide) (by decide)) ?_;rintro _ m3 ⟨z,rfl,z0,z1,C,f3⟩;ac_nf;obtain⟨v,hv,e⟩:=zbI (m:=m3) (xs:=[.int 3,.int 8,.int 40]) z0 z1;rw[e];have hv':∃k:Int,v = .int k/\0<k/\k<=40:=by
   simp only[yA,yK,or_false]at hv;rcases hv with rfl|rfl|rfl <;> exact⟨_,rfl,by decide,by decide⟩
  obtain⟨k,rfl,k0,k1⟩:=hv';ac_nf;refine Run.bind (pick_run C (by omega) k0 (by omega)) ?_;rintro _ m4 ⟨y,rfl,y0,y1,u,f4⟩;obtain⟨re,hre⟩:∃k:Nat,1+y=k:=⟨(1+y).toNat,by omega⟩;erw [hre];have f14:Fr p q m1 m4:=f2.trans (f3.trans f4);have hr4:m4[r]?=aa (.lst (hds.map zbS)):=(f14.at' r (yc.mp hr1).1 rp rq).trans hr1;have F:O<hds.length:=by omega
  have hd4:=yf F;rw[zoS hr4 (d := .tup ((hds[O]).map D.int)) (by rw[yI,hd4];rfl)];erw [zav (zeH (reach:=re) hr4 F hl (by omega))];ac_nf;have hfo:∀x∈fmL (hds.take O) re,HdOk fs x.2:=zpb fun x hx=>hh x (ybz hx);have hfl:(fmL (hds.take O) re).length<=100:=by simp only[fmL,yd,yap,yaE];omega
  refine Run.bind (zmT u.re (by omega) hs.ok hn (hh _ (yaG F)) hfl hfo) ?_;rintro _ m5 ⟨wys,rfl,hw,B⟩;ac_nf;refine Run.bind (pick_run (u.via B) (by omega) (by decide) (by decide)) ?_;rintro _ m6 ⟨t,rfl,t0,t1,j,f6⟩;ac_nf;have two:∀(I:Sto)(wz:List Wy),WyOk fs wz->PotAt m1 p q (c+110*i+104) I->Run ((zcg (zb2 zcj za9 (zag 4) (zac (eFn zcb (zac (zag 7) (zac (eOp zaP (eC (.int 1)) (eFn zaj (zac (zag 0) (zac (eOp ixD (eFn zc6 (zac (eC (.int 5)) (zac (eC (.int 12)) (zac (eC (.int 40)) zak)))) (eFn zaj (zac (zag 0) (zac (eC (.int 3)) zak)))) zak)))) (zac (zag 8) zak)))) zak))) [aa (.ob p),aa (shD fs n),aa (.ob r),aa (.int many),aa (.ob s),aa d,aa (.int O),aa (.int re),aa (.tup (wz.map Wy.e)),none,none,none,none] I) fun fl m2=>∃ρ2,fl = .nx ρ2/\∃(L K J X:Option D)(fms:List Fm),ρ2=[aa (.ob p),aa (shD fs n),aa (.ob r),aa (.int many),aa (.ob s),L,K,J,X,none,none,none,none]/\m2[s]?=aa (.lst (fms.map Fm.e))/\fms.length=i+1/\(∀f∈fms,FmOk fs f)/\PotAt m p q (c+110*(i+1)) m2:=by
   intro I wz hwz H;have gZ:=H.kept g1 sp sq;erw [if_pos (zdx gZ)];ac_nf;refine Run.bind (pick_run H (by omega) (by decide) (by decide)) ?_;rintro _ m8 ⟨z',rfl,z0',z1',A,f8⟩;ac_nf;obtain⟨v',g,e'⟩:=zbI (m:=m8) (xs:=[.int 5,.int 12,.int 40]) z0' z1';rw[e'];have l:∃k:Int,v' = .int k/\0<k/\k<=40:=by
    simp only[yA,yK,or_false]at g;rcases g with rfl|rfl|rfl <;> exact⟨_,rfl,by decide,by decide⟩
   obtain⟨k',rfl,k0',k1'⟩:=l;ac_nf;refine Run.bind (pick_run A (by omega) k0' (by omega)) ?_;rintro _ m9 ⟨y',rfl,y0',y1',o,f9⟩;ac_nf;have g9:=o.kept g1 sp sq;rw[zdI g9 (by rw[yd];exact zaQ (by omega))];ac_nf;obtain⟨co,hco⟩:∃k:Nat,1+y'=k:=⟨(1+y').toNat,by omega⟩;refine Run.ok ⟨_,rfl,_,_,_,_,fms++[⟨re,co,wz⟩],rfl,?_,?_,?_,?_⟩
   ·rw[zbY g9,yaj,hco];rfl
   ·rw[yD,Z];rfl
   ·intro f hf;rcases y6.mp hf with h|h
    ·exact g3 f h
    ·rw[yS.mp h];exact⟨by show 0<re;omega,by show re<=40;omega,by show 0<co;omega,by show co<=40;omega,hwz⟩
   ·exact((G.via o).set (by omega) sp sq).more (by omega)
  by_cases c5:t=0
  ·rw[if_pos c5];ac_nf;refine Run.bind (zrf j.re (by omega) hs.ok hn) ?_;rintro _ I ⟨fa,fb,wy2,rfl,_,_,_,_,hw2,H⟩;erw [ix_fm];have z:=two I wy2 hw2 ((j.via H).more (by omega))
   revert z
   ac_nf;exact fun z=>z
  ·rw[if_neg c5];have z:=two m6 wys hw (j.more (by omega))
   revert z
   ac_nf;exact fun z=>z
 ·rintro _ m1 ⟨ρ,rfl,L,K,J,X,fms,rfl,g1,Z,g3,G⟩;rw[yh,zaO,y8]at Z G;have hcB:c+110*many+100<2^40:=by omega
  ac_nf;refine Run.bind (pick_run G (by omega) (by decide) (by decide)) ?_;rintro _ m2 ⟨a1,rfl,a10,a11,E,f2⟩;ac_nf;obtain⟨v1,U,e1⟩:=zbI (m:=m2) (xs:=[.int 1,.int 3,.int 40]) a10 a11;rw[e1];obtain⟨k1,rfl,k10,k11⟩:∃k:Int,v1 = .int k/\0<k/\k<=40:=by
   simp only[yA,yK,or_false]at U;rcases U with rfl|rfl|rfl <;> exact⟨_,rfl,by decide,by decide⟩
  ac_nf;refine Run.bind (pick_run E (by omega) k10 (by omega)) ?_;rintro _ m3 ⟨S,rfl,sk0,sk1,C,f3⟩;obtain⟨S,rfl⟩:∃k:Nat,S=k:=⟨S.toNat,by omega⟩;ac_nf;refine Run.bind (pick_run C (by omega) (by decide) (by decide)) ?_;rintro _ m4 ⟨a2,rfl,a20,a21,u,f4⟩;ac_nf;obtain⟨v2,g,e2⟩:=zbI (m:=m4) (xs:=[.int 4,.int 401]) a20 a21;rw[e2];obtain⟨k2,rfl,k20,k21⟩:∃k:Int,v2 = .int k/\0<k/\k<=401:=by
   simp only[yA,yK,or_false]at g;rcases g with rfl|rfl <;> exact⟨_,rfl,by decide,by decide⟩
  ac_nf;refine Run.bind (pick_run u (by omega) k20 (by omega)) ?_;rintro _ m5 ⟨ga,rfl,ga0,ga1,B,f5⟩;ac_nf;obtain⟨Y,W⟩:∃k:Nat,(if (S:Int)+ga<400 then (S:Int)+ga else 400)=k:=⟨(if (S:Int)+ga<400 then (S:Int)+ga else 400).toNat,by split <;> omega⟩;have w:S<=Y/\Y<=400:=by
   have:(S:Int)<=Y/\(Y:Int)<=400:=by rw[<- W];split <;> omega
   omega
  rw[W];refine Run.bind (pick_run B (by omega) (by decide) (by decide)) ?_;rintro _ m6 ⟨b1,rfl,b10,b11,j,f6⟩;ac_nf;refine Run.bind (pick_run j (by omega) (by decide) (by decide)) ?_;rintro _ I ⟨b2,rfl,b20,b21,H,f7⟩;ac_nf;try rw[ztx (by simp)]
  ac_nf;refine Run.bind (pick_run H (by omega) (by decide) (by decide)) ?_;rintro _ m8 ⟨b3,rfl,b30,b31,A,f8⟩;ac_nf;obtain⟨v3,l,e3⟩:=zbI (m:=m8) (xs:=[.int 0,.int 0,.int (1+b1),.int b2]) b30 b31;rw[e3];obtain⟨an,rfl,an1⟩:∃k:Nat,v3 = .int (k:Nat)/\k<=400:=by
   simp only[yA,yK,or_false]at l;rcases l with rfl|rfl|rfl|rfl
   ·exact⟨0,rfl,by decide⟩
   ·exact⟨0,rfl,by decide⟩
   ·exact⟨(1+b1).toNat,by rw[ybF (by omega)],by omega⟩
   ·exact⟨b2.toNat,by rw[ybF (by omega)],by omega⟩
  ac_nf;refine Run.bind (pick_run A (by omega) (by decide) (by decide)) ?_;rintro _ m9 ⟨a4,rfl,a40,a41,o,f9⟩;ac_nf;obtain⟨v4,T,e4⟩:=zbI (m:=m9) (xs:=[.int 1,.int 4,.int 21]) a40 a41;rw[e4];obtain⟨k4,rfl,k40,k41⟩:∃k:Int,v4 = .int k/\0<k/\k<=21:=by
   simp only[yA,yK,or_false]at T;rcases T with rfl|rfl|rfl <;> exact⟨_,rfl,by decide,by decide⟩
  ac_nf;refine Run.bind (pick_run o (by omega) k40 (by omega)) ?_;rintro _ P ⟨Q,rfl,la0,la1,hpa,fa⟩;obtain⟨Q,rfl⟩:∃k:Nat,Q=k:=⟨Q.toNat,by omega⟩;erw [show ∀a b c d:D,zcb [a,b,c,d] P = .ok (.tup [a,b,c,d]) P from fun _ _ _ _=>rfl];ac_nf;refine Run.bind (pick_run hpa (by omega) (by decide) (by decide)) ?_;rintro _ mB ⟨w1,rfl,w10,w11,hpb,fb⟩;ac_nf;try rw[ztx (by simp)]
  ac_nf;refine Run.bind (pick_run hpb (by omega) (by decide) (by decide)) ?_;rintro _ M ⟨w2,rfl,w20,w21,hpc,fc⟩;ac_nf;obtain⟨v5,R,e5⟩:=zbI (m:=M) (xs:=[.int 4,.int 16,.int (1+w1)]) w20 w21;rw[e5];obtain⟨wi,rfl,wi0,wi1⟩:∃k:Nat,v5 = .int (k:Nat)/\0<k/\k<=40:=by
   simp only[yA,yK,or_false]at R;rcases R with rfl|rfl|rfl
   ·exact⟨4,rfl,by decide,by decide⟩
   ·exact⟨16,rfl,by decide,by decide⟩
   ·exact⟨(1+w1).toNat,by rw[ybF (by omega)],by omega,by omega⟩
  ac_nf;have gC:M[s]?=aa (.lst (fms.map Fm.e)):=by
   have fr:Fr p q m1 M:=f2.trans (f3.trans (f4.trans (f5.trans (f6.trans (f7.trans (f8.trans (f9.trans (fa.trans (fb.trans fc)))))))));exact(fr.at' s (yc.mp g1).1 sp sq).trans g1
  rw[show zeS [.ob s] M = .ok (.tup (fms.map Fm.e)) M by simp only[zeS,gC]];erw [show ∀a b c d:D,zcb [a,b,c,d] M = .ok (.tup [a,b,c,d]) M from fun _ _ _ _=>rfl];ac_nf;refine Run.ok ⟨⟨fs,n,wi,fms,⟨S,Y,Q,an⟩⟩,rfl,⟨n0,n1,h0,hn,hs,wi0,wi1,g3,by rw[Z];omega,⟨by show S<=39;omega,w.1,w.2,by show Q<=20;omega,an1⟩⟩,rfl,hpc.more (by omega)⟩
theorem PotAt.ex2(h:PotAt m0 p q c m)(e:EX m m'):PotAt m0 p q c m':=by
 obtain⟨own,l,s,t,f,d,H⟩:=h.ex;exact⟨⟨own,l,s,t,e.at f,e.at d,H⟩,⟨yM h.fr.len e.1,fun j a b c=>(e.2 j (yF a h.fr.len)).trans (h.fr.at' j a b c)⟩⟩
def zrY(pt:Pt)(h:List (List Int)):D:=if (2^pt.wide:Int)<h.length then .str "more" else .tup (szL pt h 0 h.length)
section
variable{pt:Pt}
theorem told48(h:PtOk pt)(hr:m[r]?=aa (.lst (hds.map zbS)))(H:∀x∈hds,HdOk pt.fs x)(hl:hds.length<=100):∃m',zbV [pt.e,.ob r] m = .ok (zrY pt hds) m'/\EX m m':=by
 unfold zrY;by_cases c:(2^pt.wide:Int)<hds.length
 ·rw[if_pos c];obtain⟨m',e,x⟩:=zpx h hr H (by omega) c;exact⟨m',zma e,x⟩
 ·rw[if_neg c];obtain⟨m',e,x⟩:=zlS h hr H (by omega) (by omega);exact⟨m',znj e,x⟩
theorem zsj(pt:Pt)(h:List (List Int))(a n:Nat):szL pt h a n=((yC n).map fun j=>(sz48 pt (h.take (a+j)) (h.getD (a+j) []):Int)).map D.int:=by
 unfold szL;rw[yV];rfl
theorem same48(hl:hds.length<=100):zdO [zrY pt hds,zrY pt hds] m = .ok (.bl ae) m:=by
 unfold zrY;by_cases c:(2^pt.wide:Int)<hds.length
 ·rw[if_pos c];exact zqk
 ·rw[if_neg c,zsj];exact zav (zql (by rw[yd,yap];omega))
theorem zpw{r':Nat}(H:PtOk pt)(hr:m[r']?=aa (.lst [])):∃m',puF zbW [pt.e,.ob r'] m = .ok (.tup []) m'/\EX m m':=by
 obtain⟨m',e,x⟩:=zlS (all:=[]) H hr (fun x h=>by simp at h) (by simp) (by simp;exact ydd (ydb (by decide)));refine⟨m',?_,x⟩;unfold puF;rw[e];rfl
end
theorem zkE(hn:ns.length<=63):Run (zlD [.scr (ns.map D.int)] []) fun a _=>a = .bl ae:=by
 unfold zlD zo5;ac_nf;refine Run.bind (zsT hn) ?_;rintro _ m1 ⟨p,q,rfl,J⟩;ac_nf;have e3:∀m,slD (.scr (ns.map D.int)) none (aa 4) m = .ok (.lst (zlR (ns.map D.int) none (aa 4))) m:=fun m=>rfl;rw[e3];ac_nf;have b:=zpu (ns.map D.int) none (aa 4);rw[yd]at b;generalize (zlR (ns.map D.int) none (aa 4)).length=L at b;rw[zdU (by(clear b hn;omega)) (by omega)];ac_nf;have hL:(3+(L:Int)).toNat<=66:=by omega
 generalize (3+(L:Int)).toNat=N at hL;refine Run.bind (zaN (fun k ρ m'=>∃(v u t s o x:Option D),ρ = [aa (.scr (ns.map D.int)),aa (.ob p),v,u,t,s,o,x]/\PotAt m1 p q (3000*k) m') (zbu 0 N) 0 ⟨_,_,_,_,_,_,rfl,J⟩ ?_) ?_
 ·rintro i d ρ m' hd ⟨v,u,t,s,o,x,rfl,P⟩;have hi:i<N:=by
   have:=(yc.mp hd).1;rw[zaO]at this;exact this
  rw[yh]at P ⊢;ac_nf;refine Run.bind (zme P (by(clear b hn;omega))) ?_;rintro _ m2 ⟨fs,n,rfl,n0,n1,Q,S,B,I⟩;have hs:=B.g S;have f0:0<fs.length:=yb6.mpr Q;have T:(D.tup [.tup (fs.map Fd.e),.int n])=shD fs n:=rfl;rw[T];ac_nf;refine Run.bind (pick_run I (by omega) (by decide) (by decide)) ?_;rintro _ m3 ⟨w,rfl,w0,w1,G,f3⟩;obtain⟨k,Y⟩:∃k:Nat,1+w=k:=⟨(1+w).toNat,by omega⟩;erw [Y];refine Run.bind (zsr (k:=k) G (by omega) hs.ok S (by omega) (by omega)) ?_;rintro _ m4 ⟨r,h,rfl,hr4,V,K,y,R,F⟩;ac_nf;refine Run.bind (pick_run F (by omega) (by decide) (by decide)) ?_;rintro _ W ⟨M,rfl,y0,y1,g,f5⟩;obtain⟨many,rfl⟩:∃k:Nat,M=k:=⟨M.toNat,by omega⟩;ac_nf;have hr5:W[r]?=aa (.lst (h.map zbS)):=(f5.at' r (yc.mp hr4).1 y R).trans hr4;refine Run.bind (zml g.re (by omega) hs f0 S n0 n1 hr5 y R K (by omega) (by omega) (by omega)) ?_;rintro _ m6 ⟨pt,rfl,H,O,f⟩;subst O;have hr6:=f.kept hr5 y R;ac_nf;refine Run.bind (zpl H hr6 K (by omega)) ?_;rintro _ c ⟨rfl,l⟩;have hr7:=l.at hr6;have C:PotAt m1 p q (3000*i+3000) c:=((g.via f).ex2 l).more (by omega);erw [zi8 hr7,yd];erw [zls];erw [zcH (by have:=H.w1;omega)];ac_nf;rw[show (if (2:Int)^pt.wide<(h.length:Nat) then Res.ok (Fl.nx [aa (D.scr (ns.map D.int)),aa (.ob p),aa d,aa (shD pt.fs n),aa (.ob r),aa pt.e,aa (.str "more"),x]) c else Res.ok (Fl.nx [aa (D.scr (ns.map D.int)),aa (.ob p),aa d,aa (shD pt.fs n),aa (.ob r),aa pt.e,aa (.tup (szL pt h 0 h.length)),x]) c)=Res.ok (Fl.nx [aa (D.scr (ns.map D.int)),aa (.ob p),aa d,aa (shD pt.fs n),aa (.ob r),aa pt.e,aa (zrY pt h),x]) c by unfold zrY;split <;> rfl];erw [zdU (by decide) (by decide)];ac_nf;refine Run.bind (zaN (fun _ ρ m'=>∃x:Option D,ρ = [aa (D.scr (ns.map D.int)),aa (.ob p),aa d,aa (shD pt.fs n),aa (.ob r),aa pt.e,aa (zrY pt h),x]/\EX c m') (zbu 0 (2:Int).toNat) 0 ⟨_,rfl,EX.refl⟩ ?_) ?_
  ·rintro j d2 ρ A Z ⟨X,rfl,e⟩;obtain⟨z,U,E⟩:=told48 H (e.at hr7) K (by omega);erw [U];erw [same48 (by omega)];ac_nf;exact Run.ok ⟨_,rfl,_,rfl,e.trans E⟩
  ·rintro _ A ⟨ρ,rfl,X,rfl,e⟩;erw [zgc];ac_nf;obtain⟨z,U,E⟩:=zpw (m:=A++[MO.lst []]) (r':=A.length) H (by simp);rw[U];erw [show neD (.tup []) (.tup []) z = .ok (.bl ai) z from ne_tup [] []];ac_nf;exact Run.ok ⟨_,rfl,_,_,_,_,_,_,rfl,(C.ex2 ((e.trans EX.app).trans E)).more (by omega)⟩
 ·rintro _ m' ⟨ρ,rfl,v,u,t,s,o,x,rfl,P⟩;ac_nf;exact Run.ok rfl
end MD
namespace K48
open PySem PyProof.Rows L2 MD
structure Txt(mg:af->Option ag):Prop where
 ValueError:mg "ValueError" = none
 all:mg "all" = none
 sum:mg "sum" = none
 enumerate:mg "enumerate" = none
 len:mg "len" = none
 tuple:mg "tuple" = none
 int:mg "int" = none
 range:mg "range" = none
 zip:mg "zip" = none
 isi:mg "isinstance" = none
 str:mg "str" = none
 min:mg "min" = none
 any:mg "any" = none
 max:mg "max" = none
 bool:mg "bool" = none
 reversed:mg "reversed" = none
structure TxC(K:ya)(cl:af->ac):Prop where
 cPresser:Cls K (cl "Presser")
 nPresser_base:NoAttr K (cl "Presser") "base"
 nPresser_fresh:NoAttr K (cl "Presser") "fresh"
 nPresser_had:NoAttr K (cl "Presser") "had"
 nPresser_pact:NoAttr K (cl "Presser") "pact"
 nPresser_pressed:NoAttr K (cl "Presser") "pressed"
set_option maxHeartbeats 16000000
section
variable(P:ar)(w:al){K:ya}{mg:af->Option ag}(base:au){cl:af->ac}{f:ac}{fd:aJ}
theorem zqi:FnScope ["number", "width"] ["number", "width"] (zai zka):=sco
theorem zoq(F:Fun K "bits_of" "bits_of" zka f fd)(b:Binds K fd ["number", "width"] [])(m:mg "bits_of" = aa (.ref f))(T:Txt mg)(TC:TxC K cl)(TX:TxE K cl ["HeadError", "NoHead", "NoLetter", "NoWord", "NoMore", "NoDeed", "NoPlace", "Beyond", "NoStream", "NoLine", "NoText"] ["NoMore", "NoHead"]):FnX P w K mg base cl "bits_of" 1 2 zcp :=
 by walk_at "#]|8,wgy&y'y(y)y*y+dtwv*tlv=s{v>sT|9S|:w]sLs|9s/wktlv=v>t:w.y,y-Sy.y/#sM|;|<sM|=|>T+!;"
theorem scNumberOf:FnScope ["bits", "number", "sign"] ["bits"] (zai zfU):=sco
theorem zkk(F:Fun K "number_of" "number_of" zfU f fd)(b:Binds K fd ["bits"] [])(m:mg "number_of" = aa (.ref f))(T:Txt mg)(TC:TxC K cl)(TX:TxE K cl ["HeadError", "NoHead", "NoLetter", "NoWord", "NoMore", "NoDeed", "NoPlace", "Beyond", "NoStream", "NoLine", "NoText"] ["NoMore", "NoHead"]):FnX P w K mg base cl "number_of" 1 1 zdz :=
 by walk_at "#]|?ugx!u(sstgTsR9x!&iFx!s6Y4!xBsGt;4"
theorem scNumbersOf:FnScope ["bits", "widths", "numbers", "begin", "width"] ["bits", "widths"] (zai zeV):=sco
theorem ziS(F:Fun K "numbers_of" "numbers_of" zeV f fd)(b:Binds K fd ["bits", "widths"] [])(m:mg "numbers_of" = aa (.ref f))(T:Txt mg)(TC:TxC K cl)(TX:TxE K cl ["HeadError", "NoHead", "NoLetter", "NoWord", "NoMore", "NoDeed", "NoPlace", "Beyond", "NoStream", "NoLine", "NoText"] ["NoMore", "NoHead"])(hNumberOf:FnX P w K mg base cl "number_of" 1 1 zdz):FnX P w K mg base cl "numbers_of" 2 2 zcO :=
 by walk_at "#y0F|Ajw>w_'t<w>u(sstg4sR-w>&s^yt+s}|BRtmTv+Av+KAH;i1w>s6AH,+"
theorem scWidthFor:FnScope ["many", "width", "room"] ["many"] (zai zfT):=sco
theorem zkj(F:Fun K "width_for" "width_for" zfT f fd)(b:Binds K fd ["many"] [])(m:mg "width_for" = aa (.ref f))(T:Txt mg)(TC:TxC K cl)(TX:TxE K cl ["HeadError", "NoHead", "NoLetter", "NoWord", "NoMore", "NoDeed", "NoPlace", "Beyond", "NoStream", "NoLine", "NoText"] ["NoMore", "NoHead"]):FnX P w K mg base cl "width_for" 1 1 zck :=
 by walk_at "#]|Cugw?u(jw?u(s^|Dv!xnxIsDuh+Ts2jw?&Y+!iFw?s64vs4"
theorem znz:FnScope ["thing"] ["thing"] (zai zhU):=sco
theorem zmB(F:Fun K "is_whole" "is_whole" zhU f fd)(b:Binds K fd ["thing"] [])(m:mg "is_whole" = aa (.ref f))(T:Txt mg)(TC:TxC K cl)(TX:TxE K cl ["HeadError", "NoHead", "NoLetter", "NoWord", "NoMore", "NoDeed", "NoPlace", "Beyond", "NoStream", "NoLine", "NoText"] ["NoMore", "NoHead"]):FnX P w K mg base cl "is_whole" 1 1 zeF :=
 by walk_at "#]|E,uHx#v!xgu>uiywTuI|Fx#v!xhu>uiS|G|HT"
theorem zjW:FnScope ["thing", "least", "most"] ["thing", "least", "most"] (zai ze0):=sco
theorem ziX(F:Fun K "is_between" "is_between" ze0 f fd)(b:Binds K fd ["thing", "least", "most"] [])(m:mg "is_between" = aa (.ref f))(T:Txt mg)(TC:TxC K cl)(TX:TxE K cl ["HeadError", "NoHead", "NoLetter", "NoWord", "NoMore", "NoDeed", "NoPlace", "Beyond", "NoStream", "NoLine", "NoText"] ["NoMore", "NoHead"])(hIsWhole:FnX P w K mg base cl "is_whole" 1 1 zeF):FnX P w K mg base cl "is_between" 2 3 zcV :=
 by walk_at "#s[|I,uH6|JujuIy1u)u)4T+"
theorem znA:FnScope ["thing", "breadth"] ["thing", "breadth"] (zai zhV):=sco
theorem zmC(F:Fun K "is_value" "is_value" zhV f fd)(b:Binds K fd ["thing", "breadth"] [])(m:mg "is_value" = aa (.ref f))(T:Txt mg)(TC:TxC K cl)(TX:TxE K cl ["HeadError", "NoHead", "NoLetter", "NoWord", "NoMore", "NoDeed", "NoPlace", "Beyond", "NoStream", "NoLine", "NoText"] ["NoMore", "NoHead"])(hIsBetween:FnX P w K mg base cl "is_between" 2 3 zcV):FnX P w K mg base cl "is_value" 3 2 zdP :=
 by walk_at "#s~|Kt=|Ls)s(t!s?4s-"
theorem zsq:FnScope ["thing", "least", "most"] ["thing", "least", "most"] (zai znC):=sco
theorem zqL(F:Fun K "is_row" "is_row" znC f fd)(b:Binds K fd ["thing", "least", "most"] [])(m:mg "is_row" = aa (.ref f))(T:Txt mg)(TC:TxC K cl)(TX:TxE K cl ["HeadError", "NoHead", "NoLetter", "NoWord", "NoMore", "NoDeed", "NoPlace", "Beyond", "NoStream", "NoLine", "NoText"] ["NoMore", "NoHead"]):FnX P w K mg base cl "is_row" 1 3 zjr :=
 by walk_at "#]|M,uHx#v!xju>uiyuTuIy1u)u)4shvt'+"
theorem zqf:FnScope ["number", "width"] ["number", "width"] (zai zj0):=sco
theorem zoh(F:Fun K "rest_of" "rest_of" zj0 f fd)(b:Binds K fd ["number", "width"] [])(m:mg "rest_of" = aa (.ref f))(T:Txt mg)(TC:TxC K cl)(TX:TxE K cl ["HeadError", "NoHead", "NoLetter", "NoWord", "NoMore", "NoDeed", "NoPlace", "Beyond", "NoStream", "NoLine", "NoText"] ["NoMore", "NoHead"]):FnX P w K mg base cl "rest_of" 1 2 zbB :=
 by walk_at "#]|N,s+Ts?4"
theorem zmg:FnScope ["least", "rest", "width"] ["least", "rest", "width"] (zai zfS):=sco
theorem zki(F:Fun K "windowed" "windowed" zfS f fd)(b:Binds K fd ["least", "rest", "width"] [])(m:mg "windowed" = aa (.ref f))(T:Txt mg)(TC:TxC K cl)(TX:TxE K cl ["HeadError", "NoHead", "NoLetter", "NoWord", "NoMore", "NoDeed", "NoPlace", "Beyond", "NoStream", "NoLine", "NoText"] ["NoMore", "NoHead"])(hRestOf:FnX P w K mg base cl "rest_of" 1 2 zbB):FnX P w K mg base cl "windowed" 2 3 zdy :=
 by walk_at "#s[|O,KT6uJRs*4Tu*"
theorem zqj:FnScope ["w", "base", "below", "rest", "width"] ["w", "base", "below", "rest", "width"] (zai zkb):=sco
theorem zor(F:Fun K "around" "around" zkb f fd)(b:Binds K fd ["w", "base", "below", "rest", "width"] [])(m:mg "around" = aa (.ref f))(T:Txt mg)(TC:TxC K cl)(TX:TxE K cl ["HeadError", "NoHead", "NoLetter", "NoWord", "NoMore", "NoDeed", "NoPlace", "Beyond", "NoStream", "NoLine", "NoText"] ["NoMore", "NoHead"])(hRestOf:FnX P w K mg base cl "rest_of" 1 2 zbB)(hWindowed:FnX P w K mg base cl "windowed" 2 3 zdy):FnX P w K mg base cl "around" 3 5 zgz :=
 by walk_at "#s~|Pt=uJR6|QRs*4+s3t>vt'"
theorem zmi:FnScope ["shape"] ["shape"] (zai zf1):=sco
theorem zkr(F:Fun K "breadths" "breadths" zf1 f fd)(b:Binds K fd ["shape"] [])(m:mg "breadths" = aa (.ref f))(T:Txt mg)(TC:TxC K cl)(TX:TxE K cl ["HeadError", "NoHead", "NoLetter", "NoWord", "NoMore", "NoDeed", "NoPlace", "Beyond", "NoStream", "NoLine", "NoText"] ["NoMore", "NoHead"]):FnX P w K mg base cl "breadths" 1 1 zco :=
 by walk_at "#]|R,x<xLt*s{y2vurs|Fs/v*t*y2t:sA"
theorem scIsHead:FnScope ["shape", "thing", "asked"] ["shape", "thing"] (zai zj7):=sco
theorem zoo(F:Fun K "is_head" "is_head" zj7 f fd)(b:Binds K fd ["shape", "thing"] [])(m:mg "is_head" = aa (.ref f))(T:Txt mg)(TC:TxC K cl)(TX:TxE K cl ["HeadError", "NoHead", "NoLetter", "NoWord", "NoMore", "NoDeed", "NoPlace", "Beyond", "NoStream", "NoLine", "NoText"] ["NoMore", "NoHead"])(hBreadths:FnX P w K mg base cl "breadths" 1 1 zco)(hIsRow:FnX P w K mg base cl "is_row" 1 3 zjr)(hIsValue:FnX P w K mg base cl "is_value" 3 2 zdP):FnX P w K mg base cl "is_head" 4 2 zfb :=
 by walk_at "#u+|Sj|Ts$y3ujtsx$uK6|Uvvvwu*vwsGu,x%s%s.y45y5Sy6y7ukt*x&x'ult,uLsTwAvx4+umu-unx&x't,uLuos/unx&x't,uLup6|Vsq1se;"
theorem scExpected:FnScope ["shape", "place", "former", "ahead", "more", "breadth", "kind", "value", "gone"] ["shape", "place", "former", "ahead", "more"] (zai zf0):=sco
theorem zkq(F:Fun K "expected" "expected" zf0 f fd)(b:Binds K fd ["shape", "place", "former", "ahead", "more"] [])(m:mg "expected" = aa (.ref f))(T:Txt mg)(TC:TxC K cl)(TX:TxE K cl ["HeadError", "NoHead", "NoLetter", "NoWord", "NoMore", "NoDeed", "NoPlace", "Beyond", "NoStream", "NoLine", "NoText"] ["NoMore", "NoHead"])(hRestOf:FnX P w K mg base cl "rest_of" 1 2 zbB)(hTurned:FnX P w K mg base cl "turned" 1 3 zgo):FnX P w K mg base cl "expected" 2 5 zdF :=
 by walk_at "#s[|Wt#tmu.4vyv?sI7wBuqwBt$CwB&vz4t2t?s7t=uJRKtAYt?Huru/t?s7t=|XRt?smt>u/t?s7D.wBu0s81t?vzt?t=uJRKtAYt?kurs%tA"
theorem zqd:FnScope ["row", "value", "more"] ["row", "value", "more"] (zai zjY):=sco
theorem zof(F:Fun K "turned" "turned" zjY f fd)(b:Binds K fd ["row", "value", "more"] [])(m:mg "turned" = aa (.ref f))(T:Txt mg)(TC:TxC K cl)(TX:TxE K cl ["HeadError", "NoHead", "NoLetter", "NoWord", "NoMore", "NoDeed", "NoPlace", "Beyond", "NoStream", "NoLine", "NoText"] ["NoMore", "NoHead"]):FnX P w K mg base cl "turned" 1 3 zgo :=
 by walk_at "#]|Ysd|ZtF|[4T5,4s%uSusy8TsL+shvt'"
theorem znB:FnScope ["shape", "number", "head"] ["shape", "number", "head"] (zai zhW):=sco
theorem zmD(F:Fun K "check_of" "check_of" zhW f fd)(b:Binds K fd ["shape", "number", "head"] [])(m:mg "check_of" = aa (.ref f))(T:Txt mg)(TC:TxC K cl)(TX:TxE K cl ["HeadError", "NoHead", "NoLetter", "NoWord", "NoMore", "NoDeed", "NoPlace", "Beyond", "NoStream", "NoLine", "NoText"] ["NoMore", "NoHead"]):FnX P w K mg base cl "check_of" 1 3 zdQ :=
 by walk_at "#]|],us4s.wC5wDSwEwFukt*tluMulv>t,sTu1+umu-untluMv>t,uos/untluMv>t,upYKA!H'r"
theorem znv:FnScope ["way", "breadth"] ["way", "breadth"] (zai zhJ):=sco
theorem zmp(F:Fun K "width_of" "width_of" zhJ f fd)(b:Binds K fd ["way", "breadth"] [])(m:mg "width_of" = aa (.ref f))(T:Txt mg)(TC:TxC K cl)(TX:TxE K cl ["HeadError", "NoHead", "NoLetter", "NoWord", "NoMore", "NoDeed", "NoPlace", "Beyond", "NoStream", "NoLine", "NoText"] ["NoMore", "NoHead"]):FnX P w K mg base cl "width_of" 1 2 zb7 :=
 by walk_at "#]|^t2rs7,!u/rs7,rs%4"
theorem zqc:FnScope ["shape", "form"] ["shape", "form"] (zai zjX):=sco
theorem zoe(F:Fun K "widths" "widths" zjX f fd)(b:Binds K fd ["shape", "form"] [])(m:mg "widths" = aa (.ref f))(T:Txt mg)(TC:TxC K cl)(TX:TxE K cl ["HeadError", "NoHead", "NoLetter", "NoWord", "NoMore", "NoDeed", "NoPlace", "Beyond", "NoStream", "NoLine", "NoText"] ["NoMore", "NoHead"])(hBreadths:FnX P w K mg base cl "breadths" 1 1 zco)(hWidthOf:FnX P w K mg base cl "width_of" 1 2 zb7):FnX P w K mg base cl "widths" 2 2 zc4 :=
 by walk_at "#s[|_,x<v*t*uNulx(uLsTwAvxsA6y3ujum9s/tht*uNx(uLsSu-tht*uNx(uLup6|`v{s]"
theorem zqg:FnScope ["shape", "form", "head"] ["shape", "form", "head"] (zai zj1):=sco
theorem zoi(F:Fun K "pieces" "pieces" zj1 f fd)(b:Binds K fd ["shape", "form", "head"] [])(m:mg "pieces" = aa (.ref f))(T:Txt mg)(TC:TxC K cl)(TX:TxE K cl ["HeadError", "NoHead", "NoLetter", "NoWord", "NoMore", "NoDeed", "NoPlace", "Beyond", "NoStream", "NoLine", "NoText"] ["NoMore", "NoHead"])(hBitsOf:FnX P w K mg base cl "bits_of" 1 2 zcp)(hRestOf:FnX P w K mg base cl "rest_of" 1 2 zbB)(hWidths:FnX P w K mg base cl "widths" 2 2 zc4):FnX P w K mg base cl "pieces" 3 3 zc5 :=
 by walk_at "#s~|a,wgy&y'y(y)y*y+dukt*uNuMult,v=sTwAvx+6x)s)sLumu-unuNuMt,v=uos/unuNuMt,v=up6wGR6uJsq1t>se;"
theorem zqe:FnScope ["shape", "form"] ["shape", "form"] (zai zjZ):=sco
theorem zog(F:Fun K "size_of" "size_of" zjZ f fd)(b:Binds K fd ["shape", "form"] [])(m:mg "size_of" = aa (.ref f))(T:Txt mg)(TC:TxC K cl)(TX:TxE K cl ["HeadError", "NoHead", "NoLetter", "NoWord", "NoMore", "NoDeed", "NoPlace", "Beyond", "NoStream", "NoLine", "NoText"] ["NoMore", "NoHead"])(hWidths:FnX P w K mg base cl "widths" 2 2 zc4):FnX P w K mg base cl "size_of" 3 2 zfa :=
 by walk_at "#s~|b,s.wC5wDSwEwFs}x)tb;"
theorem scOpened:FnScope ["shape", "form", "bits", "former", "more", "head", "place", "rest", "base"] ["shape", "form", "bits", "former", "more"] (zai zj2):=sco
theorem zoj(F:Fun K "opened" "opened" zj2 f fd)(b:Binds K fd ["shape", "form", "bits", "former", "more"] [])(m:mg "opened" = aa (.ref f))(T:Txt mg)(TC:TxC K cl)(TX:TxE K cl ["HeadError", "NoHead", "NoLetter", "NoWord", "NoMore", "NoDeed", "NoPlace", "Beyond", "NoStream", "NoLine", "NoText"] ["NoMore", "NoHead"])(hExpected:FnX P w K mg base cl "expected" 2 5 zdF)(hNumbersOf:FnX P w K mg base cl "numbers_of" 2 2 zcO)(hValueTold:FnX P w K mg base cl "value_told" 4 4 zcK)(hWidths:FnX P w K mg base cl "widths" 2 2 zc4):FnX P w K mg base cl "opened" 5 5 zgq :=
 by walk_at "#td-|cutvA&s:vSu16|dv{s}x)tb;sI>vAv|vAt$.vAs$|es)u2s3txt>i7vAs6sntv6|fRs1sAt%#s1u.t%!O.smu,sn"
theorem zjU:FnScope ["way", "breadth", "base", "rest"] ["way", "breadth", "base", "rest"] (zai zeT):=sco
theorem ziQ(F:Fun K "value_told" "value_told" zeT f fd)(b:Binds K fd ["way", "breadth", "base", "rest"] [])(m:mg "value_told" = aa (.ref f))(T:Txt mg)(TC:TxC K cl)(TX:TxE K cl ["HeadError", "NoHead", "NoLetter", "NoWord", "NoMore", "NoDeed", "NoPlace", "Beyond", "NoStream", "NoLine", "NoText"] ["NoMore", "NoHead"])(hAround:FnX P w K mg base cl "around" 3 5 zgz):FnX P w K mg base cl "value_told" 4 4 zcK :=
 by walk_at "#u+|gt2rs7,+u/rs7t=|hvvsG#rs3#r's%A"
theorem zqh:FnScope ["pact", "at"] ["pact", "at"] (zai zj8):=sco
theorem zop(F:Fun K "form_at" "form_at" zj8 f fd)(b:Binds K fd ["pact", "at"] [])(m:mg "form_at" = aa (.ref f))(T:Txt mg)(TC:TxC K cl)(TX:TxE K cl ["HeadError", "NoHead", "NoLetter", "NoWord", "NoMore", "NoDeed", "NoPlace", "Beyond", "NoStream", "NoLine", "NoText"] ["NoMore", "NoHead"]):FnX P w K mg base cl "form_at" 1 2 zei :=
 by walk_at "#]|isdv}4u3,s:s(#r#YtvuV;sh#u.!;s%u.4"
theorem zjV:FnScope ["pact"] ["pact"] (zai zeU):=sco
theorem ziR(F:Fun K "sort_width" "sort_width" zeU f fd)(b:Binds K fd ["pact"] [])(m:mg "sort_width" = aa (.ref f))(T:Txt mg)(TC:TxC K cl)(TX:TxE K cl ["HeadError", "NoHead", "NoLetter", "NoWord", "NoMore", "NoDeed", "NoPlace", "Beyond", "NoStream", "NoLine", "NoText"] ["NoMore", "NoHead"])(hWidthFor:FnX P w K mg base cl "width_for" 1 1 zck):FnX P w K mg base cl "sort_width" 2 1 zbT :=
 by walk_at "#s[|jt=y9Ruush#r;"
theorem ziy:FnScope ["pact"] ["pact"] (zai zd7):=sco
theorem zh3(F:Fun K "check_width" "check_width" zd7 f fd)(b:Binds K fd ["pact"] [])(m:mg "check_width" = aa (.ref f))(T:Txt mg)(TC:TxC K cl)(TX:TxE K cl ["HeadError", "NoHead", "NoLetter", "NoWord", "NoMore", "NoDeed", "NoPlace", "Beyond", "NoStream", "NoLine", "NoText"] ["NoMore", "NoHead"])(hWidthFor:FnX P w K mg base cl "width_for" 1 1 zck):FnX P w K mg base cl "check_width" 2 1 zbk :=
 by walk_at "#s[|kt=y9Ru.s-"
theorem scLetterSize:FnScope ["pact", "at", "form"] ["pact", "at"] (zai zd3):=sco
theorem zhZ(F:Fun K "letter_size" "letter_size" zd3 f fd)(b:Binds K fd ["pact", "at"] [])(m:mg "letter_size" = aa (.ref f))(T:Txt mg)(TC:TxC K cl)(TX:TxE K cl ["HeadError", "NoHead", "NoLetter", "NoWord", "NoMore", "NoDeed", "NoPlace", "Beyond", "NoStream", "NoLine", "NoText"] ["NoMore", "NoHead"])(hCheckWidth:FnX P w K mg base cl "check_width" 2 1 zbk)(hFormAt:FnX P w K mg base cl "form_at" 1 2 zei)(hSizeOf:FnX P w K mg base cl "size_of" 3 2 zfa)(hSortWidth:FnX P w K mg base cl "sort_width" 2 1 zbT):FnX P w K mg base cl "letter_size" 4 2 zbC :=
 by walk_at "#u+|lj|ms$y:s)sL,KKK6y;ujvz!6|nRru*6y<uj"
theorem scLetterBy:FnScope ["pact", "at", "number", "head", "form", "sort", "rest", "check"] ["pact", "at", "number", "head"] (zai zfV):=sco
theorem zkl(F:Fun K "letter_by" "letter_by" zfV f fd)(b:Binds K fd ["pact", "at", "number", "head"] [])(m:mg "letter_by" = aa (.ref f))(T:Txt mg)(TC:TxC K cl)(TX:TxE K cl ["HeadError", "NoHead", "NoLetter", "NoWord", "NoMore", "NoDeed", "NoPlace", "Beyond", "NoStream", "NoLine", "NoText"] ["NoMore", "NoHead"])(hBitsOf:FnX P w K mg base cl "bits_of" 1 2 zcp)(hCheckOf:FnX P w K mg base cl "check_of" 1 3 zdQ)(hCheckWidth:FnX P w K mg base cl "check_width" 2 1 zbk)(hFormAt:FnX P w K mg base cl "form_at" 1 2 zei)(hPieces:FnX P w K mg base cl "pieces" 3 3 zc5)(hRestOf:FnX P w K mg base cl "rest_of" 1 2 zbB)(hSortWidth:FnX P w K mg base cl "sort_width" 2 1 zbT):FnX P w K mg base cl "letter_by" 4 4 zcP :=
 by walk_at "#u+|osBwHs$y:s)sLutwHs$wGRwIsDv}4u3!uu4s}y;s);D>wHs$wGR6uJv{u4-s-u4-s-DCwHs$wGR6|pRrsGs]s}y<s)u,KKKsnt%6y=Rrses]tA"
theorem scDoubt:FnScope ["shape", "form", "head", "formers", "bits", "k", "more", "former", "other"] ["shape", "form", "head", "formers"] (zai znD):=sco
theorem zqM(F:Fun K "doubt" "doubt" znD f fd)(b:Binds K fd ["shape", "form", "head", "formers"] [])(m:mg "doubt" = aa (.ref f))(T:Txt mg)(TC:TxC K cl)(TX:TxE K cl ["HeadError", "NoHead", "NoLetter", "NoWord", "NoMore", "NoDeed", "NoPlace", "Beyond", "NoStream", "NoLine", "NoText"] ["NoMore", "NoHead"])(hFirstOther:FnX P w K mg base cl "first_other" 1 2 zcn)(hOpened:FnX P w K mg base cl "opened" 5 5 zgq)(hPieces:FnX P w K mg base cl "pieces" 3 3 zc5):FnX P w K mg base cl "doubt" 6 4 zjs :=
 by walk_at "#td7|qsBvBs$y=tbsGvSu1AsI7vB&xGsI>vBv|vBsrweD.vBs$|rv{s}|stbsesmu2;tGu~sDy>y?ku3,Ks:urks%u?"
theorem scFirstOther:FnScope ["head", "told", "place", "value"] ["head", "told"] (zai zd6):=sco
theorem zh2(F:Fun K "first_other" "first_other" zd6 f fd)(b:Binds K fd ["head", "told"] [])(m:mg "first_other" = aa (.ref f))(T:Txt mg)(TC:TxC K cl)(TX:TxE K cl ["HeadError", "NoHead", "NoLetter", "NoWord", "NoMore", "NoDeed", "NoPlace", "Beyond", "NoStream", "NoLine", "NoText"] ["NoMore", "NoHead"]):FnX P w K mg base cl "first_other" 1 2 zcn :=
 by walk_at "#]|tssu14sI9yAv~yAsrtGu~sDwJv#wKAuS+s2,s:sGs]s%u?"
theorem scFormerHeads:FnScope ["heads", "reach", "many"] ["heads", "reach"] (zai zdq):=sco
theorem zgR(F:Fun K "former_heads" "former_heads" zdq f fd)(b:Binds K fd ["heads", "reach"] [])(m:mg "former_heads" = aa (.ref f))(T:Txt mg)(TC:TxC K cl)(TX:TxE K cl ["HeadError", "NoHead", "NoLetter", "NoWord", "NoMore", "NoDeed", "NoPlace", "Beyond", "NoStream", "NoLine", "NoText"] ["NoMore", "NoHead"]):FnX P w K mg base cl "former_heads" 1 2 zcy :=
 by walk_at "#]|uj|vu5shvtt;tBukyBwLyCs{w=sTyDw]s(svtCtNu*s-s|u-thyBwLyCw=t:s:s3#uSs*+A;"
theorem zhI:FnScope ["self", "pact"] ["self", "pact"] (zai zdo):=sco
theorem zgP(F:Fun K "__init__" "Presser.__init__" zdo f fd)(b:Binds K fd ["self", "pact"] [])(M:mg "Presser" = aa (.ref (cl "Presser")))(m:Mk K (cl "Presser") f)(T:Txt mg)(t:TxC K cl)(a:TxE K cl ["HeadError", "NoHead", "NoLetter", "NoWord", "NoMore", "NoDeed", "NoPlace", "Beyond", "NoStream", "NoLine", "NoText"] ["NoMore", "NoHead"]):FnC P w K mg base cl "Presser" 1 2 zaU :=
 have h:=FnC.mk' (P:=P) (w:=w) (base:=base) (cl:=cl) (k:=0) F b M m zhI rfl fun cdv A outer s H E hr=>
  (zaf (ziE (zab 0) (zab 1) t.cPresser t.nPresser_pact)
  (zaf (ziE (zab 0) (zbR zad) t.cPresser t.nPresser_pressed)
  (zaf (ziE (zab 0) zb3 t.cPresser t.nPresser_had)
  (zaf (ziE (zab 0) zb3 t.cPresser t.nPresser_base)
  (zah (ziE (zab 0) zae t.cPresser t.nPresser_fresh))))))
 h
theorem scPresserPress:FnScope ["self", "head", "number", "letter"] ["self", "head"] (zai zc1):=sco
theorem zf8(F:Fun K "press" "Presser.press" zc1 f fd)(b:Binds K fd ["self", "head"] [])(m:Meth K (cl "Presser") "press" f)(T:Txt mg)(t:TxC K cl)(g:TxE K cl ["HeadError", "NoHead", "NoLetter", "NoWord", "NoMore", "NoDeed", "NoPlace", "Beyond", "NoStream", "NoLine", "NoText"] ["NoMore", "NoHead"])(c:FnEM P w K mg base cl "Presser" "ask_head" 5 2 zbc)(d:FnM P w K mg base cl "Presser" "sent" 1 1 zaB)(a:FnM P w K mg base cl "Presser" "shortest" 8 2 zaX)(e:FnX P w K mg base cl "letter_by" 4 4 zcP):FnEM P w K mg base cl "Presser" "press" 9 2 zaH :=
 have h:=FnEM.mk' (P:=P) (w:=w) (base:=base) (cl:=cl) (k:=8) F b m scPresserPress rfl fun cdv A outer s H E hr=>
  (zdL (YB.ys (zr9 (zrs rfl c (zab 0) t.cPresser rfl (hr.mono (by decide)) (zaa (zab 1) zad) (aCons_len aNil_len))))
  (zdL (zm9 rfl (zam (i:=2) scPresserPress.nd rfl (y7 rfl) (zd9 d (zab 0) t.cPresser rfl (hr.mono (by decide)))))
  (zdL (ys_if rfl (zaD (za0 hr.units) zbN (zab 2) (zan zb4 zb5 zae (qxi hr (zbE (zab 0) t.cPresser t.nPresser_pact) zae)) (zay _))
  (zfL (YB.ys (zk2 rfl rfl g (.head _) rfl (zaa zaA zad) (aCons_len aNil_len))))
  zm8)
  (zdL (zm9 rfl (zam (i:=3) scPresserPress.nd rfl (y7 rfl) (qfn e hr (zaa (zbE (zab 0) t.cPresser t.nPresser_pact) (zaa (ziI a (zab 0) t.cPresser rfl (hr.mono (by decide)) (zaa (zab 1) zad) (aCons_len aNil_len)) (zaa (zab 2) (zaa (zab 1) zad)))))))
  (zdL (zm9 rfl (zci (zeo PySem.F.plainAttrs_list PySem.F.slot_list_append PySem.F.type_list_append zbf zc9 zbg (zbE (zab 0) t.cPresser t.nPresser_pressed) (zaa (zab 1) zad))))
  (zfL (zm9 rfl (zap (zab 3)))))))))
 h
theorem zhH:FnScope ["self"] ["self"] (zai zdn):=sco
theorem zgO(F:Fun K "sent" "Presser.sent" zdn f fd)(b:Binds K fd ["self"] [])(m:Meth K (cl "Presser") "sent" f)(T:Txt mg)(TC:TxC K cl)(TX:TxE K cl ["HeadError", "NoHead", "NoLetter", "NoWord", "NoMore", "NoDeed", "NoPlace", "Beyond", "NoStream", "NoLine", "NoText"] ["NoMore", "NoHead"]):FnM P w K mg base cl "Presser" "sent" 1 1 zaB :=
 by walk_at "#tnsC|w,sh#tPyE'"
theorem zfv:FnScope ["self", "reach"] ["self", "reach"] (zai zce):=sco
theorem ze4(F:Fun K "formers" "Presser.formers" zce f fd)(b:Binds K fd ["self", "reach"] [])(m:Meth K (cl "Presser") "formers" f)(T:Txt mg)(TC:TxC K cl)(TX:TxE K cl ["HeadError", "NoHead", "NoLetter", "NoWord", "NoMore", "NoDeed", "NoPlace", "Beyond", "NoStream", "NoLine", "NoText"] ["NoMore", "NoHead"])(hFormerHeads:FnX P w K mg base cl "former_heads" 1 2 zcy):FnM P w K mg base cl "Presser" "formers" 2 2 zbh :=
 by walk_at "#tnF|xt=|yRtPyEsL"
theorem zfw:FnScope ["self", "head"] ["self", "head"] (zai zcf):=sco
theorem ze5(F:Fun K "ask_head" "Presser.ask_head" zcf f fd)(b:Binds K fd ["self", "head"] [])(m:Meth K (cl "Presser") "ask_head" f)(T:Txt mg)(t:TxC K cl)(c:TxE K cl ["HeadError", "NoHead", "NoLetter", "NoWord", "NoMore", "NoDeed", "NoPlace", "Beyond", "NoStream", "NoLine", "NoText"] ["NoMore", "NoHead"])(a:FnX P w K mg base cl "is_head" 4 2 zfb):FnEM P w K mg base cl "Presser" "ask_head" 5 2 zbc :=
 have h:=FnEM.mk' (P:=P) (w:=w) (base:=base) (cl:=cl) (k:=4) F b m zfw rfl fun cdv A outer s H E hr=>
  (zfL (ys_if rfl (zg6 (zdr (qfn a hr (zaa (qxi hr (zbE (zab 0) t.cPresser t.nPresser_pact) zae) (zaa (zab 1) zad)))))
  (zfL (YB.ys (zk2 rfl rfl c (.tail _ (.head _)) rfl (zaa zaA zad) (aCons_len aNil_len))))
  zm8))
 h
theorem scPresserHindrance:FnScope ["self", "head", "at", "reach", "count"] ["self", "head", "at"] (zai zbQ):=sco
theorem zec(F:Fun K "hindrance" "Presser.hindrance" zbQ f fd)(b:Binds K fd ["self", "head", "at"] [])(m:Meth K (cl "Presser") "hindrance" f)(T:Txt mg)(TC:TxC K cl)(TX:TxE K cl ["HeadError", "NoHead", "NoLetter", "NoWord", "NoMore", "NoDeed", "NoPlace", "Beyond", "NoStream", "NoLine", "NoText"] ["NoMore", "NoHead"])(hPresserFormers:FnM P w K mg base cl "Presser" "formers" 2 2 zbh)(hPresserIsCounted:FnM P w K mg base cl "Presser" "is_counted" 2 2 za4)(hPresserIsShared:FnM P w K mg base cl "Presser" "is_shared" 2 2 zbb)(hPresserIsToldAnew:FnM P w K mg base cl "Presser" "is_told_anew" 2 1 zaY)(hDoubt:FnX P w K mg base cl "doubt" 6 4 zjs):FnM P w K mg base cl "Presser" "hindrance" 7 3 za5 :=
 by walk_at "#tn>|zt#tms1u6+v?vysI1yFuoyFsrtsuKxR|{uY,dw!x$uKwM||uYs]w#,dw!x$uKwM|}uYt>w#,ds%6|~Ru6#s1u6+tN#wM}!uYs]w#'"
theorem scPresserShortest:FnScope ["self", "head", "best", "at"] ["self", "head"] (zai zbZ):=sco
theorem zer(F:Fun K "shortest" "Presser.shortest" zbZ f fd)(b:Binds K fd ["self", "head"] [])(m:Meth K (cl "Presser") "shortest" f)(T:Txt mg)(TC:TxC K cl)(TX:TxE K cl ["HeadError", "NoHead", "NoLetter", "NoWord", "NoMore", "NoDeed", "NoPlace", "Beyond", "NoStream", "NoLine", "NoText"] ["NoMore", "NoHead"])(hPresserHindrance:FnM P w K mg base cl "Presser" "hindrance" 7 3 za5)(hLetterSize:FnX P w K mg base cl "letter_size" 4 2 zbC):FnM P w K mg base cl "Presser" "shortest" 8 2 zaX :=
 by walk_at "#tnC}#jx*&u?sstcvw#u6;sR1x*&tGu~uvuh6yGRxAs]6yGRxAu*s2uwv}wM}$uYtNs]wlw#u3i9x*&As%+"
theorem scPresserIsToldAnew:FnScope ["self", "anew"] ["self"] (zai zbH):=sco
theorem zdS(F:Fun K "is_told_anew" "Presser.is_told_anew" zbH f fd)(b:Binds K fd ["self"] [])(m:Meth K (cl "Presser") "is_told_anew" f)(T:Txt mg)(TC:TxC K cl)(TX:TxE K cl ["HeadError", "NoHead", "NoLetter", "NoWord", "NoMore", "NoDeed", "NoPlace", "Beyond", "NoStream", "NoLine", "NoText"] ["NoMore", "NoHead"])(hPresserSent:FnM P w K mg base cl "Presser" "sent" 1 1 zaB):FnM P w K mg base cl "Presser" "is_told_anew" 2 1 zaY :=
 by walk_at "#tnF}%ug}&&s1u6vsuHuBwJv#wK4`uIuxs+w$4`"
theorem scPresserIsShared:FnScope ["self", "reach", "shared", "before"] ["self", "reach"] (zai zb0):=sco
theorem zes(F:Fun K "is_shared" "Presser.is_shared" zb0 f fd)(b:Binds K fd ["self", "reach"] [])(m:Meth K (cl "Presser") "is_shared" f)(T:Txt mg)(TC:TxC K cl)(TX:TxE K cl ["HeadError", "NoHead", "NoLetter", "NoWord", "NoMore", "NoDeed", "NoPlace", "Beyond", "NoStream", "NoLine", "NoText"] ["NoMore", "NoHead"])(hPresserSent:FnM P w K mg base cl "Presser" "sent" 1 1 zaB):FnM P w K mg base cl "Presser" "is_shared" 2 2 zbb :=
 by walk_at "#tnF}'jyH&wIsDv}tPyIu3wh'wh#tPyI't<yHu0s*w$!s1u6!sdwNwOAtP}(s2tD+s]s%s.})5}*S}+},#}-x;thyJwLw|yKs{tlsT}.+s|-s/xPyJwLw|yKtlt:uBwNwOHs*w$4s2'"
theorem scPresserIsCounted:FnScope ["self", "count", "gap", "late", "least"] ["self", "count"] (zai zbP):=sco
theorem zeb(F:Fun K "is_counted" "Presser.is_counted" zbP f fd)(b:Binds K fd ["self", "count"] [])(m:Meth K (cl "Presser") "is_counted" f)(T:Txt mg)(TC:TxC K cl)(TX:TxE K cl ["HeadError", "NoHead", "NoLetter", "NoWord", "NoMore", "NoDeed", "NoPlace", "Beyond", "NoStream", "NoLine", "NoText"] ["NoMore", "NoHead"])(hPresserSent:FnM P w K mg base cl "Presser" "sent" 1 1 zaB):FnM P w K mg base cl "Presser" "is_counted" 2 2 za4 :=
 by walk_at "#tnF}/t#tmu6vyvysI9wPv~wPsrsBwP&s.wQ5wRw%s(t!s*w$!+'sdy>y?tPyLu3i-wP&s.wQ5wRw%set!tPyLA's%uBu7s?4s*Kw$AHs2"
theorem scCosts:FnScope ["pact", "heads", "presser"] ["pact", "heads"] (zai znE):=sco
theorem zqN(F:Fun K "costs" "costs" znE f fd)(b:Binds K fd ["pact", "heads"] [])(m:mg "costs" = aa (.ref f))(T:Txt mg)(t:TxC K cl)(d:TxE K cl ["HeadError", "NoHead", "NoLetter", "NoWord", "NoMore", "NoDeed", "NoPlace", "Beyond", "NoStream", "NoLine", "NoText"] ["NoMore", "NoHead"])(c:FnC P w K mg base cl "Presser" 1 2 zaU)(a:FnEM P w K mg base cl "Presser" "press" 9 2 zaH):FnE P w K mg base cl "costs" 10 2 zbW :=
 have h:=FnE.mk' (P:=P) (w:=w) (base:=base) (cl:=cl) (k:=9) F b m scCosts rfl fun cdv A outer s H E hr=>
  (zdL (zm9 rfl (zam (i:=2) scCosts.nd rfl (Or.inr rfl) (zsD c rfl (hr.mono (by decide)) rfl (zaa (zab 0) zad) (aCons_len aNil_len))))
  (zfL (YB.ys (yb_ret (zna rfl (zbv rfl) zdY (by rfl) T.tuple boot_tuple (zpZ rfl rfl rfl rfl (N0:=["pact", "heads", "presser"]) (xs:=["head"]) ⟨(by with_unfolding_all rfl),rfl,rfl,rfl,(by repeat (first | exact trivial | refine⟨rfl,?_⟩)),rfl,.inl rfl⟩ (zrD (zab 1)) (fun _ _ _ _=>(zal (i:=3) (by decide +kernel:(["pact", "heads", "presser", "head"]:List af).Nodup) rfl (y7 rfl))) (fun _ _ _ _=>zbd) (fun _ _ _ _=>(zp0 rfl zaG zbF (by rfl) T.len ybG (zrs rfl a (zab 2) t.cPresser rfl (hr.mono (by decide)) (zaa (zab 3) zad) (aCons_len aNil_len))))))))))
 h
theorem scLawPot:FnScope ["_law_script", "_law_far", "_law_seed", "_law_own", "_law_cell"] ["_law_script"] (zai zj5):=sco
theorem zom(F:Fun K "_law_pot" "_law_pot" zj5 f fd)(b:Binds K fd ["_law_script"] [])(m:mg "_law_pot" = aa (.ref f))(T:Txt mg)(TC:TxC K cl)(TX:TxE K cl ["HeadError", "NoHead", "NoLetter", "NoWord", "NoMore", "NoDeed", "NoPlace", "Beyond", "NoStream", "NoLine", "NoText"] ["NoMore", "NoHead"]):FnX P w K mg base cl "_law_pot" 1 1 zgt :=
 by walk_at "#]}0ugvC&xBsvdYds-jvCu(t<vCuytgtmTv?vysR-vC&jvC&usKY+!s+H!!!tGu~sDwNwOHsMyMyN!`tDA#s+H4's%}1wSAwS!wS+wS!}2}3u>"
theorem scLawPick:FnScope ["_law_pot_here", "_law_many", "_law_digit", "_law_turn", "_law_mixed"] ["_law_pot_here", "_law_many"] (zai zhM):=sco
theorem zmt(F:Fun K "_law_pick" "_law_pick" zhM f fd)(b:Binds K fd ["_law_pot_here", "_law_many"] [])(m:mg "_law_pick" = aa (.ref f))(T:Txt mg)(TC:TxC K cl)(TX:TxE K cl ["HeadError", "NoHead", "NoLetter", "NoWord", "NoMore", "NoDeed", "NoPlace", "Beyond", "NoStream", "NoLine", "NoText"] ["NoMore", "NoHead"]):FnX P w K mg base cl "_law_pick" 1 2 zaj :=
 by walk_at "#]}4tsuvuTtE`uwwJv#wKtEv$'s2tGx+x,tFTdyr}5}6}7xM}8tEw^5sNsdu7tE`jvD&s+tE4s^x+x,tFTdsMx-x.tE45,+sNs^x+x,tFTdKtE!5t<vD&tEsBvDs6KtEYYAA!YA!sBvD&s+YH!!sBvD&s+YHKs+H!!vss+sMx-x.H!4"
theorem scLawKind:FnScope ["_law_pot_here", "_law_place", "_law_breadth", "_law_power", "_law_way_here", "_law_odd", "_law_first", "_law_many"] ["_law_pot_here", "_law_place", "_law_breadth"] (zai zhO):=sco
theorem zmv(F:Fun K "_law_kind" "_law_kind" zhO f fd)(b:Binds K fd ["_law_pot_here", "_law_place", "_law_breadth"] [])(m:mg "_law_kind" = aa (.ref f))(T:Txt mg)(TC:TxC K cl)(TX:TxE K cl ["HeadError", "NoHead", "NoLetter", "NoWord", "NoMore", "NoDeed", "NoPlace", "Beyond", "NoStream", "NoLine", "NoText"] ["NoMore", "NoHead"])(hLawPick:FnX P w K mg base cl "_law_pick" 1 2 zaj):FnX P w K mg base cl "_law_kind" 2 3 zez :=
 by walk_at "#s[}9t<vEu5s?+sBvE&asduhH`,uV#vN#tztCs3s(;#tMs3;sgu/H`utvEu5uuY!aD>vEu5tMs]DCvE&tCs3u8sg,uV#tBtwyOuOyPyQyRvFySyTyUs{yVsTtcsm's|.s/y$uOyPyQyRvFySyTyUyVt:ust%YksnA;w!uvuhH`uwu74`,uV#tMsL#wZt!as-sgs%vNu9'u9;a"
theorem scLawShape:FnScope ["_law_pot_here", "_law_fields", "_law_left", "_law_place", "_law_breadth", "_law_name"] ["_law_pot_here"] (zai zfZ):=sco
theorem zkp(F:Fun K "_law_shape" "_law_shape" zfZ f fd)(b:Binds K fd ["_law_pot_here"] [])(m:mg "_law_shape" = aa (.ref f))(T:Txt mg)(TC:TxC K cl)(TX:TxE K cl ["HeadError", "NoHead", "NoLetter", "NoWord", "NoMore", "NoDeed", "NoPlace", "Beyond", "NoStream", "NoLine", "NoText"] ["NoMore", "NoHead"])(hLawKind:FnX P w K mg base cl "_law_kind" 2 3 zez)(hLawPick:FnX P w K mg base cl "_law_pick" 1 2 zaj):FnX P w K mg base cl "_law_shape" 3 1 zdB :=
 by walk_at "#s~}:uguPw_'juPu(sstcu8w&'sR1uP&sBuPs6!tzwIsDu7+`yyas-juPu0+HutuP&Ys1dAuuatD4#s:txses}};s)s3se;t;tvtBsL#uW#sMyMyN!!u8sgsg"
theorem scLawValue:FnScope ["_law_pot_here", "_law_field", "_law_name", "_law_breadth", "_law_kind_here", "_law_power"] ["_law_pot_here", "_law_field"] (zai zfX):=sco
theorem zkn(F:Fun K "_law_value" "_law_value" zfX f fd)(b:Binds K fd ["_law_pot_here", "_law_field"] [])(m:mg "_law_value" = aa (.ref f))(T:Txt mg)(TC:TxC K cl)(TX:TxE K cl ["HeadError", "NoHead", "NoLetter", "NoWord", "NoMore", "NoDeed", "NoPlace", "Beyond", "NoStream", "NoLine", "NoText"] ["NoMore", "NoHead"])(hLawPick:FnX P w K mg base cl "_law_pick" 1 2 zaj):FnX P w K mg base cl "_law_value" 2 2 zbU :=
 by walk_at "#s[}<t#4w'9wTv~wTuowTt$7wT&s?AtsuvuTs8-!s7uwu7a`,s1s8-!tzshu4-!;s%wZt!sn!#tMur#tztCtxs(;'a"
theorem zny:FnScope ["_law_pot_here", "_law_shape_here"] ["_law_pot_here", "_law_shape_here"] (zai zhP):=sco
theorem zmw(F:Fun K "_law_head" "_law_head" zhP f fd)(b:Binds K fd ["_law_pot_here", "_law_shape_here"] [])(m:mg "_law_head" = aa (.ref f))(T:Txt mg)(TC:TxC K cl)(TX:TxE K cl ["HeadError", "NoHead", "NoLetter", "NoWord", "NoMore", "NoDeed", "NoPlace", "Beyond", "NoStream", "NoLine", "NoText"] ["NoMore", "NoHead"])(hLawValue:FnX P w K mg base cl "_law_value" 2 2 zbU):FnX P w K mg base cl "_law_head" 3 2 zeA :=
 by walk_at "#s~}=,tBtwv*uOv(s{t-vusAs|9s/wkuOv(t-t:6yWs)sG;"
theorem scLawExpected:FnScope ["_law_shape_here", "_law_place", "_law_former", "_law_ahead", "_law_more", "_law_name", "_law_breadth", "_law_kind_here", "_law_value_here", "_law_far"] ["_law_shape_here", "_law_place", "_law_former", "_law_ahead", "_law_more"] (zai zdp):=sco
theorem zgQ(F:Fun K "_law_expected" "_law_expected" zdp f fd)(b:Binds K fd ["_law_shape_here", "_law_place", "_law_former", "_law_ahead", "_law_more"] [])(m:mg "_law_expected" = aa (.ref f))(T:Txt mg)(TC:TxC K cl)(TX:TxE K cl ["HeadError", "NoHead", "NoLetter", "NoWord", "NoMore", "NoDeed", "NoPlace", "Beyond", "NoStream", "NoLine", "NoText"] ["NoMore", "NoHead"]):FnX P w K mg base cl "_law_expected" 1 5 zaM :=
 by walk_at "#]}>t#u.4w'7touqtov|tot$.to&vz4t2sos7i.tos6kYHsow!uvuTsos7uw}?tF}Akso5,s1sousy8soO.'Hsh#yqs-u/sos7Dmtou0s81sovzsoi.tos6kYsot&s%s+ks?t%"
theorem scLawGone:FnScope ["_law_pot_here", "_law_shape_here", "_law_former", "_law_more", "_law_head_here", "_law_place", "_law_field", "_law_value_here", "_law_way_here"] ["_law_pot_here", "_law_shape_here", "_law_former", "_law_more"] (zai zhQ):=sco
theorem zmx(F:Fun K "_law_gone" "_law_gone" zhQ f fd)(b:Binds K fd ["_law_pot_here", "_law_shape_here", "_law_former", "_law_more"] [])(m:mg "_law_gone" = aa (.ref f))(T:Txt mg)(TC:TxC K cl)(TX:TxE K cl ["HeadError", "NoHead", "NoLetter", "NoWord", "NoMore", "NoDeed", "NoPlace", "Beyond", "NoStream", "NoLine", "NoText"] ["NoMore", "NoHead"])(hLawExpected:FnX P w K mg base cl "_law_expected" 1 5 zaM)(hLawPick:FnX P w K mg base cl "_law_pick" 1 2 zaj)(hLawValue:FnX P w K mg base cl "_law_value" 2 2 zbU):FnX P w K mg base cl "_law_gone" 3 4 zeB :=
 by walk_at "#s~}BsBtK&s:vSu1sAsI7tKuqtKt$CtKs$x/vvtxsGses]D.tK&at2k`iCtKu0KtAa!u/k`iCtKs$yWs)u2'sNi-tKs6Htvs+tAs?vPs-,H"
theorem scLawRow:FnScope ["_law_pot_here", "_law_shape_here", "_law_many", "_law_heads", "_law_k"] ["_law_pot_here", "_law_shape_here", "_law_many"] (zai zj4):=sco
theorem zol(F:Fun K "_law_row" "_law_row" zj4 f fd)(b:Binds K fd ["_law_pot_here", "_law_shape_here", "_law_many"] [])(m:mg "_law_row" = aa (.ref f))(T:Txt mg)(TC:TxC K cl)(TX:TxE K cl ["HeadError", "NoHead", "NoLetter", "NoWord", "NoMore", "NoDeed", "NoPlace", "Beyond", "NoStream", "NoLine", "NoText"] ["NoMore", "NoHead"])(hLawGone:FnX P w K mg base cl "_law_gone" 3 4 zeB)(hLawHead:FnX P w K mg base cl "_law_head" 3 2 zeA):FnX P w K mg base cl "_law_row" 4 3 zgs :=
 by walk_at "#u+}Ct<yXw_s}}Dtb;sstct!+s-sR-yX&tDAs}}Etbu41yYyZy[!s(u,A"
theorem scLawWay:FnScope ["_law_pot_here", "_law_breadth", "_law_way_here", "_law_width_here", "_law_most"] ["_law_pot_here", "_law_breadth"] (zai zj3):=sco
theorem zok(F:Fun K "_law_way" "_law_way" zj3 f fd)(b:Binds K fd ["_law_pot_here", "_law_breadth"] [])(m:mg "_law_way" = aa (.ref f))(T:Txt mg)(TC:TxC K cl)(TX:TxE K cl ["HeadError", "NoHead", "NoLetter", "NoWord", "NoMore", "NoDeed", "NoPlace", "Beyond", "NoStream", "NoLine", "NoText"] ["NoMore", "NoHead"])(hLawPick:FnX P w K mg base cl "_law_pick" 1 2 zaj):FnX P w K mg base cl "_law_way" 2 2 zgr :=
 by walk_at "#s[}Fjx0&asduh+`,vNu9'u9;+sNt<x0s6!tMsLsBx0u0s?AvsuVs3#wZse#tMsvHs-#tCse#sg'sg"
theorem scLawForm:FnScope ["_law_pot_here", "_law_shape_here", "_law_ways"] ["_law_pot_here", "_law_shape_here"] (zai zhS):=sco
theorem zmz(F:Fun K "_law_form" "_law_form" zhS f fd)(b:Binds K fd ["_law_pot_here", "_law_shape_here"] [])(m:mg "_law_form" = aa (.ref f))(T:Txt mg)(TC:TxC K cl)(TX:TxE K cl ["HeadError", "NoHead", "NoLetter", "NoWord", "NoMore", "NoDeed", "NoPlace", "Beyond", "NoStream", "NoLine", "NoText"] ["NoMore", "NoHead"])(hLawPick:FnX P w K mg base cl "_law_pick" 1 2 zaj)(hLawWay:FnX P w K mg base cl "_law_way" 2 2 zgr):FnX P w K mg base cl "_law_form" 3 2 zeC :=
 by walk_at "#s~}Gj}H&tBukuOv(wis{t-vusAs|u-thuOv(wit-t:6}Is)u41!u,tvuuau8au*"
theorem scLawBits:FnScope ["_law_number_here", "_law_width_here", "_law_told_here", "_law_k"] ["_law_number_here", "_law_width_here"] (zai zhT):=sco
theorem zmA(F:Fun K "_law_bits" "_law_bits" zhT f fd)(b:Binds K fd ["_law_number_here", "_law_width_here"] [])(m:mg "_law_bits" = aa (.ref f))(T:Txt mg)(TC:TxC K cl)(TX:TxE K cl ["HeadError", "NoHead", "NoLetter", "NoWord", "NoMore", "NoDeed", "NoPlace", "Beyond", "NoStream", "NoLine", "NoText"] ["NoMore", "NoHead"]):FnX P w K mg base cl "_law_bits" 1 2 zeE :=
 by walk_at "#]}JjwU&dsstcsLsR1wU&jwUs6w.y,y-Sy.y/#s+Ts-+isCwU&sMx-x.Tvs+"
theorem zmh:FnScope ["_law_field", "_law_way_here"] ["_law_field", "_law_way_here"] (zai zfW):=sco
theorem zkm(F:Fun K "_law_width" "_law_width" zfW f fd)(b:Binds K fd ["_law_field", "_law_way_here"] [])(m:mg "_law_width" = aa (.ref f))(T:Txt mg)(TC:TxC K cl)(TX:TxE K cl ["HeadError", "NoHead", "NoLetter", "NoWord", "NoMore", "NoDeed", "NoPlace", "Beyond", "NoStream", "NoLine", "NoText"] ["NoMore", "NoHead"]):FnX P w K mg base cl "_law_width" 1 2 zbj :=
 by walk_at "#]}Kt2sAs7,sAs%YruzuxsAs7'"
theorem scLawPieces:FnScope ["_law_shape_here", "_law_form_here", "_law_head_here", "_law_told_here", "_law_field", "_law_way_here", "_law_value_here", "_law_width_here"] ["_law_shape_here", "_law_form_here", "_law_head_here"] (zai zeW):=sco
theorem ziT(F:Fun K "_law_pieces" "_law_pieces" zeW f fd)(b:Binds K fd ["_law_shape_here", "_law_form_here", "_law_head_here"] [])(m:mg "_law_pieces" = aa (.ref f))(T:Txt mg)(TC:TxC K cl)(TX:TxE K cl ["HeadError", "NoHead", "NoLetter", "NoWord", "NoMore", "NoDeed", "NoPlace", "Beyond", "NoStream", "NoLine", "NoText"] ["NoMore", "NoHead"])(hLawBits:FnX P w K mg base cl "_law_bits" 1 2 zeE)(hLawWidth:FnX P w K mg base cl "_law_width" 1 2 zbj):FnX P w K mg base cl "_law_pieces" 2 3 zcR :=
 by walk_at "#s[}Lt<uQ&dss}MvxrsA+w'-uQsS7uQuquQt$CuQs$x1sq-uri1uQs6A6}NRs+t%s?tAsmt;A"
theorem scLawNumber:FnScope ["_law_bits_here", "_law_number_here", "_law_sign"] ["_law_bits_here"] (zai zeY):=sco
theorem ziV(F:Fun K "_law_number" "_law_number" zeY f fd)(b:Binds K fd ["_law_bits_here"] [])(m:mg "_law_number" = aa (.ref f))(T:Txt mg)(TC:TxC K cl)(TX:TxE K cl ["HeadError", "NoHead", "NoLetter", "NoWord", "NoMore", "NoDeed", "NoPlace", "Beyond", "NoStream", "NoLine", "NoText"] ["NoMore", "NoHead"]):FnX P w K mg base cl "_law_number" 1 1 zcT :=
 by walk_at "#]}Ougx2u(sstgTsR9x2&iFx2s6Y!4uzux+s7t;4"
theorem scLawOpened:FnScope ["_law_shape_here", "_law_form_here", "_law_bits_here", "_law_former", "_law_more", "_law_head_here", "_law_place", "_law_field", "_law_way_here", "_law_width_here", "_law_told_here", "_law_least"] ["_law_shape_here", "_law_form_here", "_law_bits_here", "_law_former", "_law_more"] (zai zeX):=sco
theorem ziU(F:Fun K "_law_opened" "_law_opened" zeX f fd)(b:Binds K fd ["_law_shape_here", "_law_form_here", "_law_bits_here", "_law_former", "_law_more"] [])(m:mg "_law_opened" = aa (.ref f))(T:Txt mg)(TC:TxC K cl)(TX:TxE K cl ["HeadError", "NoHead", "NoLetter", "NoWord", "NoMore", "NoDeed", "NoPlace", "Beyond", "NoStream", "NoLine", "NoText"] ["NoMore", "NoHead"])(hLawExpected:FnX P w K mg base cl "_law_expected" 1 5 zaM)(hLawNumber:FnX P w K mg base cl "_law_number" 1 1 zcT)(hLawWidth:FnX P w K mg base cl "_law_width" 1 2 zbj):FnX P w K mg base cl "_law_opened" 2 5 zcS :=
 by walk_at "#s[}Putsb&s:vSu1rsI>sbv|sbt$.sb&s1sAt%Dmsbs$x1sqCO.'D=sbs$}QRtm+v?v+t&'jsb&tm+v+t&v?sdwJv#wKs8.!s7D[sbs$x/s)u2s3txt>t2s8.!s7i[sbu0w(s8.!sNi=sb&usw(s+s*b=w(s?t&s?sosNi7sbs6sns:O=t;sn"
theorem scLawOffsets:FnScope ["_law_shape_here", "_law_head_here", "_law_formers_here", "_law_place", "_law_power", "_law_found", "_law_more", "_law_former", "_law_far"] ["_law_shape_here", "_law_head_here", "_law_formers_here", "_law_place"] (zai zd4):=sco
theorem zh0(F:Fun K "_law_offsets" "_law_offsets" zd4 f fd)(b:Binds K fd ["_law_shape_here", "_law_head_here", "_law_formers_here", "_law_place"] [])(m:mg "_law_offsets" = aa (.ref f))(T:Txt mg)(TC:TxC K cl)(TX:TxE K cl ["HeadError", "NoHead", "NoLetter", "NoWord", "NoMore", "NoDeed", "NoPlace", "Beyond", "NoStream", "NoLine", "NoText"] ["NoMore", "NoHead"])(hLawExpected:FnX P w K mg base cl "_law_expected" 1 5 zaM):FnX P w K mg base cl "_law_offsets" 2 4 zcm :=
 by walk_at "#y0F}RsBvG&s?s1u.A!utvGuytg+sI>vGv|vGt$.vG&s+s*vOA6x/s)s3smtNu2'HtDsnt!kYHuzuBwNwOY!kHs2u,sn"
theorem scLawFitted:FnScope ["_law_pot_here", "_law_shape_here", "_law_head_here", "_law_formers_here", "_law_ways", "_law_place", "_law_field", "_law_offsets_here", "_law_low", "_law_high", "_law_width_here", "_law_below", "_law_some"] ["_law_pot_here", "_law_shape_here", "_law_head_here", "_law_formers_here"] (zai zeZ):=sco
theorem ziW(F:Fun K "_law_fitted" "_law_fitted" zeZ f fd)(b:Binds K fd ["_law_pot_here", "_law_shape_here", "_law_head_here", "_law_formers_here"] [])(m:mg "_law_fitted" = aa (.ref f))(T:Txt mg)(TC:TxC K cl)(TX:TxE K cl ["HeadError", "NoHead", "NoLetter", "NoWord", "NoMore", "NoDeed", "NoPlace", "Beyond", "NoStream", "NoLine", "NoText"] ["NoMore", "NoHead"])(hLawOffsets:FnX P w K mg base cl "_law_offsets" 2 4 zcm)(hLawPick:FnX P w K mg base cl "_law_pick" 1 2 zaj):FnX P w K mg base cl "_law_fitted" 3 4 zcU :=
 by walk_at "#s~}SsBtLuyu1sAsI7tLuqtLt$CtLs6v$w^6}TvvsGs3urs^}Uu;.}Vm5tLtru>tr#s.y]5y^x=sm'#s.}W5}Xw%sm;5D=tL&tC#t?t!s.wQ5wRw%s(#y_s*t&k'uzuHuBu7s*t&k`uIuxa`;D[tL&tCsvyYyZy[kuzuxa`'t!s?b=s-Ds0tL&v$u9O=O['u9'u9;tDHu4s0wIsDuhkt&s2uWs(s(w^ay|,tBt>"
theorem zix:FnScope ["_law_heads", "_law_number_here", "_law_reach"] ["_law_heads", "_law_number_here", "_law_reach"] (zai zd5):=sco
theorem zh1(F:Fun K "_law_formers" "_law_formers" zd5 f fd)(b:Binds K fd ["_law_heads", "_law_number_here", "_law_reach"] [])(m:mg "_law_formers" = aa (.ref f))(T:Txt mg)(TC:TxC K cl)(TX:TxE K cl ["HeadError", "NoHead", "NoLetter", "NoWord", "NoMore", "NoDeed", "NoPlace", "Beyond", "NoStream", "NoLine", "NoText"] ["NoMore", "NoHead"]):FnX P w K mg base cl "_law_formers" 1 3 zbD :=
 by walk_at "#]}Y,tBukw)wjs{vHsTyDw]s(svtCsGsLs-s|u-thw)wjvHt:s:s3#uSs*4A;"
theorem znx:FnScope ["_law_found", "_law_due_here"] ["_law_found", "_law_due_here"] (zai zfG):=sco
theorem zf9(F:Fun K "_law_same" "_law_same" zfG f fd)(b:Binds K fd ["_law_found", "_law_due_here"] [])(m:mg "_law_same" = aa (.ref f))(T:Txt mg)(c:TxC K cl)(t:TxE K cl ["HeadError", "NoHead", "NoLetter", "NoWord", "NoMore", "NoDeed", "NoPlace", "Beyond", "NoStream", "NoLine", "NoText"] ["NoMore", "NoHead"]):∀n,FnX P w K mg base cl "_law_same" (0+n) 2 (zbK n)
 |0=>FnX.none F b m|n+1=>by
  have a:=zf9 F b m T c t  n;have h:=mkx P w base cl (0+n) F b m znx fun cdv A outer s H E hr=>
   (zaf (zaV (zdr (zen (n := "tuple") (by decide) (by rfl) T.isi (by rfl) T.tuple boot_tuple (zab 1)))
   (zaf (zaV (zds (zsy (zg6 (zdr (zen (n := "tuple") (by decide) (by rfl) T.isi (by rfl) T.tuple boot_tuple (zab 0)))) (zrC (zaD (zg7 hr.units) zmE (zau zaG zbF (by rfl) T.len ybG (zaa (zab 0) zad)) (zau zaG zbF (by rfl) T.len ybG (zaa (zab 1) zad)) (zay _)))))
   (zah (zap zke))
   zaz)
   (zah (zap (zau (zgE rfl) zpd (by rfl) T.all boot_all (zaa (zbz rfl rfl (N0:=["_law_found", "_law_due_here"]) (xs:=["_law_one", "_law_other"]) ⟨(by with_unfolding_all rfl),rfl,rfl,rfl,(by repeat (first | exact trivial | refine⟨rfl,?_⟩)),rfl,.inl rfl⟩ (ziF (by rfl) T.zip (zab 0) (zab 1)) (fun _ _ _ _=>(za1 (n:=2) rfl (zao (zal (i:=2) (by decide +kernel:(["_law_found", "_law_due_here", "_law_one", "_law_other"]:List af).Nodup) rfl (y7 rfl)) (zao (zal (i:=3) (by decide +kernel:(["_law_found", "_law_due_here", "_law_one", "_law_other"]:List af).Nodup) rfl (y7 rfl)) zaK)))) (fun _ _ _ _=>zbd) (fun _ _ _ _=>(qe_fn a rfl (hr.mono (yb _)) rfl (zaa (zab 2) (zaa (zab 3) zad)) (aCons_len (aCons_len aNil_len))))) zad)))))
   zaz)
   (zaf (zaV (zaD zf7 zku (zab 1) zb3 (zay _))
   (zah (zap (zct zf7 zku (zab 0) zb3 (zay _))))
   zaz)
   (zaf (zaV (zdr (zen (n := "str") (by decide) (by rfl) T.isi (by rfl) T.str boot_str (zab 1)))
   (zah (zap (zep (zen (n := "str") (by decide) (by rfl) T.isi (by rfl) T.str boot_str (zab 0)) (zfh (zct (za0 hr.units) zbN (zab 0) (zab 1) (zay _))))))
   zaz)
   (zah (zap (zep (zen (n := "int") (by decide) (by rfl) T.isi (by rfl) T.int boot_int (zab 0)) (zep (zrE (zen (n := "bool") (by decide) (by rfl) T.isi (by rfl) T.bool boot_bool (zab 0))) (zfh (zct (za0 hr.units) zbN (zab 0) (zab 1) (zay _))))))))))
  exact h
theorem zms(F:Fun K "_law_same" "_law_same" zfG f fd)(b:Binds K fd ["_law_found", "_law_due_here"] [])(m:mg "_law_same" = aa (.ref f))(T:Txt mg)(a:TxC K cl)(t:TxE K cl ["HeadError", "NoHead", "NoLetter", "NoWord", "NoMore", "NoDeed", "NoPlace", "Beyond", "NoStream", "NoLine", "NoText"] ["NoMore", "NoHead"]):FnX P w K mg base cl "_law_same" 12 2 zdO:=zf9 P w base F b m T a t  12
theorem znw:FnScope ["_law_many"] ["_law_many"] (zai zhL):=sco
theorem zmr(F:Fun K "_law_sort" "_law_sort" zhL f fd)(b:Binds K fd ["_law_many"] [])(m:mg "_law_sort" = aa (.ref f))(T:Txt mg)(TC:TxC K cl)(TX:TxE K cl ["HeadError", "NoHead", "NoLetter", "NoWord", "NoMore", "NoDeed", "NoPlace", "Beyond", "NoStream", "NoLine", "NoText"] ["NoMore", "NoHead"]):FnX P w K mg base cl "_law_sort" 1 1 zcx :=
 by walk_at "#]}Z,y_s*T!"
theorem scLawGoes:FnScope ["_law_pact_here", "_law_heads", "_law_number_here", "_law_at", "_law_shape_here", "_law_wide", "_law_forms", "_law_road", "_law_skips", "_law_gap", "_law_late", "_law_anew", "_law_reach", "_law_count", "_law_ways", "_law_bits_here", "_law_formers_here"] ["_law_pact_here", "_law_heads", "_law_number_here", "_law_at"] (zai zhR):=sco
theorem zmy(F:Fun K "_law_goes" "_law_goes" zhR f fd)(b:Binds K fd ["_law_pact_here", "_law_heads", "_law_number_here", "_law_at"] [])(m:mg "_law_goes" = aa (.ref f))(T:Txt mg)(TC:TxC K cl)(TX:TxE K cl ["HeadError", "NoHead", "NoLetter", "NoWord", "NoMore", "NoDeed", "NoPlace", "Beyond", "NoStream", "NoLine", "NoText"] ["NoMore", "NoHead"])(hLawFormers:FnX P w K mg base cl "_law_formers" 1 3 zbD)(hLawOpened:FnX P w K mg base cl "_law_opened" 2 5 zcS)(hLawPieces:FnX P w K mg base cl "_law_pieces" 2 3 zcR):FnX P w K mg base cl "_law_goes" 3 4 zc7 :=
 by walk_at "#s~}[t#TvM-tt-t+x?tt7t+uqt+x?ttCt+srt#tAvM-tt.w*mw*=w*[t+srt#vPAw's0w*w;w*x{t+srtsxQy`uvu7w(`uwuTs++w(`y`sDu)+ks2}]sDu)bs0ks2,x%sNsdu)s?bw;s*K+b=s.wQ5wRw%s(t!s*+!t&'s2,x%sNDw<t+u56}^sq-#vPA#vO+'Dv2t+s$yavvsGOs0t;s.y45y5Sy6y7tw}_uDw)vIw`x3x4x5x6wax7x8ulvHx9vubv2umv,s/ybuDw)vIw`x3x4x5x6wax7x8vHx9sSv-s/ybuDw)vIw`x3x4x5x6wax7x8vHx9upux6}`sq-#vPAOw<Ov-Ov,'vO+s2'"
theorem scLawSizes:FnScope ["_law_pact_here", "_law_shape_here", "_law_wide", "_law_forms", "_law_road", "_law_check", "_law_found", "_law_reach", "_law_count", "_law_ways"] ["_law_pact_here"] (zai zfY):=sco
theorem zko(F:Fun K "_law_sizes" "_law_sizes" zfY f fd)(b:Binds K fd ["_law_pact_here"] [])(m:mg "_law_sizes" = aa (.ref f))(T:Txt mg)(TC:TxC K cl)(TX:TxE K cl ["HeadError", "NoHead", "NoLetter", "NoWord", "NoMore", "NoDeed", "NoPlace", "Beyond", "NoStream", "NoLine", "NoText"] ["NoMore", "NoHead"])(hLawSort:FnX P w K mg base cl "_law_sort" 1 1 zcx)(hLawWidth:FnX P w K mg base cl "_law_width" 1 2 zbj):FnX P w K mg base cl "_law_sizes" 2 1 zdA :=
 by walk_at "#s[}at#TvM-ttFt.sS9t.v~t.uot.t$7t.s$ycRvOs-D>t.uytgAw'Ct.sS.t.sSmt.srtDt%svKks.wC5wDSwEwFtwydw+ult-vFsTwAvxsAt&um=s/yew+t-vFsS[s/yew+t-vFup6x1sq=O[;snt;tvKK+s.wC5wDSwEwFtwydw+s{t-vusAs|=s/v3w+t-t:s8=s-snu2'"
theorem scLawPact:FnScope ["_law_pot_here", "_law_shape_here", "_law_heads", "_law_many", "_law_forms", "_law_k", "_law_number_here", "_law_reach", "_law_ways", "_law_skips", "_law_gap", "_law_anew", "_law_road"] ["_law_pot_here", "_law_shape_here", "_law_heads", "_law_many"] (zai zhN):=sco
theorem zmu(F:Fun K "_law_pact" "_law_pact" zhN f fd)(b:Binds K fd ["_law_pot_here", "_law_shape_here", "_law_heads", "_law_many"] [])(m:mg "_law_pact" = aa (.ref f))(T:Txt mg)(TC:TxC K cl)(TX:TxE K cl ["HeadError", "NoHead", "NoLetter", "NoWord", "NoMore", "NoDeed", "NoPlace", "Beyond", "NoStream", "NoLine", "NoText"] ["NoMore", "NoHead"])(hLawFitted:FnX P w K mg base cl "_law_fitted" 3 4 zcU)(hLawForm:FnX P w K mg base cl "_law_form" 3 2 zeC)(hLawFormers:FnX P w K mg base cl "_law_formers" 1 3 zbD)(hLawPick:FnX P w K mg base cl "_law_pick" 1 2 zaj):FnX P w K mg base cl "_law_pact" 4 4 zdC :=
 by walk_at "#u+}bsBw0uytcs]sR7u:D>u:tzshsG;DCw0s6!w&D.w0s$}ctbu49t%s}yav{u2sm;t2a`i.u:s16}ds)sL!sNtDH#s:smu8w&O.;Dmu:w&D=u:tCs(svt&tzuW'sg'D[u:uWu8a#sgaDs0u:s:OmO=#w&O[t;s:tN#uWu8sga#tBt>Os0'"
theorem scLawDue:FnScope ["_law_pact_here", "_law_heads", "_law_whole", "_law_sizes_here", "_law_found", "_law_number_here", "_law_some"] ["_law_pact_here", "_law_heads"] (zai zj6):=sco
theorem zon(F:Fun K "_law_due" "_law_due" zj6 f fd)(b:Binds K fd ["_law_pact_here", "_law_heads"] [])(m:mg "_law_due" = aa (.ref f))(T:Txt mg)(TC:TxC K cl)(TX:TxE K cl ["HeadError", "NoHead", "NoLetter", "NoWord", "NoMore", "NoDeed", "NoPlace", "Beyond", "NoStream", "NoLine", "NoText"] ["NoMore", "NoHead"])(hLawGoes:FnX P w K mg base cl "_law_goes" 3 4 zc7)(hLawSizes:FnX P w K mg base cl "_law_sizes" 2 1 zdA)(hLawSort:FnX P w K mg base cl "_law_sort" 1 1 zcx):FnX P w K mg base cl "_law_due" 4 2 zdE :=
 by walk_at "#u+}et#6}fujsI9vJv~vJu5wesBvJuytcvwtN;sR7vJu5s^}gu;>trvJx;}huDwmyfygwownyhs{vIsTtcvws3;s|Cs/yOuDwmyfygwownyhvI&u<}iuK6}jtbtxsm'u<s81tAtDHsv6ycRuushs3;s.y]5y^x=svv$u*t%u,tBt>"
theorem scLawTold:FnScope ["_law_pact_here", "_law_heads", "_law_caught", "_law_found", "e"] ["_law_pact_here", "_law_heads"] (zai zhK):=sco
theorem zmq(F:Fun K "_law_told" "_law_told" zhK f fd)(b:Binds K fd ["_law_pact_here", "_law_heads"] [])(m:mg "_law_told" = aa (.ref f))(T:Txt mg)(TC:TxC K cl)(TX:TxE K cl ["HeadError", "NoHead", "NoLetter", "NoWord", "NoMore", "NoDeed", "NoPlace", "Beyond", "NoStream", "NoLine", "NoText"] ["NoMore", "NoHead"])(hCosts:FnE P w K mg base cl "costs" 10 2 zbW):FnX P w K mg base cl "_law_told" 11 2 zbV :=
 by walk_at "#td=}kjvK&u?t<vK&u?s^}lu;-trv'uU5vKtr}mu;1vK&}n5}oys5vtsLwlw#}pi9vK&Hsdv}+u3,Aw!uK}qv'u{tpt'u{t'w1t'w1u|u{stt'u{u|u{stuUu{stu|w1tpt'}rui+yxsttpt'w,t'wbt'wbu|w,stt'w,u|w,stuUw,stu|wbtpt'S}s,ds%vN#d#d'uzuH}tv'stuUuiS+uI}uv'uiS}v+'"
theorem scLaw:FnScope ["_law_script", "_law_pot_here", "_law_turn", "_law_shape_here", "_law_heads", "_law_pact_here", "_law_due_here", "_law_again"] ["_law_script"] (zai sLaw):=sco
theorem ok_Law(F:Fun K "law" "law" sLaw f fd)(b:Binds K fd ["_law_script"] [])(m:mg "law" = aa (.ref f))(T:Txt mg)(p:TxC K cl)(t:TxE K cl ["HeadError", "NoHead", "NoLetter", "NoWord", "NoMore", "NoDeed", "NoPlace", "Beyond", "NoStream", "NoLine", "NoText"] ["NoMore", "NoHead"])(n:FnX P w K mg base cl "_law_due" 4 2 zdE)(g:FnX P w K mg base cl "_law_pact" 4 4 zdC)(a:FnX P w K mg base cl "_law_pick" 1 2 zaj)(l:FnX P w K mg base cl "_law_pot" 1 1 zgt)(j:FnX P w K mg base cl "_law_row" 4 3 zgs)(e:FnX P w K mg base cl "_law_same" 12 2 zdO)(c:FnX P w K mg base cl "_law_shape" 3 1 zdB)(d:FnX P w K mg base cl "_law_told" 11 2 zbV)(o:FnE P w K mg base cl "costs" 10 2 zbW):FnOk P w K mg base CX0 13 f fd ["_law_script"] (spD K cl X0 1 zlD) :=
 have h:=fnO (P:=P) (w:=w) (mg:=mg) (base:=base) (cl:=cl) (k:=12) F scLaw rfl fun cdv A outer s H E hr=>
  (zaf (zam (i:=1) scLaw.nd rfl (y7 rfl) (qfn l hr (zaa (zab 0) zad)))
  (zaf (zbt PassesOwn.never rfl (zcC (by rfl) T.range (zaa (zan zaq zaw zae (zau zaG zbF (by rfl) T.len ybG (zaa (ziH (zab 0) ze2 (zcB zae)) zad))) zad)) (zal (i:=2) scLaw.nd rfl (y7 rfl))
  (zaf (zam (i:=3) scLaw.nd rfl (y7 rfl) (qfn c hr (zaa (zab 1) zad)))
  (zaf (zam (i:=4) scLaw.nd rfl (y7 rfl) (qfn j hr (zaa (zab 1) (zaa (zab 3) (zaa (zan zaq zaw zae (qfn a hr (zaa (zab 1) (zaa zae zad)))) zad)))))
  (zaf (zam (i:=5) scLaw.nd rfl (y7 rfl) (qfn g hr (zaa (zab 1) (zaa (zab 3) (zaa (zab 4) (zaa (qfn a hr (zaa (zab 1) (zaa zae zad))) zad))))))
  (zaf (zam (i:=6) scLaw.nd rfl (y7 rfl) (qfn n hr (zaa (zab 5) (zaa (zab 4) zad))))
  (zaf (zaV (zaD ziP ziY (zau zaG zbF (by rfl) T.len ybG (zaa (zab 4) zad)) (zan zb4 zb5 zae (qxi hr (zab 5) zae)) (zay _))
  (zah (zam (i:=6) scLaw.nd rfl (y7 rfl) zaA))
  zaz)
  (zaf (zbt PassesOwn.never rfl (zcC (by rfl) T.range (zaa zae zad)) (zal (i:=7) scLaw.nd rfl (y7 rfl))
  (zah (zaV (zg6 (zdr (qfn e hr (zaa (qfn d hr (zaa (zab 5) (zaa (zab 4) zad))) (zaa (zab 6) zad)))))
  (zah (zap zke))
  zaz)))
  (zah (zaV (zaD (zg7 hr.units) zmE (qfn o.pure hr (zaa (zab 5) (zaa (zbR zad) zad))) (zaR zad) (zay _))
  (zah (zap zke))
  zaz)))))))))
  (zah (zap zke))))
 h
end
end K48
namespace K48
open PySem L2 MD
theorem zoI{ns:List Int}(h:ns.length<=63):∃a m,zlD [.scr (ns.map D.int)] [] = .ok a m/\a = .bl ae:=zkE h
end K48
namespace K48
open PySem PyProof.Rows L2 MD PySem.W.Fast
variable{α β γ δ : Type}{f f':α -> β -> γ -> δ}{x:α}{y : β}
theorem trH{g g':α -> β -> γ -> δ}(a:f=f')(c:g=g'){w : γ}(b:f' x y w=g' x y w):f x y w=g x y w:=by rw[a,c];exact b
theorem trL{g:α -> β -> γ -> δ}(a:f=f'){w : γ}(b:f' x y w=g x y w):f x y w=g x y w:=by rw[a];exact b
theorem hm8(w:al):hl8 nms pw w=hr8 nms pw w:=trL te9288774510078476877 (hlq8 w)
theorem hm9(w:al):hl9 f9 pw w=hr9 f9 pw w:=trL te3119653436408845909 (hlq9 w)
theorem hm10(w:al):hl10 rw0 pw w=hr10 rw0 pw w:=trL te15721896831082035706 (hlq10 w)
theorem hm11(w:al):hl11 rw0 pw w=hr11 rw0 pw w:=trL te4254349494386934204 (hlq11 w)
theorem hm12(w:al):hl12 rw0 pw w=hr12 rw0 pw w:=trL te8163218484197486485 (hlq12 w)
theorem hm13(w:al):hl13 rw0 pw w=hr13 rw0 pw w:=trL te874879850619119698 (hlq13 w)
theorem hm14(w:al):hl14 rw0 pw w=hr14 rw0 pw w:=trL te16876041482627181997 (hlq14 w)
theorem hm15(w:al):hl15 rw0 pw w=hr15 rw0 pw w:=trL te16866104489541749007 (hlq15 w)
theorem hl:PySem.W.LeftO pw vw [] xt (fun s=>obs (Kof 660 s.heap)) (fun _=>expd) 10114:=fun w=>zpi (f:=fun s=>ydz vw [] (ck pw.main.body) xt ae s) (g:=obs) (n:=660) (both (parts4 36 (trH te15972106659706883642 te1759917152560474235 (hlq0 w)) (trH te4018909147390813421 te3117126202212790879 (hlq1 w)) (trH te3737024888275814692 te3344903964588143236 (hlq2 w)) (trH te11590234499327196972 te1179667655779189211 (hlq3 w)) (trH te8565351476707980253 te13849074547926388132 (hlq4 w)) (trH te1983792736165121276 te4636072084986117971 (hlq5 w)) (trH te5293812566991966714 te8773258209857769652 (hlq6 w)) (trH te11923885797106658670 te13124224013052962597 (hlq7 w))) (both4 (hm8 w) (hm9 w) (zoQ (zoQ (zoQ (zoQ (zoQ (hm10 w) (hm11 w)) (hm12 w)) (hm13 w)) (hm14 w)) (hm15 w))))
theorem all_mk{l:ycL}{w:al}{K:ya}{h:au}{mg:af->Option ag}{fa:ac}(y:obs K=expd)(X:K.In h)(G:h.Ns aF mg)(hfa:mg "law" = aa (.ref fa)) : ∃fd:aJ,(∀(s:ak)(v:ag),bD s fd ⟨[v],[]⟩ [("_law_script", v)])/\∀base:au,K.In base->base.Ns aF mg->FnOk l.prog w K mg base CX0 13 fa fd ["_law_script"] (spLaw K):=by
 have Y:nms.map (yai K aF)=nmsE:=congrArg (fun x=>x.1) y;have y2:fnd.map (fun p=>yU K (.ref p.1) p.2)=fndE:=congrArg (fun x=>x.2.1) y;have y3:fns.map (fnV K)=fnsE:=congrArg (fun x=>x.2.2.1) y;have y4:bls K=blsE:=congrArg (fun x=>x.2.2.2) y;have n:∀(i:Nat){x:af}{v:ag},nms[i]?=aa x->nmsE[i]?=aa (aa (aa v))->mg x=aa v:=fun i _ _ a b=>ybB X G (zik Y i a b);have o:∀(i:Nat){x:af},nms[i]?=aa x->nmsE[i]?=aa (aa none)->mg x=none:=fun i _ a b=>PySem.W.mg_none_of X G (zik Y i a b);have u:∀(st:aq)(i:Nat){a:ac}{x q:af},fns[i]?=aa a->fnsE[i]?=aa (fnE x q st)->∃fd,Fun K x q st a fd:=fun st i _ _ _ a b=>fun_of (st:=st) (zik y3 i a b);have e:=hfa.symm.trans (n 57 rfl rfl);cases e;have T:Txt mg:=⟨o 70 rfl rfl,o 71 rfl rfl,o 72 rfl rfl,o 73 rfl rfl,o 74 rfl rfl,o 75 rfl rfl,o 76 rfl rfl,o 77 rfl rfl,o 78 rfl rfl,o 79 rfl rfl,o 80 rfl rfl,o 81 rfl rfl,o 82 rfl rfl,o 83 rfl rfl,o 84 rfl rfl,o 85 rfl rfl⟩;obtain⟨cl,E,d,F,r,A,C,I,z,J,j,D,B⟩:∃cl:af->ac,cl "Presser" = 477/\cl "HeadError" = 57/\cl "NoHead" = 70/\cl "NoLetter" = 82/\cl "NoWord" = 94/\cl "NoMore" = 106/\cl "NoDeed" = 118/\cl "NoPlace" = 130/\cl "Beyond" = 142/\cl "NoStream" = 154/\cl "NoLine" = 166/\cl "NoText" = 185:=⟨fun x=>if x = "Presser" then 477 else if x = "HeadError" then 57 else if x = "NoHead" then 70 else if x = "NoLetter" then 82 else if x = "NoWord" then 94 else if x = "NoMore" then 106 else if x = "NoDeed" then 118 else if x = "NoPlace" then 130 else if x = "Beyond" then 142 else if x = "NoStream" then 154 else if x = "NoLine" then 166 else if x = "NoText" then 185 else 0,if_pos rfl,(if_neg (by decide)).trans (if_pos rfl),(if_neg (by decide)).trans ((if_neg (by decide)).trans (if_pos rfl)),(if_neg (by decide)).trans ((if_neg (by decide)).trans ((if_neg (by decide)).trans (if_pos rfl))),(if_neg (by decide)).trans ((if_neg (by decide)).trans ((if_neg (by decide)).trans ((if_neg (by decide)).trans (if_pos rfl)))),(if_neg (by decide)).trans ((if_neg (by decide)).trans ((if_neg (by decide)).trans ((if_neg (by decide)).trans ((if_neg (by decide)).trans (if_pos rfl))))),(if_neg (by decide)).trans ((if_neg (by decide)).trans ((if_neg (by decide)).trans ((if_neg (by decide)).trans ((if_neg (by decide)).trans ((if_neg (by decide)).trans (if_pos rfl)))))),(if_neg (by decide)).trans ((if_neg (by decide)).trans ((if_neg (by decide)).trans ((if_neg (by decide)).trans ((if_neg (by decide)).trans ((if_neg (by decide)).trans ((if_neg (by decide)).trans (if_pos rfl))))))),(if_neg (by decide)).trans ((if_neg (by decide)).trans ((if_neg (by decide)).trans ((if_neg (by decide)).trans ((if_neg (by decide)).trans ((if_neg (by decide)).trans ((if_neg (by decide)).trans ((if_neg (by decide)).trans (if_pos rfl)))))))),(if_neg (by decide)).trans ((if_neg (by decide)).trans ((if_neg (by decide)).trans ((if_neg (by decide)).trans ((if_neg (by decide)).trans ((if_neg (by decide)).trans ((if_neg (by decide)).trans ((if_neg (by decide)).trans ((if_neg (by decide)).trans (if_pos rfl))))))))),(if_neg (by decide)).trans ((if_neg (by decide)).trans ((if_neg (by decide)).trans ((if_neg (by decide)).trans ((if_neg (by decide)).trans ((if_neg (by decide)).trans ((if_neg (by decide)).trans ((if_neg (by decide)).trans ((if_neg (by decide)).trans ((if_neg (by decide)).trans (if_pos rfl)))))))))),(if_neg (by decide)).trans ((if_neg (by decide)).trans ((if_neg (by decide)).trans ((if_neg (by decide)).trans ((if_neg (by decide)).trans ((if_neg (by decide)).trans ((if_neg (by decide)).trans ((if_neg (by decide)).trans ((if_neg (by decide)).trans ((if_neg (by decide)).trans ((if_neg (by decide)).trans (if_pos rfl)))))))))))⟩;have L:∀(i:Nat)(b:Bool),(bls K)[i]?=aa b->b=ae:=fun i b hb=>by
  rw[y4]at hb;exact yd9.mp (yW (show (yp 13 ae)[i]?=aa b from hb)) |>.2
 have cPresser:∀(i:Nat){x:af}{v:Option (Option ag)},fnd[i]?=aa (477,x)->fndE[i]?=aa v->yU K (.ref (cl "Presser")) x=v:=fun i _ _ a b=>by rw[E];exact zik y2 i a b
 have Q:=L 0 _ rfl;simp only[yL]at Q;obtain⟨⟨⟨⟨f,H⟩,P⟩,m⟩,k⟩:=Q;have c:TxC K cl:=⟨(by rw[E];exact⟨f,H,P,(zik y2 0 rfl rfl)⟩),cPresser 1 rfl rfl,cPresser 2 rfl rfl,cPresser 3 rfl rfl,cPresser 4 rfl rfl,cPresser 5 rfl rfl⟩;have t:TxE K cl ["HeadError", "NoHead", "NoLetter", "NoWord", "NoMore", "NoDeed", "NoPlace", "Beyond", "NoStream", "NoLine", "NoText"] ["NoMore", "NoHead"]:=⟨(zaE (by rw[d];exact(zik Y 59 rfl rfl)) (zaE (by rw[F];exact(zik Y 60 rfl rfl)) (zaE (by rw[r];exact(zik Y 61 rfl rfl)) (zaE (by rw[A];exact(zik Y 62 rfl rfl)) (zaE (by rw[C];exact(zik Y 63 rfl rfl)) (zaE (by rw[I];exact(zik Y 64 rfl rfl)) (zaE (by rw[z];exact(zik Y 65 rfl rfl)) (zaE (by rw[J];exact(zik Y 66 rfl rfl)) (zaE (by rw[j];exact(zik Y 67 rfl rfl)) (zaE (by rw[D];exact(zik Y 68 rfl rfl)) (zaE (by rw[B];exact(zik Y 69 rfl rfl)) zii))))))))))),L 11 _ rfl,L 12 _ rfl,(zaE (.tail _ (.tail _ (.tail _ (.tail _ (.head _))))) (zaE (.tail _ (.head _)) zii))⟩;have ⟨_,F67⟩:=u sLaw 67 rfl rfl;have Fx:=F67;obtain⟨oc,od,kV,doc,pm,an,cdv,ct,osl,rfl,lk,hcd⟩:=Fx.ex;refine⟨ybc "law" "law" (zfc sLaw) (zbs sLaw) (zai sLaw) .none kV doc pm an cdv ct,fun s v=>.of_eq rfl,fun base _ _=>?_⟩;have ⟨_,F59⟩:=u zd5 59 rfl rfl;have V:=zh1 l.prog w base F59 F59.bindA (n 49 rfl rfl) T c t;have ⟨_,F47⟩:=u zdp 47 rfl rfl;have O:=zgQ l.prog w base F47 F47.bindA (n 37 rfl rfl) T c t;have ⟨_,F55⟩:=u zeY 55 rfl rfl;have g55:=ziV l.prog w base F55 F55.bindA (n 45 rfl rfl) T c t;have ⟨_,F53⟩:=u zfW 53 rfl rfl;have N:=zkm l.prog w base F53 F53.bindA (n 43 rfl rfl) T c t;have ⟨_,F56⟩:=u zeX 56 rfl rfl;have g56:=ziU l.prog w base F56 F56.bindA (n 46 rfl rfl) T c t O g55 N;have ⟨_,F52⟩:=u zhT 52 rfl rfl;have g52:=zmA l.prog w base F52 F52.bindA (n 42 rfl rfl) T c t;have ⟨_,F54⟩:=u zeW 54 rfl rfl;have g54:=ziT l.prog w base F54 F54.bindA (n 44 rfl rfl) T c t g52 N;have ⟨_,F62⟩:=u zhR 62 rfl rfl;have g62:=zmy l.prog w base F62 F62.bindA (n 52 rfl rfl) T c t V g56 g54;have ⟨_,F61⟩:=u zhL 61 rfl rfl;have U:=zmr l.prog w base F61 F61.bindA (n 51 rfl rfl) T c t;have ⟨_,F63⟩:=u zfY 63 rfl rfl;have g63:=zko l.prog w base F63 F63.bindA (n 53 rfl rfl) T c t U N;have ⟨_,F65⟩:=u zj6 65 rfl rfl;have g65:=zon l.prog w base F65 F65.bindA (n 55 rfl rfl) T c t g62 g63 U;have ⟨_,F57⟩:=u zd4 57 rfl rfl;have g57:=zh0 l.prog w base F57 F57.bindA (n 47 rfl rfl) T c t O;have ⟨_,F42⟩:=u zhM 42 rfl rfl;have g:=zmt l.prog w base F42 F42.bindA (n 32 rfl rfl) T c t;have ⟨_,F58⟩:=u zeZ 58 rfl rfl;have g58:=ziW l.prog w base F58 F58.bindA (n 48 rfl rfl) T c t g57 g;have ⟨_,F50⟩:=u zj3 50 rfl rfl;have g50:=zok l.prog w base F50 F50.bindA (n 40 rfl rfl) T c t g;have ⟨_,F51⟩:=u zhS 51 rfl rfl;have g51:=zmz l.prog w base F51 F51.bindA (n 41 rfl rfl) T c t g g50;have ⟨_,F64⟩:=u zhN 64 rfl rfl;have g64:=zmu l.prog w base F64 F64.bindA (n 54 rfl rfl) T c t g58 g51 V g;have ⟨_,F41⟩:=u zj5 41 rfl rfl;have g41:=zom l.prog w base F41 F41.bindA (n 31 rfl rfl) T c t;have ⟨_,F45⟩:=u zfX 45 rfl rfl;have W:=zkn l.prog w base F45 F45.bindA (n 35 rfl rfl) T c t g;have ⟨_,F48⟩:=u zhQ 48 rfl rfl;have g48:=zmx l.prog w base F48 F48.bindA (n 38 rfl rfl) T c t O g W;have ⟨_,F46⟩:=u zhP 46 rfl rfl;have g46:=zmw l.prog w base F46 F46.bindA (n 36 rfl rfl) T c t W;have ⟨_,F49⟩:=u zj4 49 rfl rfl;have g49:=zol l.prog w base F49 F49.bindA (n 39 rfl rfl) T c t g48 g46;have ⟨_,F60⟩:=u zfG 60 rfl rfl;have g60:=zms l.prog w base F60 F60.bindA (n 50 rfl rfl) T c t;have ⟨_,F43⟩:=u zhO 43 rfl rfl;have g43:=zmv l.prog w base F43 F43.bindA (n 33 rfl rfl) T c t g;have ⟨_,F44⟩:=u zfZ 44 rfl rfl;have g44:=zkp l.prog w base F44 F44.bindA (n 34 rfl rfl) T c t g43 g;have ⟨_,F30⟩:=u zdo 30 rfl rfl;have g30:=zgP l.prog w base F30 F30.bindA (by rw[E];exact ybB X G (zik Y 58 rfl rfl)) (by rw[E];exact⟨m,(zik y2 6 rfl rfl),L 1 _ rfl,k⟩) T c t;have ⟨_,F11⟩:=u zf1 11 rfl rfl;have g11:=zkr l.prog w base F11 F11.bindA (n 11 rfl rfl) T c t;have ⟨_,F7⟩:=u znC 7 rfl rfl;have g7:=zqL l.prog w base F7 F7.bindA (n 7 rfl rfl) T c t;have ⟨_,F4⟩:=u zhU 4 rfl rfl;have g4:=zmB l.prog w base F4 F4.bindA (n 4 rfl rfl) T c t;have ⟨_,F5⟩:=u ze0 5 rfl rfl;have g5:=ziX l.prog w base F5 F5.bindA (n 5 rfl rfl) T c t g4;have ⟨_,F6⟩:=u zhV 6 rfl rfl;have g6:=zmC l.prog w base F6 F6.bindA (n 6 rfl rfl) T c t g5;have ⟨_,F12⟩:=u zj7 12 rfl rfl;have g12:=zoo l.prog w base F12 F12.bindA (n 12 rfl rfl) T c t g11 g7 g6;have ⟨_,F34⟩:=u zcf 34 rfl rfl;have g34:=ze5 l.prog w base F34 F34.bindA ⟨cPresser 10 rfl rfl,L 5 _ rfl,F34.kp⟩ T c t g12;have ⟨_,F32⟩:=u zdn 32 rfl rfl;have M:=zgO l.prog w base F32 F32.bindA ⟨cPresser 8 rfl rfl,L 3 _ rfl,F32.kp⟩ T c t;have ⟨_,F29⟩:=u zdq 29 rfl rfl;have g29:=zgR l.prog w base F29 F29.bindA (n 29 rfl rfl) T c t;have ⟨_,F33⟩:=u zce 33 rfl rfl;have g33:=ze4 l.prog w base F33 F33.bindA ⟨cPresser 9 rfl rfl,L 4 _ rfl,F33.kp⟩ T c t g29;have ⟨_,F39⟩:=u zbP 39 rfl rfl;have g39:=zeb l.prog w base F39 F39.bindA ⟨cPresser 15 rfl rfl,L 10 _ rfl,F39.kp⟩ T c t M;have ⟨_,F38⟩:=u zb0 38 rfl rfl;have g38:=zes l.prog w base F38 F38.bindA ⟨cPresser 14 rfl rfl,L 9 _ rfl,F38.kp⟩ T c t M;have ⟨_,F37⟩:=u zbH 37 rfl rfl;have g37:=zdS l.prog w base F37 F37.bindA ⟨cPresser 13 rfl rfl,L 8 _ rfl,F37.kp⟩ T c t M;have ⟨_,F28⟩:=u zd6 28 rfl rfl;have g28:=zh2 l.prog w base F28 F28.bindA (n 28 rfl rfl) T c t;have ⟨_,F8⟩:=u zj0 8 rfl rfl;have S:=zoh l.prog w base F8 F8.bindA (n 8 rfl rfl) T c t;have ⟨_,F14⟩:=u zjY 14 rfl rfl;have g14:=zof l.prog w base F14 F14.bindA (n 14 rfl rfl) T c t;have ⟨_,F13⟩:=u zf0 13 rfl rfl;have g13:=zkq l.prog w base F13 F13.bindA (n 13 rfl rfl) T c t S g14;have ⟨_,F1⟩:=u zfU 1 rfl rfl;have g1:=zkk l.prog w base F1 F1.bindA (n 1 rfl rfl) T c t;have ⟨_,F2⟩:=u zeV 2 rfl rfl;have g2:=ziS l.prog w base F2 F2.bindA (n 2 rfl rfl) T c t g1;have ⟨_,F9⟩:=u zfS 9 rfl rfl;have g9:=zki l.prog w base F9 F9.bindA (n 9 rfl rfl) T c t S;have ⟨_,F10⟩:=u zkb 10 rfl rfl;have g10:=zor l.prog w base F10 F10.bindA (n 10 rfl rfl) T c t S g9;have ⟨_,F21⟩:=u zeT 21 rfl rfl;have g21:=ziQ l.prog w base F21 F21.bindA (n 21 rfl rfl) T c t g10;have ⟨_,F16⟩:=u zhJ 16 rfl rfl;have g16:=zmp l.prog w base F16 F16.bindA (n 16 rfl rfl) T c t;have ⟨_,F17⟩:=u zjX 17 rfl rfl;have R:=zoe l.prog w base F17 F17.bindA (n 17 rfl rfl) T c t g11 g16;have ⟨_,F20⟩:=u zj2 20 rfl rfl;have g20:=zoj l.prog w base F20 F20.bindA (n 20 rfl rfl) T c t g13 g2 g21 R;have ⟨_,F0⟩:=u zka 0 rfl rfl;have g0:=zoq l.prog w base F0 F0.bindA (n 0 rfl rfl) T c t;have ⟨_,F18⟩:=u zj1 18 rfl rfl;have g18:=zoi l.prog w base F18 F18.bindA (n 18 rfl rfl) T c t g0 S R;have ⟨_,F27⟩:=u znD 27 rfl rfl;have g27:=zqM l.prog w base F27 F27.bindA (n 27 rfl rfl) T c t g28 g20 g18;have ⟨_,F35⟩:=u zbQ 35 rfl rfl;have g35:=zec l.prog w base F35 F35.bindA ⟨cPresser 11 rfl rfl,L 6 _ rfl,F35.kp⟩ T c t g33 g39 g38 g37 g27;have ⟨_,F3⟩:=u zfT 3 rfl rfl;have g3:=zkj l.prog w base F3 F3.bindA (n 3 rfl rfl) T c t;have ⟨_,F24⟩:=u zd7 24 rfl rfl;have g24:=zh3 l.prog w base F24 F24.bindA (n 24 rfl rfl) T c t g3;have ⟨_,F22⟩:=u zj8 22 rfl rfl;have g22:=zop l.prog w base F22 F22.bindA (n 22 rfl rfl) T c t;have ⟨_,F19⟩:=u zjZ 19 rfl rfl;have g19:=zog l.prog w base F19 F19.bindA (n 19 rfl rfl) T c t R;have ⟨_,F23⟩:=u zeU 23 rfl rfl;have g23:=ziR l.prog w base F23 F23.bindA (n 23 rfl rfl) T c t g3;have ⟨_,F25⟩:=u zd3 25 rfl rfl;have g25:=zhZ l.prog w base F25 F25.bindA (n 25 rfl rfl) T c t g24 g22 g19 g23;have ⟨_,F36⟩:=u zbZ 36 rfl rfl;have g36:=zer l.prog w base F36 F36.bindA ⟨cPresser 12 rfl rfl,L 7 _ rfl,F36.kp⟩ T c t g35 g25;have ⟨_,F15⟩:=u zhW 15 rfl rfl;have g15:=zmD l.prog w base F15 F15.bindA (n 15 rfl rfl) T c t;have ⟨_,F26⟩:=u zfV 26 rfl rfl;have g26:=zkl l.prog w base F26 F26.bindA (n 26 rfl rfl) T c t g0 g15 g24 g22 g18 S g23;have ⟨_,F31⟩:=u zc1 31 rfl rfl;have g31:=zf8 l.prog w base F31 F31.bindA ⟨cPresser 7 rfl rfl,L 2 _ rfl,F31.kp⟩ T c t g34 M g36 g26;have ⟨_,F40⟩:=u znE 40 rfl rfl;have Z:=zqN l.prog w base F40 F40.bindA (n 30 rfl rfl) T c t g30 g31;have ⟨_,F66⟩:=u zhK 66 rfl rfl;have g66:=zmq l.prog w base F66 F66.bindA (n 56 rfl rfl) T c t Z;have g67:=ok_Law l.prog w base F67 F67.bindA (n 57 rfl rfl) T c t g65 g64 g g41 g49 g60 g44 g66 Z;exact MD.law_fn g67 fun _ h=>zoI h
theorem ws:yec ybU=ae:=by
 delta yec
 repeat' (first | with_reducible refine PySem.W.look_both ?_ ?_ | delta PySem.W.OpenRow.wellSaid | delta PySem.W.OpenRow.partSaid | delta PySem.W.looksOpen)
 all_goals decide +kernel
end K48
open PySem PySem.W PyProof.Rows
set_option maxRecDepth 100000 in
theorem PySem.Challenge.cw_shorthead_k48_costs_holds : PySem.Challenge.rw_shorthead_k48_costs.Holds := by
 w_on
 refine PySem.W.holds_law K48.ws fun said => ?_
 refine PySem.W.holds_openX (q := K48.vw) (loose := []) (Xt := K48.xt) (XP := PySem.W.XL K48.vw []) (Yf := fun s => K48.obs (MD.Kof 660 s.heap)) (Ya := fun _ => K48.expd) (N := 10114) K48.hl (fun s e => PySem.W.xl_of s (Bool.and_eq_true_iff.mp e).1) PySem.W.XL.keeps (by rfl) (by rfl) (by rfl) (fun s e => PySem.W.recFacts_of (Bool.and_eq_true_iff.mp e).2) (by rfl) (by first | assumption | decide +kernel) (by decide +kernel) ⟨rfl, rfl, rfl, rfl, rfl, by decide +kernel⟩ ?hw ?hc
 case hw => w_witness2
 case hc => exact MD.walk_ofY (l := PySem.Challenge.rw_shorthead_k48_costs) (n := 63) (k := 13) (x := "_law_script") (CX := L2.CX0) (sp := MD.spLaw) rfl (by decide) rfl ⟨rfl, by decide, by decide, rfl⟩ (fun K y w mg fa h X G hmg => K48.all_mk y X G hmg) (fun _ _ a ns hl _ hS => ⟨a, ns, rfl, hS, hl, fun _ => rfl⟩) fun _ _ _ _ z => z
