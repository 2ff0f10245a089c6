import PyProof.Rows.All
import Wide.All
import OpenK.AllK
import Wide.FinOn
import Lean
import PyProof.EqAt
import PyProof.EqKinds
import PyProof.TupleCall
import PySem.Challenge.RW_shorthead_k32_presser_refuses
local macro_rules | `(tactic| walk_at $s:str) => do
  let c := s.getString
  if !c.startsWith "#" then Lean.Macro.throwUnsupported
  let J := fun (x : String) => Lean.mkIdent x.toName
  let tb := ("0zaj 2zaa !lD 0zae 2eFn !~=A !lt< !JD !WD !/& 0zad 3qfn 05 2zac 06 !t6D !l= 03 !u'zj !Xtk !!! 04 !/J !Pzf !%% 1zaL !W= 02 07 !~>zn 0rfl 0!b2 !5& 01 !!t* !Jt< !Pzl !l3 !J= !wWze !#- 1zaB !wWzi !u4t< !vu, 3eOp !zozp !;& 08 !zgtK !t6t< !t6= 1zab 2zaw !l7 !Wt< !Xr !W3 !W7 !8t< !Py! !~Bz} !tK# !/M !t63 !%# !u)t< !~C{# !zrv^ !wWzu !u5F !t+= 1zaf 0zbL !~Em !'- 4zam 0zan 3sIf 0zdI !#, !#q !Lt# !Pzv !!E !*, !t6. !lS 1gN !t2zS !!+ !t34 !y&x3 !~O, !~Uz[ !t!% 2zag 0zaC 0zbr 0$_law_box_here !/l !uzP !t7x~ !tN= !~Az{ !m; 00 5zaA 1!nd 1zeW !/9 !E= !PzW !&u( !tR% !u'zS !'? !'zU !'xC !x1xn 0hr 6zaH 0$press !#W !zsv^ !x{t* !t7wY !tND !u]t= !8D !t67 !~LA !vw! !d! !E7 !_! !Rtr !~Zv^ !vby) !uPtq !'vy !u)D !u)= !t!# !x1z` !tN. !], !tt% !t+7 !~]u_ !vuq 2zaK 1za0 0$head 0$shape 0$value 3!m2 !zqv] !u(c !~?zy !tN3 !V! ![tQ !X{0 !t6> !t*= !u^y$ !$) !92 !Py$ !uR& !&v_ !&xk !J3 !u`% !TT 1zai 0zbn 3!m0 0!b0 3eSl 0$had 0$base 0$anew 0$heard 1puF 2!l2 3ziU 0$_law_shape_here !tKtN !9( !ztzT !~F{) !~S{7 !T< !t*D !tkG !t*7 !t%G !/G !U1 !t60 !l0 !+v` !xD{D !t7{E !/tO !ua! !t+D !t9% !t+3 !qv- !t:? !~^{G !-v. !t$# 1!f4 1n:= 0zbV 1aIt 0zhb 0$turn 0zgw 0$number 0zeQ !t!t! !AA !9l !t2xz !/P !,, !tN7 !t6u{ !!/ !z]z^ !8. !~WA !(tu !U! !l. !Ru( !87 !t7{I !y+za !$F !(i !u7x8 !x?h !v{) !t,xr !:4 !tN> !tR: !W0 !L# !:% !~`zX 1tV 09 2eUn 0$have 0zis 0zbC 0$usable 0zay 5zhp 0hRestOf 0$breadth 0zel 0$form 4!l4 7zcM 0scLawNextHead.nd !Q4 !y#N !tSts !x4y( !zTzX !t*3 !;G !tU! !FM !v|) !mtv !x9& !+xk !u^zW !v}{N !+uc !Xx: !9vx !rvd !1c !~dy0 !ctm !~gM !~hh !xsxE !B{P !{Q{R !4- !u)3 !u4D !xttn !ve, !t3v/ !tN0 !x;t= !u8# !,% !t4Q !zcA !~kzb !y1{W !~p{[ !y#x2 !t!e !~r, !Kxu 1i:= 0$Presser 0zcW 0zfO 010 1xs:= 4zdr 2zej 1zcp 1zjT 011 0$fresh 0$more 0$width 0$place 1zfb 0zfu 1ziV 0scOpened.nd 0scDoubt.nd 0scLawBox.nd 0scLawNext.nd 0scLawKind.nd 0scLawShape.nd !TZ !y%{% !(1 !tOzZ !~MuP !vvD !u[. !u[0 !/u| !#x5 !u6{C !twuS !xv{` !&v` !l> !/u5 !Cu( !xwtx !~s7 !;y2 !xx{a !v0F !HJ !Cv_ !t&= !Cxk !m[ !E> !x=x< !ud8 !+u( !6! !xy6 !__ !tAvx !tA2 !~ty3 !', !uey* !~u{c !4y4 !N% !tNt< !tVy* !Tt' !v~w^ !t2{d !t+> !W> !%t- !~v{f !?, !u9, !t=zd !u6y5 !u6y6 !w!, !~wt= !Q{h !x>v1 !v-t$ !tl# 1eC 0TC.cPresser 0eqD 0zau 5zbz 6zbs 3!l3 0zcw 1zio 0leD 0zsK 0geD 0zit 3eIf 0$pressed 0$formers 0zaJ 0$hindrance 0zaz 0$ask_head 2tOrM 2zq9 0zaF 0zap 0$why 0zba 0scNumbersOf.nd 0PySem.F.slot_list_append 0PySem.F.type_list_append 0zdD 0zdF 0scWidthFor.nd 8zk6 0T.isi 0zlc 0zqo 1zdC 0scExpected.nd 0hBitsOf 0scLetterBy.nd 3zp3 0$reach 0zqj 0zqp 3zem 0scPresserIsCounted.nd 0zib 0zij 0$_law_k 0$_law_field 0scLawExpected.nd 0$_law_head 0$_law_at 0scLawRefuses.nd !TW !N# !=tP !u5M !{9xl !~XuY !~Yxo !(! !{Auz !{Bv^ !u'xz !83 !xp= !w[{H 1zbi 5!l5 0PassesOwn.never 0zbN 2ziB 0zaS 8zg4 0$step 0$with 0$keep 0$low 2aZip 0zdp 0$ 030 1zhe 2!p2 0zbq 099 3sPar 016 012 0sBad 0$shared 0$word 0$known 0za9 0scNumberOf.nd 1zgk 0$thing 0$asked 4znx 0T.zip 0$way 0hWidths 0TC.nPresser_fresh 0hPresserFormers 0scPresserShortest.nd 2QPs.cons 0hLawValue 0scLawNoHeads.nd 0hLawTold !wZU !uZ{* !tluY !., !vaJ !tT8 !vc{? !tru} !t8& !t>xA !x6uY !x?xq !t6S !Px7 !8{J 3zaZ 2zaN 0hr.units 2zaE 0neD 0zeb 0hLawNext 0zeC 0gL1 2gT 0hLawOf 0$own 1!l1 1zd7 0zmN 0$HeadError 0$NoHead 0$NoLetter 0$NoWord 0$NoMore 1aCons_len 2zrg 0true 2zhq 0TC.nPresser_had 0TC.nPresser_base 1zcT 0zqC 0zei 0zcv 0zqD 0zjb 0$int 0$bool 5zjz 0zaQ 0$tuple 0zef 0$str 0zrA 0zdq 0zkw 01000003 0absF 0$seed 3zgh 0popM 0zkB 0zon 0gtD 026 0$whole 020 0zcr 0zey 0zbY 0zbk 0zbD 0za6 0zaM 0zaD 1sPu 0$why_not 0za1 0$0 0!l0 0$use 0zdX 0zbH 0PySem.F.plainAttrs_str 0PySem.F.slot_str_join 0PySem.F.type_str_join 0zol 0zqW 0zor 0T.str 0boot_str 0T.int 0boot_int 4zk5 7zk8 0hIsRow 0$field 0hBreadths 2ziT 1zjF 0zrc 0T.sum 0boot_sum 0hPieces 0zld 0zoa 0scFirstOther.nd 0hWidthFor 0hFormAt 0hSortWidth 0hCheckWidth 0$heads 0$many 1zjH 0zoZ 0T.min 0boot_min 0TC.nPresser_pressed 0scPresserHindrance.nd 4zeP 0hLetterSize 0scPresserIsShared.nd 0$self 0$before 0op_gt 0od_gt 0zlK 0zrd 0T.abs 0boot_abs 0zle 0zob 8!l8 0$_law_place 0$_law_breadth 0$_law_way_here 0$_law_many 0$_law_first 0$_law_step 0$_law_times ;znw 1j:= 0scLawWay.nd 0$_law_ways 0scLawRoad.nd 0scLawPact.nd 0$_law_most 0$_law_forms 0$_law_some 0$_law_value_here 0zk7 0scLawNoWords.nd 0hPresserKnown 0$_law_presser 0$_law_pact_here 0$_law_before 0$_law_thing 0$_law_deed !zkv] !ZwX !x}tq !wWzw !z~) !~Du* !;zV !{'( !AzU !{1U !+v_ !y'x2 !0, !+vz !~_{L !A{M !{S{T 1.int 0ixD 3qxi 1Or.inl 1.str 1zal 5zao 0zbj 0zas 0zaG 1zax 0_ 4zat 5zbQ 3zcX 3zaV 0.non 0zer 1.bl 1zbb 0zcb 0zbE 0zbF 0zbd 0zbU 0zfU 0zbS 0zbT 1hr.mono 5zbR 0false 0$pact 0$sent 0zak 1N0:= 7!a7 0!b4 0!b1 1.inl 0zbM 3zh6 0zbg 0zce 0zcf 0zaX 0zcQ 0T.len 0PySem.boot_len 3zcL 9zbW 5zc2 0zia 5zjU 0zd9 0zea 0zdH 1ze9 4zeM 0TC.nPresser_pact 0zj7 0isD 1zdt 0zfM 0hPresserSent 0ltD 040 0T.tuple 0boot_tuple 1Or.inr 0zpy 1tPu 0T.range 0zhr 0zmj 0zgq 0zkl 1zcy 0zgP 0aNil_len 1zdc 0zfm 0T.max 0boot_max 3zl3 0zhi 0zhj 0zcA 060 1zdn 0PySem.F.plainAttrs_list 2zho 3zgl 0T.enumerate 2zgj 1zek 0zsW 0zdK 0zdJ 0zi4 0zgG 0zcj 0zgO 0zc7 0zdM 0zc4 0revR 0zrE 0andD 0shrD 1eNot 0zbh 0zcu 0zgI 0allF 0zb7 041 063 02305843009213693951 018 2gI 3zpW 07919 0104729 048271 02305843009213693921 069621 02305843009213693907 065537 0$still 0199 0$drawn 0$abcdefghijklmnopqrstuvwxyz 0zdL 0251 01000 0999983 0ze1 039 0361 0400 0zc9 0zda 0ze2 0zfk 0zd0 0rng2 0zaR 0anyF 5zgX 1zth 0zcP 0$is_told_anew 0zaW 0$is_shared 0zbc 0$is_counted 0za3 0$count 0zjq 0zc8 0$shortest 0zaT 0$heard_of 0za4 0inD 0zbP 0zku 1isiV 0$other 0$letter 0zsO 5zrL 0zb8 0lstF 025 0zb0 0zbZ 0zfl 0zdY 3eSlA 2mkM 0zbG 0zb1 0n32r 0n32p 0zpU 5zr0 0T.reversed 0zjG 0fd_str 0op_and 0od_and 0op_shr 0od_shr 0scNumberOf 0zpm 0fd_int 3!m1 0scNumbersOf 0hNumberOf 0scWidthFor 0znf 1qe_not 0T.bool 0boot_bool 0zj5 0hIsWhole 0zng 0hIsBetween 0zrK 0zl0 0zpR 0zlZ 0zpV 0hWindowed 0zl1 0scIsHead 0scIsHead.nd 1zpp 0fd_all 0T.all 0boot_all 0hIsValue 0scExpected 0hTurned 0zpP 1znR 0zqn 0znh 0znd 0zpO 0hWidthOf 0zpS 0zpQ 0scOpened 0hNumbersOf 0hExpected 0hValueTold 0zj3 0hAround 0scDoubt 0hFirstOther 0hOpened 0scFirstOther 0zpT 0zj4 0ziK 0scLetterSize 0scLetterSize.nd 0hSizeOf 0scLetterBy 0hCheckOf 0scFormerHeads 0scFormerHeads.nd 3zrZ 0zhU 0zg1 0zfI 0hFormerHeads 0scPresserHindrance 0hPresserIsToldAnew 0hPresserIsShared 0hPresserIsCounted 0hDoubt 0zfH 0scPresserShortest 0hPresserHindrance 0scPresserIsToldAnew 0scPresserIsToldAnew.nd 0scPresserIsShared 1zpo 0fd_any 0T.any 0boot_any 9zp4 1qi_obj 0scPresserIsCounted 0scLawBox 3zr4 0QPs.nil 0!b3 0scLawNext 0PySem.F.slot_list_pop 0PySem.F.type_list_pop 0zqv 0md_pop 2zr1 5zrX 1zoO 0zrJ 0scLawValue 0scLawValue.nd 0scLawKind 9!l9 0scLawShape 0hLawKind 0scLawWay 0scLawForm 0scLawForm.nd 0hLawWay 0scLawRoad 0scLawPact 0hLawShape 0hLawForm 0hLawRoad 0ziJ 0scLawExpected 1op_inA 0od_in 0scLawNextHead 0hLawExpected 0zne 2zrV 1znv 0scLawNoHeads =zrW 6!l6 0zjI 0fd_lst 0T.list 0boot_list 0scLawNoWords 0scLawRefuses 0hLawNoHeads 7!l7 0hLawNoWords !Azh !pzm !zxx| !pzz !pz| !p{! !A{$ !zY{& !h{( !{+{, !~GuZ !~HA !~I{- !~JA !~K{. !uP{/ !p{2 !~N{3 !tL{4 !~P{5 !~QB !~R{6 !{8uQ !~T= !t2{: !~VxB !z_xm !{;J !x?{< !p{= !~[{> !{Fx| !B{K !*wX !xAy, !~ay- !~by. !~cy/ !r{O !~etQ !~f$ !$ub !w]{U !~iA !~j{V !tL{X !~lA !~m{Y !~nB !~o{Z !{]{^ !~q{_ !3tP !/zV !{bxF !{eB !y7{g".splitOn " ").toArray
  let v := fun (c : Char) => let n := c.toNat; if n > 92 then n - 36 else if n > 64 then n - 35 else if n > 34 then n - 34 else n - 33
  let rd := fun (cs : List Char) => Id.run do
    let mut o : Array Nat := #[]
    let mut p : Option Nat := none
    for c in cs do
      match p with
      | some q => o := o.push (80 + (q - 80) * 91 + v c); p := none
      | none => if v c < 80 then o := o.push (v c) else p := some (v c)
    return o.toList
  let mut td := rd (c.toList.drop 1)
  let mut o : List String := []
  while !td.isEmpty do
    let e := tb[td.head!]!
    if e.startsWith "!" then td := rd (e.toList.drop 1) ++ td.tail
    else o := e :: o; td := td.tail
  let mut st : List Lean.Term := []
  for e in o do
    let nm := ((e.drop 1).toString)
    let k := (e.toList.head!).toNat - 48
    let as := (st.take k).toArray
    st := st.drop k
    let r : Lean.Term ← (do
      if nm.endsWith ":=" then return ⟨Lean.Syntax.node .none ``Lean.Parser.Term.namedArgument #[Lean.mkAtom "(", J (nm.dropEnd 2).toString, Lean.mkAtom ":=", as[0]!, Lean.mkAtom ")"]⟩
      if nm == "_" then return ← `(_)
      if nm.startsWith "!" then
        match (nm.drop 1).toString with
        | "b0" => return ← `((by decide))
        | "b1" => return ← `((by repeat ( first | exact trivial | refine ⟨ rfl , ?_ ⟩ )))
        | "b2" => return ← `((by rfl))
        | "b3" => return ← `((by simp))
        | "b4" => return ← `((by with_unfolding_all rfl))
        | "nd" => return ← `((by decide +kernel : ($(as[0]!) : List $(J "Str")).Nodup))
        | "m0" => return ← `(have h := $(J "mkx") $(J "P") $(J "w") $(J "base") $(J "cl") $(as[0]!) $(J "F") $(J "b") $(J "m") $(as[1]!) fun $(J "cdv") $(J "A") $(J "outer") $(J "s") $(J "H") $(J "E") $(J "hr") => $(as[2]!); h)
        | "m1" => return ← `(have h := $(J "mkx") $(J "P") $(J "w") $(J "base") $(J "cl") $(as[0]!) $(J "F") $(J "b") $(J "m") $(as[1]!) fun $(J "cdv") $(J "A") $(J "outer") $(J "s") $(J "H") $(J "E") $(J "hr") => $(as[2]!); h.loc)
        | "m2" => return ← `(have h := $(J "mkm") $(J "P") $(J "w") $(J "base") $(J "cl") $(as[0]!) $(J "F") $(J "b") $(J "m") $(as[1]!) fun $(J "cdv") $(J "A") $(J "outer") $(J "s") $(J "H") $(J "E") $(J "hr") => $(as[2]!); h)
        | x => match x.toList.head! with
          | 'l' => return ← `([$as,*])
          | 'a' => return ← `(⟨$as,*⟩)
          | 'p' => if as.size == 2 then return ← `(($(as[0]!), $(as[1]!))) else return ← `(($(as[0]!), $(as[1]!), $(as[2]!)))
          | _ => if x == "f4" then return ← `(fun _ _ _ _ => $(as[0]!)) else if x == "f2" then return ← `(fun _ _ => $(as[0]!)) else if x == "f3" then return ← `(fun _ _ _ => $(as[0]!)) else return ← `(fun _ => $(as[0]!))
      let h : Lean.Term := if nm.startsWith "$" then Lean.Syntax.mkStrLit (nm.drop 1).toString else if (nm.toList.head!).isDigit then Lean.Syntax.mkNumLit nm else if nm.startsWith "." then ⟨Lean.Syntax.node .none ``Lean.Parser.Term.dotIdent #[Lean.mkAtom ".", J (nm.drop 1).toString]⟩ else J nm
      return if k == 0 then h else Lean.Syntax.mkApp h as : Lean.MacroM Lean.Term)
    st := r :: st
  `(tactic| exact $(st.head!))
local macro_rules | `(tactic| erw $s:rwRuleSeq) => `(tactic| (walk_at "w"; rw $s:rwRuleSeq))
local macro_rules | `(tactic| ac_nf) => `(tactic| walk_at "w")
set_option maxHeartbeats 16000000
noncomputable section
set_option Elab.async false
set_option linter.all false
set_option maxRecDepth 100000
namespace AutoP
theorem a0 (h:True:=by first | exact .inl rfl | exact .inr rfl | assumption):True:=h
theorem a1 (h:True:=by decide):True:=h
theorem a2 (h:True:=by intro _; rfl):True:=h
theorem a3 (h:True:=by rfl):True:=h
theorem a4 (h:True:=by with_unfolding_all rfl):True:=h
theorem a5 (h:True:=by intro _ _ z; simp [*] at z):True:=h
theorem a6 (h:True:=by decide +kernel):True:=h
theorem a7 (h:True:=by intro _ _; rfl):True:=h
theorem a8 (h:True:=by repeat first | exact aNil_len | refine aCons_len ?_):True:=h
end AutoP
namespace L2
open PySem PySem.Spec PyProof.Rows
abbrev Key:=Sum Int Str
def zms:Key->Value->Bool
 | .inl k,v=>Value.isInt k v
 | .inr x,v=>Value.isStrOf x v
def keyH (w:World):Key->Int
 | .inl k=>hashInt k
 | .inr x=>hashStr w x
theorem za8:∀ {k:Key} {v:Value},zms k v=true->(∃ i t,k=Sum.inl i/\v=Value.int i t)∨(∃ x t,k=Sum.inr x/\v=Value.str x t)
 | .inl i,v,h=>by
  obtain ⟨t,e⟩:=Value.isInt_shape (k:=i) (v:=v) h
  exact .inl ⟨i,t,rfl,e⟩
 | .inr x,v,h=>by
  obtain ⟨t,e⟩:=Value.isStrOf_shape (x:=x) (v:=v) h
  exact .inr ⟨x,t,rfl,e⟩
theorem zoE (i:Int) (t:Tok):zms (.inl i) (.int i t)=true:=by simp [zms,Value.isInt]
theorem zoD (x:Str) (t:Tok):zms (.inr x) (.str x t)=true:=by simp [zms,Value.isStrOf]
theorem key_ll (a b:Int):decide ((Sum.inl a:Key)=Sum.inl b)=(a == b):=by
 by_cases e:a=b
 ·subst e; simp
 ·have h : ¬ (Sum.inl a:Key)=Sum.inl b:=fun q=>e (Sum.inl.inj q)
  rw [decide_eq_false h]
  exact (beq_eq_false_iff_ne.mpr e).symm
theorem key_rr (a b:Str):decide ((Sum.inr a:Key)=Sum.inr b)=decide (a=b):=by
 by_cases e:a=b
 ·subst e; simp
 ·have h : ¬ (Sum.inr a:Key)=Sum.inr b:=fun q=>e (Sum.inr.inj q)
  rw [decide_eq_false h,decide_eq_false e]
theorem key_lr (a:Int) (b:Str):decide ((Sum.inl a:Key)=Sum.inr b)=false:=decide_eq_false (fun q=>nomatch q)
theorem key_rl (a:Str) (b:Int):decide ((Sum.inr a:Key)=Sum.inl b)=false:=decide_eq_false (fun q=>nomatch q)
def zbA (prog:Program) (w:World):PySem.KeyKind prog w Key where
 is:=zms
 hash:=keyH w
 inj:=fun v a b ha hb=>by
  rcases za8 ha with ⟨i,t,rfl,rfl⟩ | ⟨x,t,rfl,rfl⟩
  ·rcases za8 hb with ⟨j,u,rfl,e⟩ | ⟨y,u,rfl,e⟩
   ·injection e with e1 _; rw [e1]
   ·exact nomatch e
  ·rcases za8 hb with ⟨j,u,rfl,e⟩ | ⟨y,u,rfl,e⟩
   ·exact nomatch e
   ·injection e with e1 _; rw [e1]
 byValue:=fun k v h=>by
  rcases za8 h with ⟨i,t,rfl,rfl⟩ | ⟨x,t,rfl,rfl⟩ <;> rfl
 pyHash:=fun hv h=>by
  rcases za8 hv with ⟨i,t,rfl,rfl⟩ | ⟨x,t,rfl,rfl⟩
  ·exact wpAny_pyHash_int h
  ·exact wpAny_pyHash_str h
 eqBool:=fun hu hv h=>by
  rcases za8 hu with ⟨i,t,rfl,rfl⟩ | ⟨x,t,rfl,rfl⟩
  ·rcases za8 hv with ⟨j,u,rfl,rfl⟩ | ⟨y,u,rfl,rfl⟩
   ·rw [key_ll] at h; exact wpAny_eqBool_int h
   ·rw [key_lr] at h; exact SeqAt.EqAt.int_str i t y u _ _ _ _ h
  ·rcases za8 hv with ⟨j,u,rfl,rfl⟩ | ⟨y,u,rfl,rfl⟩
   ·rw [key_rl] at h; exact SeqAt.EqAt.str_int x t j u _ _ _ _ h
   ·rw [key_rr] at h; exact wpAny_eqBool_str h
 «strs» := fun k x t v h=>by
  rcases za8 h with ⟨i,u,rfl,e⟩ | ⟨y,u,rfl,e⟩
  ·exact nomatch e
  ·injection e with e1 _
   subst e1
   cases v <;> rfl
theorem zks (prog:Program) (w:World) (i:Int) (t:Tok):(zbA prog w).is (.inl i) (.int i t)=true:=zoE i t
theorem zkr (prog:Program) (w:World) (x:Str) (t:Tok):(zbA prog w).is (.inr x) (.str x t)=true:=zoD x t
inductive V where
 | non | bl (b:Bool) | int (i:Int) | str (x:Str) | byt (b:Array UInt8) | flt (b:UInt64) | ref (a:Addr) | ty (n:String)
 deriving DecidableEq
def RelV:V->Value->Prop
 | .non,u=>u=Value.none
 | .bl b,u=>u=Value.bool b
 | .int i,u=>∃ t,u=Value.int i t
 | .str x,u=>∃ t,u=Value.str x t
 | .byt b,u=>∃ t,u=Value.bytes b t
 | .flt b,u=>∃ t,u=Value.float b t
 | .ref a,u=>u=Value.ref a
 | .ty n,u=>u=Value.type n
abbrev Vals:List V->List Value->Prop:=Paired RelV
variable {xs:List V} {us:List Value}
theorem Vals.length (r:Vals xs us):xs.length=us.length:=Paired.length r
theorem Vals.get:∀ {xs:List V} {us:List Value} {i:Nat} {x:V},Vals xs us->xs[i]?=some x->∃ u,us[i]?=some u/\RelV x u
 | _,_,_,_,.nil,e=>by simp at e
 | _,_,0,_,.cons r _,e=>by simp at e; subst e; exact ⟨_,rfl,r⟩
 | _,_,i+1,x,.cons _ t,e=>by
  obtain ⟨u,h1,h2⟩:=Vals.get (i:=i) (x:=x) t (by simpa using e)
  exact ⟨u,by simpa using h1,h2⟩
theorem Vals.set {x:V} {u:Value} (r:RelV x u):∀ {xs:List V} {us:List Value} (i:Nat),Vals xs us->Vals (xs.set i x) (us.set i u)
 | _,_,_,.nil => .nil
 | _,_,0,.cons _ t => .cons r t
 | _,_,i+1,.cons q t => .cons q (Vals.set r i t)
theorem Vals.append:∀ {xs ys:List V} {us ws:List Value},Vals xs us->Vals ys ws->Vals (xs++ys) (us++ws)
 | _,_,_,_,.nil,s=>s
 | _,_,_,_,.cons r t,s => .cons r (Vals.append t s)
theorem Vals.take:∀ {xs:List V} {us:List Value} (n:Nat),Vals xs us->Vals (xs.take n) (us.take n)
 | _,_,0,_ => .nil
 | _,_,_+1,.nil => .nil
 | _,_,n+1,.cons r t => .cons r (Vals.take n t)
theorem Vals.drop:∀ {xs:List V} {us:List Value} (n:Nat),Vals xs us->Vals (xs.drop n) (us.drop n)
 | _,_,0,r=>r
 | _,_,_+1,.nil => .nil
 | _,_,n+1,.cons _ t=>Vals.drop n t
def RelO:Option V->Option Value->Prop
 | some v,some u=>RelV v u
 | none,none=>True
 | _,_=>False
def KV {κ : Type}:List (κ × V)->List (κ × Value)->Prop:=Paired fun (p : κ × V) (q : κ × Value)=>p.1=q.1/\RelV p.2 q.2
def kV:Key->V
 | .inl i => .int i
 | .inr x => .str x
inductive HO where
 | lst (xs:List V)
 | tup (xs:List V)
 | dK (kvs:List (Key × V)) | dT (kvs:List (List Key × V))
 | set (S:Int->Bool) (n:Nat)
 | ins (C dx:Addr) (fs:List (Str × V))
 | own (x:Addr)
 | xd (fs:List (Str × V))
 | met (f x:Addr)
 | rng (lo hi:Int)
 | frz (o:Obj) (u:HO)
 | tbl (ps:Array Value)
 | ext (φ : Heap->Prop)
abbrev Hp:=Addr->Option HO
def upd (H:Hp) (a:Addr) (o:HO):Hp:=fun b=>if b=a then some o else H b
variable {H:Hp} {a:Addr} {o:HO}
theorem zaI:upd H a o a=some o:=by unfold upd; rw [if_pos rfl]
variable {b:Addr}
theorem zav (h:b≠a):upd H a o b=H b:=by unfold upd; rw [if_neg h]
theorem ne_of {u:HO} (h:H a=some o) (h':H b=some u) (d:o≠u):a≠b:=by
 intro e; subst e; rw [h] at h'; exact d (Option.some.inj h')
theorem zaq (h:H a=some o) (h':H b=none):a≠b:=by
 intro e; subst e; rw [h] at h'; cases h'
section
variable (P:Program) (w:World)
def NoD (h:Heap) (a:Addr):Prop:=∃ o,h.get? a=some o/\o.dict=none
def ObjOk (H:Hp) (h:Heap) (a:Addr):HO->Prop
 | .lst xs=>xs.length<=sizeLine/\∃ (its:List Value) (n:Nat),Vals xs its/\h.get? a=some { cls := .type "list", data := .seq its.toArray n }
 | .tup xs=>xs.length<=sizeLine/\∃ its:List Value,Vals xs its/\IsTup h a its.toArray/\NoD h a
 | .dK kvs=>kvs.length<=sizeLine/\(a == sysModules)=false/\∃ vs,KV kvs vs/\h.DictOf (zbA P w) a vs
 | .dT kvs=>kvs.length<=sizeLine/\(a == sysModules)=false/\∃ xs:List (List Key × Addr × Value),
   Paired (fun (p:List Key × V) (q:List Key × Addr × Value)=>p.1=q.1/\H q.2.1=some (.tup (p.1.map kV))/\RelV p.2 q.2.2) kvs xs ∧
   ∃ o es ep,h.get? a=some o/\o.ExactDict/\o.data = .dict es ep/\es.toList=xs.map (entryOfKey (tupleKind (zbA P w)))/\(xs.map (·.1)).Nodup
 | .set S n=>h.SetOf (intKind P w) a S n
 | .ins C dx fs=>H dx=some (.own a)/\fs.length<=1000/\dx≠a/\h.get? a=some (PySem.W.instObj C dx) ∧
   ∃ mA,h.Ns1 dx mA/\(∀ f,RelO (fs.lookup f) (mA f))/\PySem.Within mA (fs.map (·.1))
 | .own _=>∃ o,h.get? a=some o
 | .xd fs=>∃ mA,h.Ns1 a mA/\∀ f,RelO (fs.lookup f) (mA f)
 | .rng lo hi=>∃ t u v,h.get? a=some { cls := .type "range", data := .fields #[.int lo t,.int hi u,.int 1 v] }
 | .frz o u=>h.get? a=some o/\ObjOk H h a u
 | .tbl ps=>h.get? a=some { cls := .none,data := .fields ps }
 | .met f x=>h.get? a=some (PySem.W.methodObj (.ref f) (.ref x))
 | .ext φ => φ h/\(∃ o,h.get? a=some o)/\∀ h1 h2:Heap,φ h1->(∀ o,h1.get? a=some o->h2.get? a=some o) -> φ h2
def HOk (H:Hp) (h:Heap):Prop:=∀ a o,H a=some o->ObjOk P w H h a o
end
variable {P:Program} {H':Hp} {h h':Heap}
section
variable {w:World}
theorem ObjOk.lt (x:ObjOk P w H h a o):a < h.objs.size:=by
 cases o with
 | lst xs=>obtain ⟨_,_,_,_,e⟩:=x; exact Heap.lt_size e
 | tup xs=>obtain ⟨_,_,_,p,_⟩:=x; exact p.lt
 | dK kvs=>obtain ⟨_,_,_,_,o,_,_,e,_⟩:=x; exact Heap.lt_size e
 | dT kvs=>obtain ⟨_,_,_,_,o,_,_,e,_⟩:=x; exact Heap.lt_size e
 | set S n=>obtain ⟨o,_,_,_,e,_⟩:=x; exact Heap.lt_size e
 | ins C dx fs=>obtain ⟨_,_,_,e,_⟩:=x; exact Heap.lt_size e
 | own y=>obtain ⟨_,e⟩:=x; exact Heap.lt_size e
 | xd fs=>obtain ⟨_,⟨_,_,_,e,_⟩,_⟩:=x; exact Heap.lt_size e
 | rng lo hi=>obtain ⟨_,_,_,e⟩:=x; exact Heap.lt_size e
 | frz ob u=>obtain ⟨e,_⟩:=x; exact Heap.lt_size e
 | tbl ps=>exact Heap.lt_size (show h.get? a=some _ from x)
 | met f y=>exact Heap.lt_size (show h.get? a=some _ from x)
 | ext φ => obtain ⟨_,⟨_,e⟩,_⟩:=x; exact Heap.lt_size e
theorem Paired.mapP {α β : Type} {F G:α -> β -> Prop}:∀ {l₁ : List α} {l₂ : List β},Paired F l₁ l₂ -> (∀ a b,F a b->G a b)->Paired G l₁ l₂
 | _,_,.nil,_ => .nil
 | _,_,.cons r t,f => .cons (f _ _ r) (Paired.mapP t f)
theorem ObjOk.stay (x:ObjOk P w H h a o) (k:∀ b u,(b=a∨H b=some (.own a))->h.get? b=some u->h'.get? b=some u)
  (ho:∀ b,H b=some (.own a)->H' b=some (.own a)) (ht:∀ b xs,H b=some (.tup xs)->H' b=some (.tup xs)):ObjOk P w H' h' a o:=by
 induction o with
 | lst xs=>obtain ⟨z,its,n,r,e⟩:=x; exact ⟨z,its,n,r,k _ _ (.inl rfl) e⟩
 | tup xs=>obtain ⟨z,its,r,⟨ob,e,c⟩,od,ed,dn⟩:=x; exact ⟨z,its,r,⟨ob,k _ _ (.inl rfl) e,c⟩,od,k _ _ (.inl rfl) ed,dn⟩
 | dK kvs=>obtain ⟨z,y,vs,r,ob,es,ep,e,c⟩:=x; exact ⟨z,y,vs,r,ob,es,ep,k _ _ (.inl rfl) e,c⟩
 | dT kvs =>
  obtain ⟨z,y,xs,r,ob,es,ep,e,c⟩:=x
  exact ⟨z,y,xs,Paired.mapP r fun p q z=>⟨z.1,ht _ _ z.2.1,z.2.2⟩,ob,es,ep,k _ _ (.inl rfl) e,c⟩
 | set S n=>obtain ⟨ob,es,ep,t,e,c⟩:=x; exact ⟨ob,es,ep,t,k _ _ (.inl rfl) e,c⟩
 | ins C dx fs =>
  obtain ⟨d,z,ne,e,mA,⟨od,es,ep,e2,c⟩,r⟩:=x
  exact ⟨ho _ d,z,ne,k _ _ (.inl rfl) e,mA,⟨od,es,ep,k _ _ (.inr d) e2,c⟩,r⟩
 | own y=>obtain ⟨ob,e⟩:=x; exact ⟨ob,k _ _ (.inl rfl) e⟩
 | xd fs=>obtain ⟨mA,⟨od,es,ep,e,c⟩,r⟩:=x; exact ⟨mA,⟨od,es,ep,k _ _ (.inl rfl) e,c⟩,r⟩
 | rng lo hi=>obtain ⟨t,u,v,e⟩:=x; exact ⟨t,u,v,k _ _ (.inl rfl) e⟩
 | frz ob u ih=>obtain ⟨e,q⟩:=x; exact ⟨k _ _ (.inl rfl) e,ih q⟩
 | tbl ps =>
  have e:h.get? a=some { cls := .none,data := .fields ps }:=x
  show h'.get? a=some { cls := .none,data := .fields ps }
  exact k a _ (.inl rfl) e
 | met f y =>
  have e:h.get? a=some (PySem.W.methodObj (.ref f) (.ref y)):=x
  show h'.get? a=some (PySem.W.methodObj (.ref f) (.ref y))
  exact k a _ (.inl rfl) e
 | ext φ => obtain ⟨p,⟨o,e⟩,st⟩:=x; exact ⟨st _ _ p fun o q=>k _ _ (.inl rfl) q,⟨o,k _ _ (.inl rfl) e⟩,st⟩
theorem HOk.lt (x:HOk P w H h) (e:H a=some o):a < h.objs.size:=(x a o e).lt
theorem HOk.fresh (x:HOk P w H h) (e:h.objs.size<=a):H a=none:=by
 cases q:H a with
 | none=>rfl
 | some u=>exact absurd (Nat.lt_of_lt_of_le (x.lt q) e) (Nat.lt_irrefl _)
theorem HOk.kept (x:HOk P w H h) (k:∀ b u,h.get? b=some u->h'.get? b=some u):HOk P w H h':=fun a o e =>
 (x a o e).stay (fun b u _ q=>k b u q) (fun _ q=>q) fun _ _ q=>q
theorem HOk.laid (x:HOk P w H h) (k:∀ b u,h.get? b=some u->h'.get? b=some u) (hp:h.objs.size<=a) (new:ObjOk P w (upd H a o) h' a o):HOk P w (upd H a o) h':=fun b u e=>by
 have hn:=x.fresh hp
 by_cases hb:b=a
 ·subst hb; rw [zaI] at e; cases e; exact new
 ·rw [zav hb] at e
  exact (x b u e).stay (fun c v _ q=>k c v q) (fun c q=>by rw [zav (zaq q hn)]; exact q) fun c xs q=>by rw [zav (zaq q hn)]; exact q
end
def Rd (H:Hp) (a:Addr) (u:HO):Prop:=H a=some u∨∃ o,H a=some (.frz o u)
theorem Rd.ok {w:World} {u:HO} (r:Rd H a u) (x:HOk P w H h):ObjOk P w H h a u:=by
 rcases r with r | ⟨o,r⟩
 ·exact x a u r
 ·obtain ⟨_,q⟩:=x a _ r
  exact q
def Mut:Option HO->Prop
 | some (.lst _)=>True
 | some (.dK _)=>True
 | some (.dT _)=>True
 | some (.set _ _)=>True
 | some (.ins _ _ _)=>True
 | some (.ext _)=>True
 | _=>False
section
variable {w:World} {x e:Addr} {o':HO}
theorem HOk.write (ok:HOk P w H h) (mu:Mut (H x)) (he:e=x∨H e=some (.own x)) (k:∀ b u,b≠e->h.get? b=some u->h'.get? b=some u) (heo:∃ u,h'.get? e=some u)
  (new:ObjOk P w (upd H x o') h' x o'):HOk P w (upd H x o') h':=fun b u q=>by
 have nown:∀ c y,H c=some (.own y)->c≠x:=fun c y r z=>by subst z; rw [r] at mu; exact mu
 have ntup:∀ c xs,H c=some (.tup xs)->c≠x:=fun c xs r z=>by subst z; rw [r] at mu; exact mu
 by_cases hb:b=x
 ·subst hb; rw [zaI] at q; cases q; exact new
 ·rw [zav hb] at q
  by_cases hbe:b=e
  ·have q':H b=some (.own x):=by
    rcases he with z | z
    ·exact absurd (hbe.trans z) hb
    ·rw [hbe]; exact z
   rw [q] at q'; cases q'
   obtain ⟨v,hv⟩:=heo
   exact ⟨v,by rw [hbe]; exact hv⟩
  ·refine (ok b u q).stay (fun c v hc r=>k c v ?_ r) (fun c r=>by rw [zav (nown c b r)]; exact r) fun c xs r=>by rw [zav (ntup c xs r)]; exact r
   rcases hc with rfl | hc
   ·exact hbe
   ·rintro rfl
    rcases he with z | z
    ·exact nown c b hc z
    ·rw [hc] at z; cases z; exact hb rfl
end
structure Un (fs ex:List Addr) (H H':Hp) (h h':Heap):Prop where
 keep:∀ b o,h.get? b=some o->H b=none->b ∉ fs->b ∉ ex->h'.get? b=some o
 slot:∀ b o,h.get? b=some o->H b=none->b∈fs->b ∉ ex->∃ sl,h'.get? b=some { o with slots:=sl }
 free:∀ b o,h.get? b=some o->H b=none->b ∉ ex->H' b=none
 there:∀ b o,h.get? b=some o->b ∉ ex->∃ o',h'.get? b=some o'
 tups:∀ b xs,H b=some (.tup xs)->H' b=some (.tup xs)
 frzs:∀ b o u,H b=some (.frz o u)->H' b=some (.frz o u)
 tbls:∀ b ps,H b=some (.tbl ps)->∃ more,H' b=some (.tbl (ps++more))
section
variable {fs fs' ex ex':List Addr} {H1 H2:Hp} {h1 h2:Heap} {x e:Addr}
theorem Un.any (u:Un fs ex H H1 h h1) {ob:Obj} (q:h.get? b=some ob) (n:H b=none) (hx:b ∉ ex):∃ sl,h1.get? b=some { ob with slots:=sl }:=by
 by_cases hb:b∈fs
 ·exact u.slot b ob q n hb hx
 ·exact ⟨ob.slots,u.keep b ob q n hb hx⟩
theorem Un.kept (k:∀ b u,h.get? b=some u->h'.get? b=some u):Un fs ex H H h h' :=
 ⟨fun b ob q _ _ _=>k b ob q,fun b ob q _ _ _=>⟨ob.slots,k b ob q⟩,fun _ _ _ n _=>n,fun b ob q _=>⟨ob,k b ob q⟩,fun _ _ q=>q,fun _ _ _ q=>q,fun _ ps q=>⟨#[],by rw [q]; simp⟩⟩
theorem Un.refl:Un fs ex H H h h:=Un.kept fun _ _ q=>q
theorem Un.laid (k:∀ b u,h.get? b=some u->h'.get? b=some u) (hp:h.objs.size<=a) (hn:H a=none):Un fs ex H (upd H a o) h h' where
 keep:=fun b u q _ _ _=>k b u q
 slot:=fun b u q _ _ _=>⟨u.slots,k b u q⟩
 free:=fun b u q n _=>by rw [zav (Nat.ne_of_lt (Nat.lt_of_lt_of_le (Heap.lt_size q) hp))]; exact n
 there:=fun b u q _=>⟨u,k b u q⟩
 tups:=fun b xs q=>by rw [zav (zaq q hn)]; exact q
 frzs:=fun b u xs q=>by rw [zav (zaq q hn)]; exact q
 tbls:=fun b ps q=>⟨#[],by rw [zav (zaq q hn),q]; simp⟩
theorem Un.write (mu:Mut (H x)) (he:e=x∨H e=some (.own x)) (k:∀ b u,b≠e->h.get? b=some u->h'.get? b=some u) (heo:∃ u,h'.get? e=some u):Un fs ex H (upd H x o) h h':=by
 have hx:∀ b,H b=none->b≠x:=fun b n z=>by subst z; rw [n] at mu; exact mu
 have hb:∀ b,H b=none->b≠e:=fun b n z=>by
  subst z
  rcases he with r | r
  ·exact hx b n r
  ·rw [n] at r; cases r
 have hm:∀ b u,H b=some u -> ¬ Mut (some u)->b≠x:=fun b u q nm z=>by subst z; rw [q] at mu; exact nm mu
 refine ⟨fun b u q n _ _=>k b u (hb b n) q,fun b u q n _ _=>⟨u.slots,k b u (hb b n) q⟩,fun b u q n _=>by rw [zav (hx b n)]; exact n,fun b u q _=>?_,
  fun b xs q=>by rw [zav (hm b _ q fun z=>z)]; exact q,fun b u xs q=>by rw [zav (hm b _ q fun z=>z)]; exact q,fun b ps q=>⟨#[],by rw [zav (hm b _ q fun z=>z),q]; simp⟩⟩
 by_cases hbe:b=e
 ·subst hbe; exact heo
 ·exact ⟨u,k b u hbe q⟩
end
def trk (h:Heap) (H:Hp):List Addr:=(List.range h.objs.size).filter fun a=>(H a).isSome
def zqF (h:Heap) (H:Hp):Heap:=PySem.W.hideAll h (trk h H)
theorem zoP (h:Heap) (H:Hp):(zqF h H).objs.size=h.objs.size:=PySem.W.hideAll_size _ _
theorem zqE {o:Obj} (e:h.get? b=some o) (n:H b=none):(zqF h H).get? b=some o :=
 PySem.W.hideAll_get _ e fun hm=>by
  have q:(H b).isSome=true:=(List.mem_filter.mp hm).2
  rw [n] at q; simp at q
theorem zsE {o:Obj} (e:(zqF h H).get? b=some o):h.get? b=some o/\H b=none:=by
 have e':h.get? b=some o:=PySem.W.of_hideAll (trk h H) e
 refine ⟨e',?_⟩
 cases q:H b with
 | none=>rfl
 | some x =>
  have hm:b∈trk h H:=List.mem_filter.mpr ⟨List.mem_range.mpr (Heap.lt_size e'),by simp [q]⟩
  have z:(zqF h H).get? b=none:=PySem.W.hideAll_none (trk h H) hm
  rw [z] at e; cases e
structure Mod (K:PySem.W.Frag) (mg:Str->Option Value) (base:Heap):Prop where
 kin:K.In base
 glob:base.Ns mainGlobals mg
 blt:∃ mb,base.Ns builtinsNs mb/\∀ x:Str,x ≠ "__name__" -> mb x=bootBuiltins x
 nolimit:base.NoLimit
structure Cx where
 prog:Program
 w:World
 K:PySem.W.Frag
 mg:Str->Option Value
 base:Heap
 A:Around
 N:List Str
 s₀ : Shared
 H₀ : Hp
 env:Env
 outer:List Env
 stack:List Env
 ex:List Addr
 fn:Str->Bool
 calm:Bool
 pn:List (Addr × Obj)
 xe:Value->Shared->Prop
def frs (l:List Env):List Addr:=l.filterMap (·.frame)
abbrev Cx.fs (X:Cx):List Addr:=frs X.outer
def Vis (sc:Scope) (x:Str):Prop:=sc.names.lookup x=some .local∨sc.names.lookup x=some .cell∨sc.names.lookup x=some .free
def Loc (sc:Scope) (x:Str):Prop:=sc.names.lookup x=some .local∨sc.names.lookup x=some .cell
def Look (env:Env) (h:Heap) (m:Str->Option Value) (x:Str) (u:Value):Prop :=
 (env.kindOf x=some .local/\m x=some u)∨((env.kindOf x=some .cell∨env.kindOf x=some .free)/\∃ c,env.cells.lookup x=some c/\h.IsCell c (some u))
structure Cx.Ok (X:Cx):Prop where
 mod:Mod X.K X.mg X.base
 kind:X.env.scope.kind = .function
 glob:X.env.globals=mainGlobals
 blt:X.env.builtins=builtinsNs
 above:X.s₀.heap.objs.size<=X.env.locals
 inj:∀ x y c,X.env.cells.lookup x=some c->X.env.cells.lookup y=some c->x=y
 has:∀ x,(X.env.kindOf x=some .cell∨X.env.kindOf x=some .free)->∃ c,X.env.cells.lookup x=some c
 cab:∀ x c,X.fn x=true->X.env.cells.lookup x=some c->X.s₀.heap.objs.size<=c
 hd:X.calm=true->X.A.handled=none
 frames:X.A.frames=some X.stack
 stk:X.stack=X.outer∨(X.stack=X.env::X.outer/\X.env.frame=some X.env.locals)
 exf:∀ b∈X.ex,b≠X.env.locals/\∀ x c,X.env.cells.lookup x=some c->c≠b
 bs:∀ b o,X.base.get? b=some o->X.s₀.heap.get? b=some o/\X.H₀ b=none
 bsz:X.base.objs.size<=X.s₀.heap.objs.size
 noex:∀ b o,X.base.get? b=some o->b ∉ X.ex
 exfs:∀ b∈X.ex,b ∉ X.fs
 funs:X.s₀.heap.FunFrames X.base X.outer
 frf:∀ b∈X.fs,X.H₀ b=none
structure Inv (X:Cx) (pins:List (Addr × Obj)) (σ : List (Option V)) (H:Hp) (s:Shared):Prop where
 ok:X.Ok
 os:s.os=X.s₀.os
 bare:AllBare s.gens
 base:Un X.fs X.ex X.H₀ H X.s₀.heap s.heap
 loc:∃ m,s.heap.Ns X.env.locals m/\∀ (i:Nat) (x:Str) (v:V),X.N[i]?=some x->σ[i]?=some (some v)->Vis X.env.scope x->∃ u,RelV v u/\Look X.env s.heap m x u
 cell:∀ x c,X.env.cells.lookup x=some c->∃ v,s.heap.IsCell c v
 free:H X.env.locals=none
 freeC:∀ x c,X.env.cells.lookup x=some c->H c=none
 pin:∀ p∈X.pn++pins,s.heap.get? p.1=some p.2/\H p.1=none/\p.1≠X.env.locals/\p.1 ∉ X.fs/\∀ v,p.2.data ≠ .cell v
 hok:HOk X.prog X.w H s.heap
 len:σ.length=X.N.length
variable {u:Value} {x:Str} {X:Cx} {pins:List (Addr × Obj)} {s:Shared} {g':Array GenState} {t':Nat} {d':Drawn} {ch:List Addr} {it:Addr} {N:List Str} {i j:Nat} {M:Model} {A:Around} {E:Value->Shared->Prop} {v:V} {s':Shared}
section
variable {σ : List (Option V)}
theorem Cx.Ok.nofr (ok:X.Ok) {o:Obj} (e:X.base.get? b=some o):b ∉ X.fs:=fun hb=>by
 have:=(ok.funs.mem hb).1
 rw [e] at this; cases this
theorem Inv.bs (I:Inv X pins σ H s):∀ b o,X.base.get? b=some o->s.heap.get? b=some o/\H b=none:=fun b o e =>
 ⟨I.base.keep b o (I.ok.bs b o e).1 (I.ok.bs b o e).2 (I.ok.nofr e) (I.ok.noex b o e),I.base.free b o (I.ok.bs b o e).1 (I.ok.bs b o e).2 (I.ok.noex b o e)⟩
theorem Inv.bk (I:Inv X pins σ H s):∀ b o,X.base.get? b=some o->s.heap.get? b=some o:=fun b o e=>(I.bs b o e).1
theorem Inv.mod (I:Inv X pins σ H s):Mod X.K X.mg X.base:=I.ok.mod
theorem Inv.kIn (I:Inv X pins σ H s):X.K.In s.heap:=I.ok.mod.kin.keeps I.bk
theorem Inv.lt (I:Inv X pins σ H s):X.env.locals < s.heap.objs.size:=let ⟨_,hn,_⟩:=I.loc; hn.lt
theorem Inv.sz (I:Inv X pins σ H s):X.s₀.heap.objs.size<=s.heap.objs.size:=Nat.le_trans I.ok.above (Nat.le_of_lt I.lt)
theorem Inv.nofs (I:Inv X pins σ H s) (h:s.heap.objs.size<=a):a ∉ X.fs:=fun hb=>by
 obtain ⟨_,o,ho,_⟩:=I.ok.funs.mem hb
 exact absurd (Nat.lt_of_lt_of_le (Heap.lt_size ho) (Nat.le_trans I.sz h)) (Nat.lt_irrefl _)
theorem Inv.cne (I:Inv X pins σ H s):∀ x c,X.env.cells.lookup x=some c->c≠X.env.locals:=fun x c e z=>by
 obtain ⟨v,o,ho,hd⟩:=I.cell x c e
 obtain ⟨m,⟨o',es,ep,ho',hd',_⟩,_⟩:=I.loc
 rw [z,ho'] at ho; cases ho; rw [hd'] at hd; cases hd
theorem Inv.funs (I:Inv X pins σ H s):s.heap.FunFrames X.base X.outer:=by
 have all:∀ (l:List Env),(∀ b∈frs l,b∈X.fs)->X.s₀.heap.FunFrames X.base l->s.heap.FunFrames X.base l:=by
  intro l
  induction l with
  | nil=>intro _ _; trivial
  | cons env r ih =>
   intro hs hl
   obtain ⟨hk,⟨L,o,hf,hn,ho,hd⟩,hr⟩:=hl
   have hL:L∈X.fs:=hs L (by unfold frs; rw [List.filterMap_cons,hf]; exact List.mem_cons_self)
   obtain ⟨sl,e⟩:=I.base.slot L o ho (I.ok.frf L hL) hL fun z=>I.ok.exfs L z hL
   exact ⟨hk,⟨L,_,hf,hn,e,hd⟩,ih (fun b hb=>hs b (by unfold frs; rw [List.filterMap_cons,hf]; exact List.mem_cons_of_mem _ hb)) hr⟩
 exact all X.outer (fun _ hb=>hb) I.ok.funs
theorem Inv.stack (I:Inv X pins σ H s):s.heap.FunFrames X.base X.stack:=by
 rcases I.ok.stk with e | ⟨e,hf⟩
 ·rw [e]; exact I.funs
 ·rw [e]
  obtain ⟨m,hn,_⟩:=I.loc
  refine .cons (by rw [I.ok.kind]; decide) hf hn ?_ I.funs
  exact Heap.get?_none_of_le (Nat.le_trans I.ok.bsz I.ok.above)
theorem Inv.stkSub (I:Inv X pins σ H s):∀ b∈frs X.stack,b∈X.env.locals::X.fs:=fun b hb=>by
 rcases I.ok.stk with e | ⟨e,hf⟩
 ·rw [e] at hb; exact List.mem_cons_of_mem _ hb
 ·rw [e] at hb
  unfold frs at hb
  rw [List.filterMap_cons,hf] at hb
  exact hb
theorem Inv.stkFree (I:Inv X pins σ H s):∀ b∈frs X.stack,H b=none:=fun b hb=>by
 rcases List.mem_cons.mp (I.stkSub b hb) with e | hb
 ·rw [e]; exact I.free
 ·obtain ⟨_,o,ho,_⟩:=I.ok.funs.mem hb
  exact I.base.free b o ho (I.ok.frf b hb) fun z=>I.ok.exfs b z hb
theorem Inv.step (I:Inv X pins σ H s)
  (hch:∀ b∈ch,(b∈X.ex∨X.s₀.heap.objs.size<=b)/\b≠X.env.locals/\(∀ x c,X.env.cells.lookup x=some c->c≠b)/\∀ p∈X.pn++pins,p.1≠b)
  (keep:∀ b o,b≠X.env.locals->b ∉ X.fs->b ∉ ch->s.heap.get? b=some o->H b=none->h'.get? b=some o)
  (slot:∀ b o,b≠X.env.locals->b∈X.fs->b ∉ ch->s.heap.get? b=some o->H b=none->∃ sl,h'.get? b=some { o with slots:=sl }) (free:∀ b o,b ∉ ch->s.heap.get? b=some o->H b=none->H' b=none)
  (there:∀ b o,b ∉ ch->s.heap.get? b=some o->∃ o',h'.get? b=some o')
  (tups:∀ b xs,H b=some (.tup xs)->H' b=some (.tup xs)) (frzs:∀ b o u,H b=some (.frz o u)->H' b=some (.frz o u)) (tbls:∀ b ps,H b=some (.tbl ps)->∃ more,H' b=some (.tbl (ps++more)))
  (ns:∀ m,s.heap.Ns X.env.locals m->h'.Ns X.env.locals m) (hok:HOk X.prog X.w H' h') (hg:AllBare g') :
  Inv X pins σ H' { s with heap:=h',gens:=g',drawn:=d',toks:=t' }:=by
 have neL:∀ b o,X.s₀.heap.get? b=some o->b≠X.env.locals:=fun b o e=>Nat.ne_of_lt (Nat.lt_of_lt_of_le (Heap.lt_size e) I.ok.above)
 have neC:∀ b o,X.s₀.heap.get? b=some o->b ∉ X.ex->b ∉ ch:=fun b o e hx hb=>by
  rcases (hch b hb).1 with z | z
  ·exact hx z
  ·exact absurd (Nat.lt_of_lt_of_le (Heap.lt_size e) z) (Nat.lt_irrefl _)
 have cellK:∀ x c,X.env.cells.lookup x=some c->∀ v,s.heap.IsCell c v->h'.IsCell c v:=fun x c e v ⟨o,ho,hd⟩=>by
  have nch:c ∉ ch:=fun z=>(hch c z).2.2.1 x c e rfl
  by_cases hc:c∈X.fs
  ·obtain ⟨sl,q⟩:=slot c o (I.cne x c e) hc nch ho (I.freeC x c e)
   exact ⟨_,q,hd⟩
  ·exact ⟨o,keep c o (I.cne x c e) hc nch ho (I.freeC x c e),hd⟩
 refine ⟨I.ok,I.os,hg,⟨fun b o e n hb hx=>?_,fun b o e n hb hx=>?_,fun b o e n hx=>?_,fun b o e hx=>?_,fun b xs e=>tups b xs (I.base.tups b xs e),fun b o xs e=>frzs b o xs (I.base.frzs b o xs e),fun b ps e=>?_⟩,?_,fun x c e=>?_,?_,fun x c e=>?_,fun p hp=>?_,hok,I.len⟩
 ·exact keep b o (neL b o e) hb (neC b o e hx) (I.base.keep b o e n hb hx) (I.base.free b o e n hx)
 ·obtain ⟨sl,e1⟩:=I.base.slot b o e n hb hx
  obtain ⟨sl',e2⟩:=slot b _ (neL b o e) hb (neC b o e hx) e1 (I.base.free b o e n hx)
  exact ⟨sl',e2⟩
 ·obtain ⟨o',e1⟩:=I.base.there b o e hx
  exact free b o' (neC b o e hx) e1 (I.base.free b o e n hx)
 ·obtain ⟨o',e1⟩:=I.base.there b o e hx
  exact there b o' (neC b o e hx) e1
 ·obtain ⟨m1,e1⟩:=I.base.tbls b ps e
  obtain ⟨m2,e2⟩:=tbls b _ e1
  exact ⟨m1++m2,by rw [e2,Array.append_assoc]⟩
 ·obtain ⟨m,hn,hl⟩:=I.loc
  refine ⟨m,ns m hn,fun i x v e1 e2 e3=>?_⟩
  obtain ⟨u,r,l⟩:=hl i x v e1 e2 e3
  refine ⟨u,r,?_⟩
  rcases l with l | ⟨k,c,e,z⟩
  ·exact .inl l
  ·exact .inr ⟨k,c,e,cellK x c e _ z⟩
 ·obtain ⟨v,z⟩:=I.cell x c e
  exact ⟨v,cellK x c e v z⟩
 ·obtain ⟨m,⟨o,_,_,ho,_⟩,_⟩:=I.loc
  exact free _ o (fun z=>(hch _ z).2.1 rfl) ho I.free
 ·obtain ⟨v,o,ho,hd⟩:=I.cell x c e
  exact free c o (fun z=>(hch c z).2.2.1 x c e rfl) ho (I.freeC x c e)
 ·obtain ⟨e,n,ne,nf,d⟩:=I.pin p hp
  have nch:p.1 ∉ ch:=fun z=>(hch p.1 z).2.2.2 p hp rfl
  exact ⟨keep p.1 p.2 ne nf nch e n,free p.1 p.2 nch e n,ne,nf,d⟩
theorem Inv.un (I:Inv X pins σ H s) (u:Un X.fs [] H H' s.heap h') (hok:HOk X.prog X.w H' h'):Inv X pins σ H' { s with heap:=h',toks:=t' }:=by
 obtain ⟨m,⟨o,es,ep,ho,r⟩,_⟩:=id I.loc
 obtain ⟨sl,hL⟩:=u.any ho I.free (by simp)
 exact I.step (g':=s.gens) (d':=s.drawn) (ch:=[]) (fun _ z=>nomatch z) (fun b o _ hb _ e n=>u.keep b o e n hb (by simp)) (fun b o _ hb _ e n=>u.slot b o e n hb (by simp)) (fun b o _ e n=>u.free b o e n (by simp)) (fun b o _ e=>u.there b o e (by simp)) u.tups u.frzs u.tbls (fun m' hm=>by
  obtain ⟨o',es',ep',ho',r'⟩:=hm
  rw [ho] at ho'; cases ho'
  exact ⟨_,es',ep',hL,r'⟩) hok I.bare
theorem Inv.call (I:Inv X pins σ H s) (u:Un (frs X.stack) ch H H' s.heap h') (hok:HOk X.prog X.w H' h') (hg:AllBare g')
  (hch:∀ b∈ch,(b∈X.ex∨X.s₀.heap.objs.size<=b)/\b≠X.env.locals/\(∀ x c,X.env.cells.lookup x=some c->c≠b)/\∀ p∈X.pn++pins,p.1≠b) :
  Inv X pins σ H' { s with heap:=h',gens:=g',drawn:=d',toks:=t' }:=by
 obtain ⟨m,⟨o,es,ep,ho,r⟩,_⟩:=id I.loc
 obtain ⟨sl,hL⟩:=u.any ho I.free fun z=>(hch _ z).2.1 rfl
 exact I.step (ch:=ch) hch (fun b o hL hb hc e n=>u.keep b o e n (fun z=>(List.mem_cons.mp (I.stkSub b z)).elim hL hb) hc) (fun b o _ _ hc e n=>u.any e n hc) (fun b o hc e n=>u.free b o e n hc) (fun b o hc e=>u.there b o e hc) u.tups u.frzs u.tbls (fun m' hm=>by
  obtain ⟨o',es',ep',ho',r'⟩:=hm
  rw [ho] at ho'; cases ho'
  exact ⟨_,es',ep',hL,r'⟩) hok hg
theorem Inv.turned (I:Inv X pins σ H s) (k:∀ b o,b≠it->s.heap.get? b=some o->h'.get? b=some o) (hn:H it=none) (hL:it≠X.env.locals)
  (h1:it∈X.ex∨X.s₀.heap.objs.size<=it) (h2:∀ x c,X.env.cells.lookup x=some c->c≠it) (h3:∀ p∈X.pn++pins,p.1≠it):Inv X pins σ H { s with heap:=h',toks:=t' }:=by
 have nit:∀ b u,H b=some u->b≠it:=fun b u e z=>by rw [z,hn] at e; cases e
 refine I.step (g':=s.gens) (d':=s.drawn) (ch:=[it]) (fun b hb=>?_) (fun b o _ _ hc e _=>k b o (fun z=>hc (by simp [z])) e) (fun b o _ _ hc e _=>⟨o.slots,k b o (fun z=>hc (by simp [z])) e⟩) (fun _ _ _ _ n=>n)
  (fun b o hc e=>⟨o,k b o (fun z=>hc (by simp [z])) e⟩) (fun _ _ e=>e) (fun _ _ _ e=>e) (fun b ps e=>⟨#[],by rw [e]; simp⟩) (fun m hm=>?_) (fun b u e=>?_) I.bare
 ·have e:b=it:=by simpa using hb
  subst e
  exact ⟨h1,hL,h2,h3⟩
 ·obtain ⟨o,es,ep,ho,r⟩:=hm
  exact ⟨o,es,ep,k _ o (Ne.symm hL) ho,r⟩
 ·refine (I.hok b u e).stay (fun c v hc q=>k c v ?_ q) (fun _ q=>q) fun _ _ q=>q
  rcases hc with z | z
  ·rw [z]; exact nit b u e
  ·exact nit c _ z
theorem Inv.tok (I:Inv X pins σ H s) (t:Nat):Inv X pins σ H { s with toks:=t }:=I.un (h':=s.heap) (t':=t) Un.refl I.hok
theorem Inv.kept (I:Inv X pins σ H s) (k:∀ b u,s.heap.get? b=some u->h'.get? b=some u):Inv X pins σ H { s with heap:=h',toks:=t' }:=I.un (Un.kept k) (I.hok.kept k)
theorem Inv.laid (I:Inv X pins σ H s) (k:∀ b u,s.heap.get? b=some u->h'.get? b=some u) (hp:s.heap.objs.size<=a) (new:ObjOk X.prog X.w (upd H a o) h' a o) :
  Inv X pins σ (upd H a o) { s with heap:=h',toks:=t' }:=I.un (Un.laid k hp (I.hok.fresh hp)) (I.hok.laid k hp new)
theorem Inv.write {x e:Addr} (I:Inv X pins σ H s) (mu:Mut (H x)) (he:e=x∨H e=some (.own x)) (k:∀ b u,b≠e->s.heap.get? b=some u->h'.get? b=some u) (heo:∃ u,h'.get? e=some u)
  (new:ObjOk X.prog X.w (upd H x o) h' x o):Inv X pins σ (upd H x o) { s with heap:=h',toks:=t' }:=I.un (Un.write mu he k heo) (I.hok.write mu he k heo new)
theorem Inv.pins_of {pins':List (Addr × Obj)} (I:Inv X pins σ H s) (h:∀ p∈pins',s.heap.get? p.1=some p.2/\H p.1=none/\p.1≠X.env.locals/\p.1 ∉ X.fs/\∀ v,p.2.data ≠ .cell v):Inv X pins' σ H s :=
 ⟨I.ok,I.os,I.bare,I.base,I.loc,I.cell,I.free,I.freeC,fun p hp=>(List.mem_append.mp hp).elim (fun z=>I.pin p (List.mem_append_left _ z)) (h p),I.hok,I.len⟩
theorem zik (hN:N.Nodup) (a:N[i]?=some x) (b:N[j]?=some x):i=j:=by
 obtain ⟨h1,e1⟩:=List.getElem?_eq_some_iff.mp a
 obtain ⟨h2,e2⟩:=List.getElem?_eq_some_iff.mp b
 exact (List.getElem_inj hN).mp (e1.trans e2.symm)
theorem zm4 {Q:Unit->Shared->Prop} (I:Inv X pins σ H s) (hN:X.N.Nodup) (hi:X.N[i]?=some x) (hx:Loc X.env.scope x) (r:RelV v u)
  (h:∀ s',Inv X pins (σ.set i (some v)) H s'->(∃ a,Heap.SameBut a s.heap s'.heap/\(a=X.env.locals∨X.env.cells.lookup x=some a))->Q () s') (hf:autoParam (X.fn x=true∨X.env.scope.names.lookup x=some .local) AutoP.a0._auto_1):wpAny M A (storeName X.env x u) Q E s:=by
 obtain ⟨m,hn,hl⟩:=id I.loc
 have hcls:(X.env.scope.kind == .class || (X.env.scope.kind == .module && X.env.locals != X.env.globals))=false:=by rw [I.ok.kind]; rfl
 have hiσ : i < σ.length:=by rw [I.len]; exact (List.getElem?_eq_some_iff.mp hi).1
 have cne:=I.cne
 have tracked:∀ {a:Addr} {h':Heap},(∃ o,s.heap.get? a=some o/\H a=none)->Heap.SameBut a s.heap h'->HOk X.prog X.w H h':=fun {a h'} ha hs b ob e=>by
  obtain ⟨_,_,hfree⟩:=ha
  refine (I.hok b ob e).stay (fun c w' hc q=>(hs.2 c ?_).trans q) (fun _ q=>q) fun _ _ q=>q
  rintro rfl
  rcases hc with rfl | hc
  ·rw [hfree] at e; cases e
  ·rw [hfree] at hc; cases hc
 rcases hx with hk | hk
 ·refine wpAny_storeName_local hk hn (fun h' hn' hs=>?_) hcls
  obtain ⟨oL,_,_,hoL,_⟩:=id hn
  refine h _ ⟨I.ok,I.os,I.bare,⟨fun b o e n hb hx=>?_,fun b o e n hb hx=>?_,I.base.free,fun b o e hx=>?_,I.base.tups,I.base.frzs,I.base.tbls⟩,⟨_,hn',fun j y v' e1 e2 e3=>?_⟩,fun y c e=>?_,I.free,I.freeC,fun p hp=>?_,tracked ⟨oL,hoL,I.free⟩ hs,by simpa using I.len⟩ ⟨_,hs,.inl rfl⟩
  ·exact (hs.2 b (Nat.ne_of_lt (Nat.lt_of_lt_of_le (Heap.lt_size e) I.ok.above))).trans (I.base.keep b o e n hb hx)
  ·obtain ⟨sl,e1⟩:=I.base.slot b o e n hb hx
   exact ⟨sl,(hs.2 b (Nat.ne_of_lt (Nat.lt_of_lt_of_le (Heap.lt_size e) I.ok.above))).trans e1⟩
  ·obtain ⟨o',e1⟩:=I.base.there b o e hx
   exact ⟨o',(hs.2 b (Nat.ne_of_lt (Nat.lt_of_lt_of_le (Heap.lt_size e) I.ok.above))).trans e1⟩
  ·by_cases hj:j=i
   ·subst hj
    rw [hi] at e1; cases e1
    rw [List.getElem?_set_self hiσ] at e2
    cases e2
    exact ⟨u,r,.inl ⟨hk,by simp⟩⟩
   ·rw [List.getElem?_set_ne (Ne.symm hj)] at e2
    obtain ⟨u',r',q⟩:=hl j y v' e1 e2 e3
    refine ⟨u',r',?_⟩
    rcases q with ⟨k,e⟩ | ⟨k,c,e,z⟩
    ·refine .inl ⟨k,?_⟩
     have:y≠x:=fun e=>hj (zik hN e1 (e ▸ hi))
     simp [this,e]
    ·exact .inr ⟨k,c,e,z.sameBut hs (cne y c e)⟩
  ·obtain ⟨w',z⟩:=I.cell y c e
   exact ⟨w',z.sameBut hs (cne y c e)⟩
  ·obtain ⟨e,n,ne,nf,d⟩:=I.pin p hp
   exact ⟨(hs.2 p.1 ne).trans e,n,ne,nf,d⟩
 ·have hfn:X.fn x=true:=by
   rcases hf with z | z
   ·exact z
   ·rw [z] at hk; cases hk
  obtain ⟨c,hc⟩:=I.ok.has x (.inl hk)
  obtain ⟨w',z⟩:=I.cell x c hc
  refine wpAny_storeName_cell I.ok.kind hk hc z (fun h' hc' hs=>?_)
  obtain ⟨oc,hoc,hocd⟩:=id z
  refine h { s with heap:=h' } ⟨I.ok,I.os,I.bare,⟨fun b o e n hb hx=>?_,fun b o e n hb hx=>?_,I.base.free,fun b o e hx=>?_,I.base.tups,I.base.frzs,I.base.tbls⟩,⟨m,hn.sameBut hs (Ne.symm (cne x c hc)),fun j y v' e1 e2 e3=>?_⟩,fun y c' e=>?_,I.free,I.freeC,fun p hp=>?_,tracked ⟨oc,hoc,I.freeC x c hc⟩ hs,by simpa using I.len⟩ ⟨c,hs,.inr hc⟩
  ·exact (hs.2 b (Nat.ne_of_lt (Nat.lt_of_lt_of_le (Heap.lt_size e) (I.ok.cab x c hfn hc)))).trans (I.base.keep b o e n hb hx)
  ·obtain ⟨sl,e1⟩:=I.base.slot b o e n hb hx
   exact ⟨sl,(hs.2 b (Nat.ne_of_lt (Nat.lt_of_lt_of_le (Heap.lt_size e) (I.ok.cab x c hfn hc)))).trans e1⟩
  ·obtain ⟨o',e1⟩:=I.base.there b o e hx
   exact ⟨o',(hs.2 b (Nat.ne_of_lt (Nat.lt_of_lt_of_le (Heap.lt_size e) (I.ok.cab x c hfn hc)))).trans e1⟩
  ·by_cases hj:j=i
   ·subst hj
    rw [hi] at e1; cases e1
    rw [List.getElem?_set_self hiσ] at e2
    cases e2
    exact ⟨u,r,.inr ⟨.inl hk,c,hc,hc'⟩⟩
   ·rw [List.getElem?_set_ne (Ne.symm hj)] at e2
    obtain ⟨u',r',q⟩:=hl j y v' e1 e2 e3
    refine ⟨u',r',?_⟩
    rcases q with q | ⟨k,c',e,z'⟩
    ·exact .inl q
    ·refine .inr ⟨k,c',e,z'.sameBut hs ?_⟩
     rintro rfl
     exact hj (zik hN e1 (I.ok.inj _ _ _ e hc ▸ hi))
  ·by_cases hcc:c'=c
   ·subst hcc; exact ⟨_,hc'⟩
   ·obtain ⟨w2,z2⟩:=I.cell y c' e
    exact ⟨w2,z2.sameBut hs hcc⟩
  ·obtain ⟨e,n,ne,nf,d⟩:=I.pin p hp
   refine ⟨(hs.2 p.1 ?_).trans e,n,ne,nf,d⟩
   intro q
   rw [q,hoc] at e
   have q':oc=p.2:=Option.some.inj e
   exact d w' (by rw [<- q']; exact hocd)
theorem zdP {Q:Unit->Shared->Prop} (I:Inv X pins σ H s) (hN:X.N.Nodup) (hi:X.N[i]?=some x) (hx:Loc X.env.scope x) (r:RelV v u)
  (h:∀ s',Inv X pins (σ.set i (some v)) H s'->Q () s') (hf:autoParam (X.fn x=true∨X.env.scope.names.lookup x=some .local) AutoP.a0._auto_1):wpAny M A (storeName X.env x u) Q E s :=
 zm4 I hN hi hx r (fun s' I' _=>h s' I') hf
theorem Inv.call' (I:Inv X pins σ H s) (ho:s'.os=s.os) (u:Un (frs X.stack) ch H H' s.heap s'.heap) (hok:HOk X.prog X.w H' s'.heap) (hg:AllBare s'.gens)
  (hch:∀ b∈ch,(b∈X.ex∨X.s₀.heap.objs.size<=b)/\b≠X.env.locals/\(∀ x c,X.env.cells.lookup x=some c->c≠b)/\∀ p∈X.pn++pins,p.1≠b):Inv X pins σ H' s':=by
 obtain ⟨h',g',d',t',o'⟩:=s'
 have e:o'=s.os:=ho
 subst e
 exact I.call (g':=g') (t':=t') (d':=d') u hok hg hch
end
abbrev XK:=Value->Option Addr->Hp->Prop
abbrev St:=List (Option V)
abbrev VK:=V->Hp->Prop
abbrev TE:=St->Hp->VK->Prop
abbrev TT:=St->Hp->(Bool->Hp->Prop)->Prop
abbrev TA:=St->Hp->(List V->Hp->Prop)->Prop
structure Ends where
 nx:St->Hp->Prop
 rt:VK
 bk:St->Hp->Prop:=fun _ _=>False
 ct:St->Hp->Prop:=fun _ _=>False
abbrev TS:=Ends->St->Hp->Prop
def EP (X:Cx) (pins:List (Addr × Obj)) (σ : St) (Q:VK) (u:Value) (s':Shared):Prop:=∃ v H',Inv X pins σ H' s'/\RelV v u/\Q v H'
def TP (X:Cx) (pins:List (Addr × Obj)) (σ : St) (Q:Bool->Hp->Prop) (b:Bool) (s':Shared):Prop:=∃ H',Inv X pins σ H' s'/\Q b H'
def AP (X:Cx) (pins:List (Addr × Obj)) (σ : St) (Q:List V->Hp->Prop) (us:List Value) (s':Shared):Prop:=∃ vs H',Inv X pins σ H' s'/\Vals vs us/\Q vs H'
def SP (X:Cx) (pins:List (Addr × Obj)) (D:Ends) (f:Flow) (s':Shared):Prop :=
 match f with
 | .next=>∃ σ' H',Inv X pins σ' H' s'/\D.nx σ' H'
 | .brk=>∃ σ' H',Inv X pins σ' H' s'/\D.bk σ' H'
 | .cont=>∃ σ' H',Inv X pins σ' H' s'/\D.ct σ' H'
 | .ret u=>∃ v σ' H',Inv X pins σ' H' s'/\RelV v u/\D.rt v H'
def PE (X:Cx) (e:Expr) (t:TE):Prop :=
 ∀ (pins:List (Addr × Obj)) (s:Shared) (σ : St) (H:Hp) (Q:VK),Inv X pins σ H s->t σ H Q->wpAny (model X.prog X.w) X.A (eval e X.env) (EP X pins σ Q) X.xe s
def PT (X:Cx) (e:Expr) (t:TT):Prop :=
 ∀ (pins:List (Addr × Obj)) (s:Shared) (σ : St) (H:Hp) (Q:Bool->Hp->Prop),Inv X pins σ H s->t σ H Q->wpAny (model X.prog X.w) X.A (isTrue e X.env (eval e X.env)) (TP X pins σ Q) X.xe s
def PW (X:Cx) (e:Expr) (t:TT):Prop :=
 ∀ (whole:Sem Value) (pins:List (Addr × Obj)) (s:Shared) (σ : St) (H:Hp) (Q:Bool->Hp->Prop),Inv X pins σ H s->t σ H Q->wpAny (model X.prog X.w) X.A (isTrue e X.env whole) (TP X pins σ Q) X.xe s
theorem PW.pt {e:Expr} {t:TT} (h:PW X e t):PT X e t:=h _
def PA (X:Cx) (es:List Expr) (t:TA):Prop :=
 ∀ (pos:Pos) (pins:List (Addr × Obj)) (s:Shared) (σ : St) (H:Hp) (Q:List V->Hp->Prop),Inv X pins σ H s->t σ H Q->wpAny (model X.prog X.w) X.A (spliced (backTo pos (starEach es X.env))) (AP X pins σ Q) X.xe s
def PS (X:Cx) (st:Stmt) (t:TS):Prop :=
 ∀ (pins:List (Addr × Obj)) (s:Shared) (σ : St) (H:Hp) (D:Ends),Inv X pins σ H s->t D σ H->wpAny (model X.prog X.w) X.A (exec st X.env) (SP X pins D) X.xe s
def PSs (X:Cx) (st:List Stmt) (t:TS):Prop :=
 ∀ (pins:List (Addr × Obj)) (s:Shared) (σ : St) (H:Hp) (D:Ends),Inv X pins σ H s->t D σ H->wpAny (model X.prog X.w) X.A (execs st X.env) (SP X pins D) X.xe s
theorem thn {α : Type} {t:Sem α} {Q Q':α -> Shared->Prop} (h:wpAny M A t Q E s) (hQ:∀ a s,Q a s->Q' a s):wpAny M A t Q' E s:=wpAny_mono h hQ fun _ _ x=>x
variable {Q:Value->Shared->Prop} {pos:Pos} {σ : St} {ta tb:TE} {c:Expr}
section
def tVar (i:Nat):TE:=fun σ H Q=>∃ v,σ[i]?=some (some v)/\Q v H
def tC (v:V):TE:=fun _ H Q=>Q v H
theorem pe_var (hN:X.N[i]?=some x) (hv:Vis X.env.scope x) (hd:autoParam ((x == ("__debug__" : Str))=false) AutoP.a1._auto_1) (hcd:autoParam ((x == ("__classdict__" : Str))=false) AutoP.a1._auto_1):PE X (.Name x pos) (tVar i):=by
 intro pins s σ H Q I h
 obtain ⟨v,e,h⟩:=h
 obtain ⟨m,hn,hl⟩:=I.loc
 obtain ⟨u,r,l⟩:=hl i x v hN e hv
 have fin:EP X pins σ Q u s:=⟨v,H,I,r,h⟩
 rcases l with ⟨hk,hm⟩ | ⟨hk,c,hc,hcell⟩
 ·exact wpAny_Name (wpAny_loadName_local I.ok.kind hk hn hm fin) hd
 ·rcases hk with hk | hk
  ·exact wpAny_Name (wpAny_loadName_cell I.ok.kind hk hc hcell fin) hd
  ·exact wpAny_Name (wpAny_loadName_free I.ok.kind hk hc hcell fin hcd) hd
theorem pe_int {i j pos}:PE X (.Constant (.int i) j pos) (tC (.int i)):=fun _ _ _ H _ I h=>wpAny_Constant_int ⟨.int i,H,I.tok _,⟨_,rfl⟩,h⟩
theorem pe_bl {b j pos}:PE X (.Constant (.bool b) j pos) (tC (.bl b)):=fun _ _ _ H _ I h=>Constant_bool ⟨.bl b,H,I,rfl,h⟩
theorem pe_non {j pos}:PE X (.Constant .none j pos) (tC .non):=fun _ _ _ H _ I h=>Constant_none ⟨.non,H,I,rfl,h⟩
theorem zq2 {x j pos}:PE X (.Constant (.str x) j pos) (tC (.str x)):=fun _ _ _ H _ I h=>Calls.Constant_str ⟨.str x,H,I.tok _,⟨_,rfl⟩,h⟩
def Gl (X:Cx) (x:Str):Prop:=X.env.kindOf x=some .globalImplicit
theorem zfh (I:Inv X pins σ H s) (hg:Gl X x) (hm:X.mg x=some u) (h:Q u s)
  (hd:autoParam ((x == ("__debug__" : Str))=false) AutoP.a1._auto_1):wpAny (model X.prog X.w) X.A (eval (.Name x pos) X.env) Q E s :=
 Calls.Name_function_global I.ok.kind hg (Calls.loadGlobal_global (by rw [I.ok.glob]; exact I.mod.glob.keeps I.bk) hm h) hd
theorem zec (I:Inv X pins σ H s) (hg:Gl X x) (hm:X.mg x=none) (hv:bootBuiltins x=some u) (h:Q u s)
  (hn:autoParam (x ≠ "__name__") AutoP.a1._auto_1) (hd:autoParam ((x == ("__debug__" : Str))=false) AutoP.a1._auto_1):wpAny (model X.prog X.w) X.A (eval (.Name x pos) X.env) Q E s:=by
 obtain ⟨mb,h1,h2⟩:=I.mod.blt
 exact Calls.Name_function_global I.ok.kind hg (Calls.loadGlobal_builtin (by rw [I.ok.glob]; exact I.mod.glob.keeps I.bk) hm (by rw [I.ok.blt]; exact h1.keeps I.bk) ((h2 x hn).trans hv) h) hd
theorem znM (hg:Gl X x) (hm:X.mg x=none) (hv:bootBuiltins x=some u) (r:RelV v u) (hn:autoParam (x ≠ "__name__") AutoP.a1._auto_1) (hd:autoParam ((x == ("__debug__" : Str))=false) AutoP.a1._auto_1):PE X (.Name x pos) (tC v) :=
 fun _ _ _ H _ I h=>zec I hg hm hv ⟨v,H,I,r,h⟩ hn hd
variable {a b:Expr}
def tB (t:TE):TT:=fun σ H Q=>t σ H fun x H1=>∃ c,x = .bl c/\Q c H1
theorem pt_val {e:Expr} {t:TE} (h:PE X e t) (he:autoParam (∀ whole,isTrue e X.env whole=(do let v <- whole; standAt e.pos; holding [v] (truthy v))) AutoP.a2._auto_1):PT X e (tB t):=by
 intro pins s σ H Q I hw
 refine isTrue_plain (thn (h pins s σ H _ I hw) fun v s1 ⟨x,H1,I1,r1,q1⟩=>?_) (he _)
 obtain ⟨d,rfl,q⟩:=q1
 cases r1
 exact wpAny_truthy_bool ⟨H1,I1,q⟩
variable {tA tB':TT} {rest:List Expr}
def tAnd (t u:TT):TT:=fun σ H Q=>t σ H fun c H1=>if c=true then u σ H1 Q else Q false H1
def tOr (t u:TT):TT:=fun σ H Q=>t σ H fun c H1=>if c=true then Q true H1 else u σ H1 Q
def tNot (t:TT):TT:=fun σ H Q=>t σ H fun c H1=>Q (!c) H1
theorem zr6 (ha:PT X a tA):PW X (.BoolOp .And [a] pos) tA:=by
 intro wh pins s σ H Q I h
 refine isTrue_and (thn (ha pins s σ H Q I h) fun c s1 e=>?_)
 cases c with
 | true=>exact isTrue_and_nil e
 | false=>exact e
theorem pw_or1 (ha:PT X a tA):PW X (.BoolOp .Or [a] pos) tA:=by
 intro wh pins s σ H Q I h
 refine isTrue_or (thn (ha pins s σ H Q I h) fun c s1 e=>?_)
 cases c with
 | false=>exact isTrue_or_nil e
 | true=>exact e
theorem pw_and (ha:PT X a tA) (hb:PW X (.BoolOp .And (b::rest) pos) tB'):PW X (.BoolOp .And (a::b::rest) pos) (tAnd tA tB'):=by
 intro wh pins s σ H Q I h
 refine isTrue_and (thn (ha pins s σ H _ I h) fun c s1 ⟨H1,I1,q1⟩=>?_)
 cases c with
 | true=>exact hb wh pins s1 σ H1 Q I1 q1
 | false=>exact ⟨H1,I1,q1⟩
theorem pw_or (ha:PT X a tA) (hb:PW X (.BoolOp .Or (b::rest) pos) tB'):PW X (.BoolOp .Or (a::b::rest) pos) (tOr tA tB'):=by
 intro wh pins s σ H Q I h
 refine isTrue_or (thn (ha pins s σ H _ I h) fun c s1 ⟨H1,I1,q1⟩=>?_)
 cases c with
 | true=>exact ⟨H1,I1,q1⟩
 | false=>exact hb wh pins s1 σ H1 Q I1 q1
theorem pt_not (ha:PT X a tA):PT X (.UnaryOp .Not a pos) (tNot tA):=by
 intro pins s σ H Q I h
 exact isTrue_not (ha pins s σ H (fun c H1=>Q (!c) H1) I h)
def tAndV (ta tb:TE):TE:=fun σ H Q=>ta σ H fun x H1=>∃ c,x = .bl c/\if c=true then tb σ H1 Q else Q (.bl false) H1
def tNotV (ta:TE):TE:=fun σ H Q=>ta σ H fun x H1=>∃ c,x = .bl c/\Q (.bl (!c)) H1
theorem pe_one {op} {t:TE} (h:PE X a t):PE X (.BoolOp op [a] pos) t:=fun pins s σ H Q I hw=>BoolOp_one (h pins s σ H Q I hw)
theorem pe_and (ha:PE X a ta) (hb:PE X (.BoolOp .And (b::rest) pos) tb):PE X (.BoolOp .And (a::b::rest) pos) (tAndV ta tb):=by
 intro pins s σ H Q I h
 refine BoolOp_and (thn (ha pins s σ H _ I h) fun v s1 ⟨x,H1,I1,r1,q1⟩=>?_)
 obtain ⟨c,rfl,q1⟩:=q1
 cases r1
 refine wpAny_truthy_bool ?_
 cases c with
 | true=>exact hb pins s1 σ H1 Q I1 q1
 | false=>exact ⟨.bl false,H1,I1,rfl,q1⟩
theorem pe_not (ha:PE X a ta):PE X (.UnaryOp .Not a pos) (tNotV ta):=by
 intro pins s σ H Q I h
 refine UnaryOp_ (thn (ha pins s σ H _ I h) fun v s1 ⟨x,H1,I1,r1,q1⟩=>?_)
 obtain ⟨c,rfl,q1⟩:=q1
 cases r1
 exact not_of (wpAny_truthy_bool ⟨.bl (!c),H1,I1,rfl,q1⟩)
def tIf (t:TT) (ta tb:TE):TE:=fun σ H Q=>t σ H fun c H1=>if c=true then ta σ H1 Q else tb σ H1 Q
theorem zqd (hc:PT X c tA) (ha:PE X a ta) (hb:PE X b tb):PE X (.IfExp c a b pos) (tIf tA ta tb):=by
 intro pins s σ H Q I h
 refine wpAny_IfExp (thn (hc pins s σ H _ I h) fun d s1 ⟨H1,I1,q1⟩=>?_)
 cases d with
 | true=>exact ha pins s1 σ H1 Q I1 q1
 | false=>exact hb pins s1 σ H1 Q I1 q1
end
def SqL (K:PySem.W.Frag) (H:Hp) (a:Addr) (xs:List V):Prop :=
 Rd H a (.lst xs) ∨
  ∃ (o:Obj) (its:Array Value) (n:Nat),K.lookup a=some o/\o.cls = .type "list" /\ o.dict=none/\o.data = .seq its n/\its.size<=sizeLine/\Vals xs its.toList
def SqT (K:PySem.W.Frag) (H:Hp) (a:Addr) (xs:List V):Prop :=
 Rd H a (.tup xs) ∨
  ∃ (o:Obj) (its:Array Value) (n:Nat),K.lookup a=some o/\o.cls = .type "tuple" /\ o.data = .seq its n/\its.size<=sizeLine/\Vals xs its.toList
def absV:Value->Option V
 | .none=>some .non
 | .bool b=>some (.bl b)
 | .int i _=>some (.int i)
 | .str x _=>some (.str x)
 | .bytes b _=>some (.byt b)
 | .float b _=>some (.flt b)
 | .ref a=>some (.ref a)
 | .type n=>some (.ty n)
 | _=>none
theorem RelV.abs {x:V} (r:RelV x u):absV u=some x:=by
 cases x with
 | non=>cases r; rfl
 | bl _=>cases r; rfl
 | int _=>obtain ⟨t,rfl⟩:=r; rfl
 | str _=>obtain ⟨t,rfl⟩:=r; rfl
 | byt _=>obtain ⟨t,rfl⟩:=r; rfl
 | flt _=>obtain ⟨t,rfl⟩:=r; rfl
 | ref _=>cases r; rfl
 | ty _=>cases r; rfl
variable {y:V}
theorem RelV.inj {x:V} (r:RelV x u) (q:RelV y u):x=y:=Option.some.inj (r.abs.symm.trans q.abs)
theorem Vals.inj:∀ {xs ys:List V} {us:List Value},Vals xs us->Vals ys us->xs=ys
 | _,_,_,.nil,.nil=>rfl
 | _,_,_,.cons r t,.cons r' t'=>by rw [r.inj r',Vals.inj t t']
variable {K:PySem.W.Frag}
section
variable {ys:List V}
theorem SqL.of (h:H a=some (.lst xs)):SqL K H a xs := .inl (.inl h)
theorem SqT.of (h:H a=some (.tup xs)):SqT K H a xs := .inl (.inl h)
theorem Inv.list (I:Inv X pins σ H s) (h:SqL X.K H a xs):∃ its:List Value,Vals xs its/\PlainL s.heap a its.toArray/\xs.length<=sizeLine:=by
 rcases h with h | ⟨o,its,n,hk,hc,hd,hs,hz,r⟩
 ·obtain ⟨z,its,n,r,e⟩:=h.ok I.hok
  exact ⟨its,r,⟨_,n,e,rfl,rfl,rfl⟩,z⟩
 ·refine ⟨its.toList,r,⟨o,n,I.kIn a o hk,hc,hd,by simpa using hs⟩,?_⟩
  have e:=r.length
  simp only [Array.length_toList] at e
  omega
theorem Inv.tuple (I:Inv X pins σ H s) (h:SqT X.K H a xs):∃ its:List Value,Vals xs its/\IsTup s.heap a its.toArray/\xs.length<=sizeLine:=by
 rcases h with h | ⟨o,its,n,hk,hc,hs,hz,r⟩
 ·obtain ⟨z,its,r,p,_⟩:=h.ok I.hok
  exact ⟨its,r,p,z⟩
 ·refine ⟨its.toList,r,⟨o,I.kIn a o hk,hc,n,by simpa using hs⟩,?_⟩
  have e:=r.length
  simp only [Array.length_toList] at e
  omega
theorem Inv.list_inj (I:Inv X pins σ H s) (h:SqL X.K H a xs) (h':SqL X.K H a ys):xs=ys:=by
 obtain ⟨its,r,⟨o,n,e,_,_,d⟩,_⟩:=I.list h
 obtain ⟨its',r',⟨o',n',e',_,_,d'⟩,_⟩:=I.list h'
 rw [e] at e'; cases e'
 rw [d] at d'
 injection d' with d1 _
 have:its=its':=by simpa using congrArg Array.toList d1
 subst this
 exact r.inj r'
theorem Inv.tuple_inj (I:Inv X pins σ H s) (h:SqT X.K H a xs) (h':SqT X.K H a ys):xs=ys:=by
 obtain ⟨its,r,⟨o,e,_,n,d⟩,_⟩:=I.tuple h
 obtain ⟨its',r',⟨o',e',_,n',d'⟩,_⟩:=I.tuple h'
 rw [e] at e'; cases e'
 rw [d] at d'
 injection d' with d1 _
 have:its=its':=by simpa using congrArg Array.toList d1
 subst this
 exact r.inj r'
end
abbrev Cx.wish (X:Cx) (E:Value->Shared->Prop):Cx:={ X with xe:=E }
abbrev Cx.nox (X:Cx):Cx:=X.wish fun _ _=>False
theorem Cx.Ok.wish (ok:X.Ok) (E:Value->Shared->Prop):(X.wish E).Ok :=
 ⟨ok.mod,ok.kind,ok.glob,ok.blt,ok.above,ok.inj,ok.has,ok.cab,ok.hd,ok.frames,ok.stk,ok.exf,ok.bs,ok.bsz,ok.noex,ok.exfs,ok.funs,ok.frf⟩
theorem Cx.Ok.unwish (ok:(X.wish E).Ok):X.Ok :=
 ⟨ok.mod,ok.kind,ok.glob,ok.blt,ok.above,ok.inj,ok.has,ok.cab,ok.hd,ok.frames,ok.stk,ok.exf,ok.bs,ok.bsz,ok.noex,ok.exfs,ok.funs,ok.frf⟩
section
theorem Inv.wish (I:Inv X pins σ H s) (E:Value->Shared->Prop):Inv (X.wish E) pins σ H s:=⟨I.ok.wish E,I.os,I.bare,I.base,I.loc,I.cell,I.free,I.freeC,I.pin,I.hok,I.len⟩
theorem Inv.unwish (I:Inv (X.wish E) pins σ H s):Inv X pins σ H s:=⟨I.ok.unwish,I.os,I.bare,I.base,I.loc,I.cell,I.free,I.freeC,I.pin,I.hok,I.len⟩
theorem SP.unwish {D:Ends} {f:Flow} (h:SP (X.wish E) pins D f s'):SP X pins D f s':=by
 cases f with
 | next=>obtain ⟨σ',H',I,q⟩:=h; exact ⟨σ',H',I.unwish,q⟩
 | brk=>obtain ⟨σ',H',I,q⟩:=h; exact ⟨σ',H',I.unwish,q⟩
 | cont=>obtain ⟨σ',H',I,q⟩:=h; exact ⟨σ',H',I.unwish,q⟩
 | ret u=>obtain ⟨v,σ',H',I,r,q⟩:=h; exact ⟨v,σ',H',I.unwish,r,q⟩
theorem PSs.nox {st:List Stmt} {t:TS} (h:PSs X.nox st t):PSs X st t:=fun pins s σ H D I hw =>
 wpAny_mono (h pins s σ H D (I.wish _) hw) (fun _ _ q=>q.unwish) fun _ _ z=>False.elim z
end
variable {te:TE} {tc:TT}
section
variable {st:Stmt} {rest:List Stmt} {t u:TS} {e:Expr}
def tNext:TS:=fun D σ H=>D.nx σ H
def tSeq (t u:TS):TS:=fun D σ H=>t { D with nx:=u D } σ H
theorem zsb:PSs X [] tNext:=fun _ _ σ H _ I h=>wpAny_execs_nil ⟨σ,H,I,h⟩
theorem zp5 (h1:PS X st t) (h2:PSs X rest u):PSs X (st::rest) (tSeq t u):=by
 intro pins s σ H D I h
 refine wpAny_execs_cons (thn (h1 pins s σ H { D with nx:=u D } I h) fun f s1 q=>?_)
 cases f with
 | next =>
  obtain ⟨σ',H',I',q⟩:=q
  exact h2 pins s1 σ' H' D I' q
 | ret v=>exact q
 | brk=>exact q
 | cont=>exact q
theorem zsa (h1:PS X st t):PSs X [st] t:=by
 intro pins s σ H D I h
 refine wpAny_execs_cons (thn (h1 pins s σ H D I h) fun f s1 q=>?_)
 cases f with
 | next=>exact wpAny_execs_nil q
 | ret v=>exact q
 | brk=>exact q
 | cont=>exact q
theorem Inv.quiet (I:Inv X pins σ H s):interactive X.env=false:=by simp [interactive,I.ok.kind]
def tDrop (te:TE):TS:=fun D σ H=>te σ H fun _ H1=>D.nx σ H1
theorem zsd (he:PE X e te) (hs:autoParam (swapsWith e none pos.line X.env=pure false) AutoP.a3._auto_1):PS X (.Expr e pos) (tDrop te):=by
 intro pins s σ H D I h
 exact wpAny_Expr_any (thn (he pins s σ H _ I h) fun v s1 ⟨x,H1,I1,r1,q1⟩=>⟨σ,H1,I1,q1⟩) I.quiet hs
def tRet (te:TE):TS:=fun D σ H=>te σ H D.rt
theorem ps_ret (he:PE X e te):PS X (.Return (some e) pos) (tRet te):=by
 intro pins s σ H D I h
 exact wpAny_Return_some (thn (he pins s σ H _ I h) fun v s1 ⟨x,H1,I1,r1,q1⟩=>⟨x,σ,H1,I1,r1,q1⟩)
def tIfS (c:TT) (t u:TS):TS:=fun D σ H=>c σ H fun b H1=>if b=true then t D σ H1 else u D σ H1
theorem ps_if {a b:List Stmt} (hc:PT X c tc) (ha:PSs X a t) (hb:PSs X b u):PS X (.If c a b pos) (tIfS tc t u):=by
 intro pins s σ H D I h
 refine wpAny_If (thn (hc pins s σ H _ I h) fun d s1 ⟨H1,I1,q1⟩=>?_)
 cases d with
 | true=>exact ha pins s1 σ H1 D I1 q1
 | false=>exact hb pins s1 σ H1 D I1 q1
end
abbrev TG:=V->St->Hp->(St->Hp->Prop)->Prop
abbrev TGs:=List V->St->Hp->(St->Hp->Prop)->Prop
def PG (X:Cx) (target:Expr) (t:TG):Prop :=
 ∀ (pins:List (Addr × Obj)) (s:Shared) (σ : St) (H:Hp) (v:V) (u:Value) (Q:St->Hp->Prop),Inv X pins σ H s->RelV v u->t v σ H Q →
  wpAny (model X.prog X.w) X.A (assign target X.env u) (fun _ s'=>∃ σ' H',Inv X pins σ' H' s'/\Q σ' H') X.xe s
def PGs (X:Cx) (ts:List Expr) (t:TGs):Prop :=
 ∀ (pins:List (Addr × Obj)) (s:Shared) (σ : St) (H:Hp) (vs:List V) (us:List Value) (Q:St->Hp->Prop),Inv X pins σ H s->Vals vs us->t vs σ H Q →
  wpAny (model X.prog X.w) X.A (assignInOrder ((assignEach ts X.env).map (·.2)) us) (fun _ s'=>∃ σ' H',Inv X pins σ' H' s'/\Q σ' H') X.xe s
abbrev TSet:=V->V->V->Hp->(Hp->Prop)->Prop
def PSet (X:Cx) (t:TSet):Prop :=
 ∀ (pins:List (Addr × Obj)) (s:Shared) (σ : St) (H:Hp) (o i v:V) (ov iv u:Value) (Q:Hp->Prop),Inv X pins σ H s->RelV o ov->RelV i iv->RelV v u->t o i v H Q →
  wpAny (model X.prog X.w) X.A (setItem ov iv u) (fun _ s'=>∃ H',Inv X pins σ H' s'/\Q H') X.xe s
variable {es:List Expr} {n:Nat} {tg:Expr} {pos':Pos}
section
def gName (i:Nat):TG:=fun v σ H Q=>Q (σ.set i (some v)) H
theorem znK (hN:X.N.Nodup) (hi:X.N[i]?=some x) (hx:Loc X.env.scope x) (hf:autoParam (X.fn x=true∨X.env.scope.names.lookup x=some .local) AutoP.a0._auto_1):PG X (.Name x pos) (gName i):=by
 intro pins s σ H v u Q I r h
 exact wpAny_assign_Name (zdP I hN hi hx r (fun s' I'=>⟨_,H,I',h⟩) hf)
def gNil:TGs:=fun vs σ H Q=>vs=[]/\Q σ H
def gCons (t:TG) (u:TGs):TGs:=fun vs σ H Q=>∃ v r,vs=v::r/\t v σ H fun σ' H'=>u r σ' H' Q
theorem zso:PGs X [] gNil:=by
 intro pins s σ H vs us Q I r h
 obtain ⟨e,h⟩:=h
 subst e
 cases r
 exact assignInOrder_nil ⟨σ,H,I,h⟩
theorem zqb {e:Expr} {t:TG} {u:TGs} (h1:PG X e t) (h2:PGs X es u)
  (hs:autoParam ((assignEach (e::es) X.env).map (·.2)=assign e X.env::(assignEach es X.env).map (·.2)) AutoP.a3._auto_1):PGs X (e::es) (gCons t u):=by
 intro pins s σ H vs us Q I r h
 obtain ⟨v,vr,e1,h⟩:=h
 subst e1
 cases r with
 | cons r rr =>
  rw [hs]
  refine assignInOrder_cons (thn (h1 pins s σ H _ _ _ I r h) fun _ s1 ⟨σ1,H1,I1,q1⟩=>?_)
  exact h2 pins s1 σ1 H1 _ _ Q I1 rr q1
def zbn (K:PySem.W.Frag) (n:Nat) (t:TGs):TG:=fun v σ H Q=>∃ a xs,v = .ref a/\SqT K H a xs/\xs.length=n/\t xs σ H Q
theorem pg_tup {k:Nat} {t:TGs} (hc:X.calm=true) (h:PGs X es t)
  (hn:autoParam ((assignEach es X.env).length=n) AutoP.a3._auto_1) (hst:autoParam ((assignEach es X.env).findIdx? (·.1)=none) AutoP.a3._auto_1):PG X (.Tuple es k pos) (zbn X.K n t):=by
 intro pins s σ H v u Q I r hw
 obtain ⟨a,xs,e1,hq,hl,hw⟩:=hw
 subst e1
 cases r
 obtain ⟨its,rv,ht,hz⟩:=I.tuple hq
 refine assign_Tuple_tuple (I.ok.hd hc) ht (by simp [hn,<- hl,rv.length]) hst fun h' hx=>?_
 have I1:Inv X pins σ H { s with heap:=h' }:=I.kept (t':=s.toks) fun b o e=>hx b o (Nat.ne_of_lt (Heap.lt_size e)) e
 exact h pins _ σ H xs _ Q I1 (by simpa using rv) hw
def gSub (to ti:TE) (t:TSet):TG:=fun v σ H Q=>to σ H fun o H1=>ti σ H1 fun i H2=>t o i v H2 fun H3=>Q σ H3
theorem pg_sub {o i:Expr} {to ti:TE} {t:TSet} (ho:PE X o to) (hi:PE X i ti) (hs:PSet X t)
  (ha:autoParam (∀ v,assign (.Subscript o i pos) X.env v=(do
   let ov <- holding [v] (eval o X.env)
   let iv <- holding [v,ov] (eval i X.env)
   standAt pos
   holding [v,ov,iv] (setItem ov iv v)
   release [v,ov,iv] [])) AutoP.a2._auto_1):PG X (.Subscript o i pos) (gSub to ti t):=by
 intro pins s σ H v u Q I r h
 rw [ha]
 refine wpAny_bind (wpAny_holding (thn (ho pins s σ H _ I h) fun ov s1 ⟨x,H1,I1,r1,q1⟩=>?_))
 refine wpAny_bind (wpAny_holding (thn (hi pins s1 σ H1 _ I1 q1) fun iv s2 ⟨y,H2,I2,r2,q2⟩=>?_))
 refine wpAny_bind (wpAny_standAt (wpAny_bind (wpAny_holding (thn (hs pins s2 σ H2 x y v ov iv u _ I2 r1 r2 r q2) fun _ s3 ⟨H3,I3,q3⟩=>?_))))
 exact wpAny_release ⟨σ,H3,I3,q3⟩
def tAsg (te:TE) (g:TG):TS:=fun D σ H=>te σ H fun x H1=>g x σ H1 D.nx
theorem ps_asg {e:Expr} {g:TG} (he:PE X e te) (hg:PG X tg g) (hs:autoParam (swapsWithSole [tg] e pos.line X.env=pure false) AutoP.a3._auto_1) (hw:autoParam (swappedStores [tg] e X.env=pure none) AutoP.a3._auto_1)
  (h1:autoParam ((assignEach [tg] X.env).map (·.2)=[assign tg X.env]) AutoP.a3._auto_1):PS X (.Assign [tg] e pos) (tAsg te g):=by
 intro pins s σ H D I h
 refine wpAny_Assign_stores (thn (he pins s σ H _ I h) fun v s1 ⟨x,H1,I1,r1,q1⟩=>?_) hs hw
 rw [h1]
 exact thn (hg pins s1 σ H1 x v _ I1 r1 q1) fun _ s2 q=>q
theorem ps_set {e:Expr} (hN:X.N.Nodup) (hi:X.N[i]?=some x) (hx:Loc X.env.scope x) (he:PE X e te) (hs:autoParam (swapsWith e (some (.Name x pos')) pos.line X.env=pure false) AutoP.a3._auto_1) (hf:autoParam (X.fn x=true∨X.env.scope.names.lookup x=some .local) AutoP.a0._auto_1) :
  PS X (.Assign [.Name x pos'] e pos) (tAsg te (gName i)):=by
 intro pins s σ H D I h
 refine wpAny_Assign_Name (thn (he pins s σ H _ I h) fun v s1 ⟨y,H1,I1,r1,q1⟩=>?_) hs
 exact zdP I1 hN hi hx r1 (fun s2 I2=>⟨_,H1,I2,q1⟩) hf
def tPar (i j:Nat) (ta:TA):TS:=fun D σ H=>ta σ H fun vs H1=>∃ v w,vs=[v,w]/\D.nx ((σ.set i (some v)).set j (some w)) H1
theorem ps_par {y:Str} {a b:Expr} {ta:TA} {px py pt:Pos} {kt k2 pt2} (hc:X.calm=true) (hN:X.N.Nodup) (hi:X.N[i]?=some x) (hj:X.N[j]?=some y) (hij:i≠j)
  (hx:X.env.scope.names.lookup x=some .local) (hy:X.env.scope.names.lookup y=some .local) (ha:PA X [a,b] ta)
  (hw:swappedStores [.Tuple [.Name x px,.Name y py] kt pt] (.Tuple [a,b] k2 pt2) X.env=pure (some [x,y]))
  (hs:autoParam (swapsWithSole [.Tuple [.Name x px,.Name y py] kt pt] (.Tuple [a,b] k2 pt2) pos.line X.env=pure false) AutoP.a3._auto_1) :
  PS X (.Assign [.Tuple [.Name x px,.Name y py] kt pt] (.Tuple [a,b] k2 pt2) pos) (tPar i j ta):=by
 intro pins s σ H D I h
 rw [exec_Assign_arm]
 refine wpAny_bind (wpAny_standAt ?_)
 rw [hs]
 refine wpAny_bind (wpAny_pure ?_)
 rw [if_neg (by decide)]
 refine wpAny_bind (Tuple_ (thn (ha _ pins s σ H _ I h) fun us s1 ⟨vs,H1,I1,r1,q1⟩=>?_))
 obtain ⟨v,w,e1,q1⟩:=q1
 subst e1
 obtain ⟨u1,u2,rfl,rv,rw'⟩:∃ u1 u2,us=[u1,u2]/\RelV v u1/\RelV w u2:=by
  cases r1 with
  | cons p q =>
   cases q with
   | cons p' q' =>
    cases q'
    exact ⟨_,_,rfl,p,p'⟩
 refine wpAny_newObj_type ?_ (by show 2<=sizeLine; decide)
 have I2:Inv X pins σ H1 { s1 with heap:=s1.heap.push { cls := .type "tuple", data := .seq [u1,u2].toArray } }:=I1.kept (t':=s1.toks) fun b o e=>Heap.get?_push_of_some _ e
 rw [hw]
 refine wpAny_bind (wpAny_pure ?_)
 show wpAny (model X.prog X.w) X.A (do rule "assign.swapped-stores"; let items <- unpackItems (.ref s1.heap.objs.size) 2 none; assignInOrder [fun v=>bindName X.env y v,fun v=>bindName X.env x v] items.reverse; pure Flow.next) _ _ _
 refine wpAny_bind (wpAny_rule (wpAny_bind (unpackItems_tuple (items := #[u1,u2]) (I.ok.hd hc) (IsTup.new s1.heap _) fun h' hx'=>?_)))
 have I3:=I2.kept (h':=h') (t':=s1.toks) fun b o e=>hx' b o (Nat.ne_of_lt (Heap.lt_size e)) e
 show wpAny _ _ (assignInOrder [fun v=>bindName X.env y v,fun v=>bindName X.env x v] [u2,u1] >>= fun _=>pure Flow.next) _ _ _
 refine wpAny_bind (assignInOrder_cons (wpAny_bindName (zdP I3 hN hj (.inl hy) rw' (fun s2 I4=>?_) (.inr hy))))
 refine assignInOrder_cons (wpAny_bindName (zdP I4 hN hi (.inl hx) rv (fun s3 I5=>assignInOrder_nil (wpAny_pure ?_)) (.inr hx)))
 rw [List.set_comm _ _ (Ne.symm hij)] at I5
 exact ⟨_,H1,I5,q1⟩
end
variable {body:List Stmt}
section
def tWhile (c:TT) (tb:TS):TS:=fun D σ H=>∃ W:Nat->St->Hp->Prop,(∃ m,W m σ H)/\∀ m σ H,W m σ H →
 c σ H fun b H1=>if b=true then ∃ N:St->Hp->Prop,(∀ σ' H',N σ' H'->∃ m',m' < m/\W m' σ' H')/\tb { D with nx:=N,ct:=N,bk:=D.nx } σ H1 else D.nx σ H1
theorem zp6 {tb:TS} (hp:PassesOwn (model X.prog X.w) X.A X.env X.xe) (hc:PT X c tc) (hb:PSs X body tb):PS X (.While c body [] pos) (tWhile tc tb):=by
 intro pins s σ H D I h
 obtain ⟨W,⟨m0,w0⟩,turn⟩:=h
 refine wpAny_While (codeAny_whileLoop (fun n s'=>∃ σ' H',Inv X pins σ' H' s'/\W n σ' H') ?_ m0 ⟨σ,H,I,w0⟩)
 rintro n s1 ⟨σ1,H1,I1,w1⟩
 refine wpAny_passesOwn hp (thn (hc pins s1 σ1 H1 _ I1 (turn n σ1 H1 w1)) fun b s2 ⟨H2,I2,q2⟩=>?_)
 cases b with
 | true =>
  obtain ⟨N,hN,q2⟩:=q2
  rw [if_pos rfl]
  refine wpAny_passesOwn hp (thn (hb pins s2 σ1 H2 _ I2 q2) fun f s3 q3=>?_)
  cases f with
  | next =>
   obtain ⟨σ3,H3,I3,n3⟩:=q3
   obtain ⟨m',hm,w3⟩:=hN σ3 H3 n3
   exact ⟨m',hm,σ3,H3,I3,w3⟩
  | cont =>
   obtain ⟨σ3,H3,I3,n3⟩:=q3
   obtain ⟨m',hm,w3⟩:=hN σ3 H3 n3
   exact ⟨m',hm,σ3,H3,I3,w3⟩
  | brk=>exact q3
  | ret v=>exact q3
 | false =>
  rw [if_neg Bool.false_ne_true]
  exact wpAny_execs_nil ⟨σ1,H2,I2,q2⟩
end
structure It where
 go:Nat->Hp->Prop
 yld:Nat->Hp->V->Hp->Prop
 stop:Nat->Hp->Prop
def zfR (X:Cx) (pins:List (Addr × Obj)) (H:Hp) (b:Addr):Prop :=
 H b=none/\b≠X.env.locals/\b ∉ X.fs/\(b∈X.ex∨X.s₀.heap.objs.size<=b)/\(∀ x c,X.env.cells.lookup x=some c->c≠b)/\∀ p∈X.pn++pins,p.1≠b
theorem Inv.fpOk (I:Inv X pins σ H s) (hb:s.heap.objs.size<=b) (hn:H' b=none):zfR X pins H' b:=by
 refine ⟨hn,Nat.ne_of_gt (Nat.lt_of_lt_of_le I.lt hb),I.nofs hb,.inr (Nat.le_trans I.sz hb),fun x c e z=>?_,fun p hp z=>?_⟩
 ·obtain ⟨v,q⟩:=I.cell x c e
  exact absurd (Nat.lt_of_lt_of_le q.lt (by rw [z]; exact hb)) (Nat.lt_irrefl _)
 ·exact absurd (Nat.lt_of_lt_of_le (Heap.lt_size (I.pin p hp).1) (by rw [z]; exact hb)) (Nat.lt_irrefl _)
structure Turn (P:Program) (w:World) (K:PySem.W.Frag) (tg:Expr) (J:It) (fp:List Addr) (it:Addr) (tn:Nat->Heap->Prop):Prop where
 mem:it∈fp
 obj:∀ i h,tn i h->∀ b∈fp,∃ o,h.get? b=some o/\∀ v,o.data ≠ .cell v
 keep:∀ i h h',tn i h->(∀ b∈fp,∀ o,h.get? b=some o->h'.get? b=some o)->tn i h'
 item:∀ (X:Cx),X.prog=P->X.w=w->X.K=K->X.calm=true->∀ (i:Nat) (pins:List (Addr × Obj)) (s:Shared) (σ : St) (H:Hp) (E:Value->Shared->Prop),Inv X pins σ H s->(∀ b∈fp,zfR X pins H b)->tn i s.heap->J.go i H →
  wpAny (model P w) X.A (pyNext (.ref it)) (fun r s1=>∃ u,r=some u ∧
   wpAny (model P w) X.A (letOwnedTupleGo tg (.ref it) u) (fun _ s2=>∃ x H',Inv X pins σ H' s2/\RelV x u/\J.yld i H x H'/\tn (i+1) s2.heap/\∀ b∈fp,H' b=none) E s1) E s
 done:∀ (X:Cx),X.prog=P->X.w=w->X.K=K->X.calm=true->∀ (i:Nat) (pins:List (Addr × Obj)) (s:Shared) (σ : St) (H:Hp) (E:Value->Shared->Prop),Inv X pins σ H s->(∀ b∈fp,zfR X pins H b)->tn i s.heap->J.stop i H →
  wpAny (model P w) X.A (pyNext (.ref it)) (fun r s1=>r=none/\Inv X pins σ H s1) E s
 self:∀ (A:Around) (i:Nat) (s:Shared) (Q:Value->Shared->Prop) (E:Value->Shared->Prop),tn i s.heap->Q (.ref it) s->wpAny (model P w) A (pyIter (.ref it)) Q E s
abbrev TI:=St->Hp->(It->Hp->Prop)->Prop
def PIE (X:Cx) (pins:List (Addr × Obj)) (σ : St) (tg:Expr) (R:It->Hp->Prop) (itv:Value) (s2:Shared):Prop :=
 ∃ (it:Addr) (fp:List Addr) (tn:Nat->Heap->Prop) (J:It) (H':Hp),itv = .ref it/\Inv X pins σ H' s2/\Turn X.prog X.w X.K tg J fp it tn/\tn 0 s2.heap/\(∀ b∈fp,zfR X pins H' b)/\R J H'
def PI (X:Cx) (tg iter:Expr) (wi:TI):Prop :=
 ∀ (pins:List (Addr × Obj)) (s:Shared) (σ : St) (H:Hp) (R:It->Hp->Prop),Inv X pins σ H s->wi σ H R →
  wpAny (model X.prog X.w) X.A (eval iter X.env) (fun v s1=>wpAny (model X.prog X.w) X.A (pyIter v) (PIE X pins σ tg R) X.xe s1) X.xe s
theorem zqG {o:Obj} {n:String} {vs:Array Value} {Q:Unit->Shared->Prop} (ho:s.heap.get? it=some o) (hc:o.cls = .type n) (hd:o.data = .fields vs)
    (hn:["enumerate", "zip", "dict_itemiterator", "dict_reverseitemiterator", "odict_iterator", "itertools.zip_longest", "itertools.pairwise"].contains n=false) (hQ:Q () s):wpAny M A (letOwnedTupleGo tg (.ref it) u) Q E s:=by
  unfold letOwnedTupleGo
  cases tg <;> first
    | exact wpAny_pure hQ
    | (cases u <;> first
        | exact wpAny_pure hQ
        | (refine wpAny_bind (wpAny_load ho ?_)
           rw [hc,hd]
           show wpAny M A (if (["enumerate", "zip", "dict_itemiterator", "dict_reverseitemiterator", "odict_iterator", "itertools.zip_longest", "itertools.pairwise"].contains n && vs[0]? == some (rawInt _))=true then _ else _) Q E s
           rw [if_neg (by intro h; rw [hn,Bool.false_and] at h; cases h)]
           exact wpAny_pure hQ))
def Itl (K:PySem.W.Frag) (a:Addr):It :=
 ⟨fun i H=>∃ xs x,SqL K H a xs/\xs[i]?=some x,fun i H x H'=>H'=H/\∀ xs,SqL K H a xs->xs[i]?=some x,fun i H=>∃ xs,SqL K H a xs/\xs.length<=i⟩
def Itt (K:PySem.W.Frag) (a:Addr):It :=
 ⟨fun i H=>∃ xs x,SqT K H a xs/\xs[i]?=some x,fun i H x H'=>H'=H/\∀ xs,SqT K H a xs->xs[i]?=some x,fun i H=>∃ xs,SqT K H a xs/\xs.length<=i⟩
def Itr (lo:Int) (n:Nat):It:=⟨fun i _=>i < n,fun i H x H'=>H'=H/\x = .int (lo+i),fun i _=>n<=i⟩
theorem zmX {w:World} (a it:Addr):Turn P w K tg (Itl K a) [it] it (fun i h=>h.IsListIter it a i) where
 mem:=by simp
 obj:=fun i h st b hb=>by
  have e:b=it:=by simpa using hb
  subst e
  obtain ⟨o,e,c,d⟩:=st
  exact ⟨o,e,fun v z=>by rw [d] at z; cases z⟩
 keep:=fun i h h' st k=>st.at fun o e=>k it (by simp) o e
 item:=by
  intro X hP hw hK hc i pins s σ H E I hf st hg
  subst hP hw hK
  obtain ⟨xs,x,hq,hx⟩:=hg
  obtain ⟨its,rv,p,hz⟩:=I.list hq
  obtain ⟨u,hu,ru⟩:=rv.get hx
  obtain ⟨f0,f1,f2,f3,f4,f5⟩:=hf it (by simp)
  refine wpAny_pyNext_list_item st p.isList (x:=u) (by simpa using hu) fun h' st' sb=>?_
  have I1:Inv X pins σ H { s with heap:=h' }:=I.turned (t':=s.toks) (fun b o hb e=>(sb.2 b hb).trans e) f0 f1 f3 f4 f5
  obtain ⟨o,e,c,d⟩:=id st'
  exact ⟨u,rfl,zqG (s:={ s with heap:=h' }) e c d (by decide) ⟨x,H,I1,ru,⟨rfl,fun ys hy=>by rw [I.list_inj hy hq]; exact hx⟩,st',fun b hb=>(hf b hb).1⟩⟩
 done:=by
  intro X hP hw hK hc i pins s σ H E I hf st hg
  subst hP hw hK
  obtain ⟨xs,hq,hx⟩:=hg
  obtain ⟨its,rv,p,hz⟩:=I.list hq
  obtain ⟨f0,f1,f2,f3,f4,f5⟩:=hf it (by simp)
  have hl:=rv.length
  exact wpAny_pyNext_list_end (I.ok.hd hc) st p.isList (by simp; omega) fun h' eb=>⟨rfl,I.turned (t':=s.toks) (fun b o hb e=>eb b o hb e) f0 f1 f3 f4 f5⟩
 self:=fun _ _ _ _ _ st h=>wpAny_pyIter_listiter st h
theorem zlQ {w:World} (a it:Addr):Turn P w K tg (Itt K a) [it] it (fun i h=>h.IsTupleIter it a i) where
 mem:=by simp
 obj:=fun i h st b hb=>by
  have e:b=it:=by simpa using hb
  subst e
  obtain ⟨o,e,c,d⟩:=st
  exact ⟨o,e,fun v z=>by rw [d] at z; cases z⟩
 keep:=fun i h h' st k=>st.at fun o e=>k it (by simp) o e
 item:=by
  intro X hP hw hK hc i pins s σ H E I hf st hg
  subst hP hw hK
  obtain ⟨xs,x,hq,hx⟩:=hg
  obtain ⟨its,rv,p,hz⟩:=I.tuple hq
  obtain ⟨u,hu,ru⟩:=rv.get hx
  obtain ⟨f0,f1,f2,f3,f4,f5⟩:=hf it (by simp)
  refine wpAny_pyNext_tuple_item st (show s.heap.IsTuple a its.toArray from p) (x:=u) (by simpa using hu) fun h' st' sb=>?_
  have I1:Inv X pins σ H { s with heap:=h' }:=I.turned (t':=s.toks) (fun b o hb e=>(sb.2 b hb).trans e) f0 f1 f3 f4 f5
  obtain ⟨o,e,c,d⟩:=id st'
  exact ⟨u,rfl,zqG (s:={ s with heap:=h' }) e c d (by decide) ⟨x,H,I1,ru,⟨rfl,fun ys hy=>by rw [I.tuple_inj hy hq]; exact hx⟩,st',fun b hb=>(hf b hb).1⟩⟩
 done:=by
  intro X hP hw hK hc i pins s σ H E I hf st hg
  subst hP hw hK
  obtain ⟨xs,hq,hx⟩:=hg
  obtain ⟨its,rv,p,hz⟩:=I.tuple hq
  obtain ⟨f0,f1,f2,f3,f4,f5⟩:=hf it (by simp)
  have hl:=rv.length
  exact wpAny_pyNext_tuple_end (I.ok.hd hc) st (show s.heap.IsTuple a its.toArray from p) (by simp; omega) fun h' eb=>⟨rfl,I.turned (t':=s.toks) (fun b o hb e=>eb b o hb e) f0 f1 f3 f4 f5⟩
 self:=fun _ _ _ _ _ st h=>wpAny_pyIter_tupleiter st h
theorem zlR {w:World} (it:Addr) (lo:Int) (n:Nat):Turn P w K tg (Itr lo n) [it] it (fun i h=>IsRangeIter h it (lo+(i:Nat) * 1) ((n:Int) - (i:Nat)) 1) where
 mem:=by simp
 obj:=fun i h st b hb=>by
  have e:b=it:=by simpa using hb
  subst e
  exact ⟨_,st,fun v z=>by
   have z':Data.fields _=Data.cell v:=z
   cases z'⟩
 keep:=fun i h h' st k=>k it (by simp) _ st
 item:=by
  intro X hP hw hK hc i pins s σ H E I hf st hg
  subst hP hw hK
  obtain ⟨f0,f1,f2,f3,f4,f5⟩:=hf it (by simp)
  have W:=Walks.range (prog:=X.prog) (w:=X.w) (I.ok.hd hc) it lo 1 n
  refine W.item i s _ _ hg st fun v h' tk hv st' kk=>?_
  obtain ⟨t,rfl⟩:=hv
  have I1:Inv X pins σ H { s with heap:=h',toks:=tk }:=I.turned (fun b o hb e=>kk b o (by simpa using hb) e) f0 f1 f3 f4 f5
  refine ⟨_,rfl,zqG (s:={ s with heap:=h',toks:=tk }) (n := "range_iterator") st' rfl rfl (by decide) ⟨.int (lo+i),H,I1,⟨t,?_⟩,⟨rfl,rfl⟩,st',fun b hb=>(hf b hb).1⟩⟩
  rw [Int.mul_one]
 done:=by
  intro X hP hw hK hc i pins s σ H E I hf st hg
  subst hP hw hK
  obtain ⟨f0,f1,f2,f3,f4,f5⟩:=hf it (by simp)
  exact wpAny_pyNext_range_end (I.ok.hd hc) st (by have:n<=i:=hg; omega) fun h' eb=>⟨rfl,I.turned (t':=s.toks) (fun b o hb e=>eb b o hb e) f0 f1 f3 f4 f5⟩
 self:=fun _ _ _ _ _ st h=>wpAny_pyIter_rangeiter st h
variable {l:Expr} {tl:TE} {p:Pos} {fp:List Addr}
section
def iList (K:PySem.W.Frag) (tl:TE):TI:=fun σ H R=>tl σ H fun x H1=>∃ a,x = .ref a/\(∃ xs,SqL K H1 a xs)/\R (Itl K a) H1
def iTup (K:PySem.W.Frag) (tl:TE):TI:=fun σ H R=>tl σ H fun x H1=>∃ a,x = .ref a/\(∃ xs,SqT K H1 a xs)/\R (Itt K a) H1
theorem znH (hl:PE X l tl):PI X tg l (iList X.K tl):=by
 intro pins s σ H R I h
 refine thn (hl pins s σ H _ I h) fun v s1 ⟨x,H1,I1,r1,q1⟩=>?_
 obtain ⟨a,e,⟨xs,hq⟩,q⟩:=q1
 subst e
 cases r1
 obtain ⟨its,rv,p,hz⟩:=I1.list hq
 refine wpAny_pyIter_list p.isList ?_
 refine ⟨s1.heap.objs.size,[s1.heap.objs.size],_,_,H1,rfl,I1.kept (t':=s1.toks) fun b o e=>Heap.get?_push_of_some _ e,zmX a _,⟨_,Heap.get?_push_size _ rfl,rfl,rfl⟩,fun b hb=>?_,q⟩
 have e:b=s1.heap.objs.size:=by simpa using hb
 subst e
 exact I1.fpOk (Nat.le_refl _) (I1.hok.fresh (Nat.le_refl _))
theorem pi_tup (hl:PE X l tl):PI X tg l (iTup X.K tl):=by
 intro pins s σ H R I h
 refine thn (hl pins s σ H _ I h) fun v s1 ⟨x,H1,I1,r1,q1⟩=>?_
 obtain ⟨a,e,⟨xs,hq⟩,q⟩:=q1
 subst e
 cases r1
 obtain ⟨its,rv,p,hz⟩:=I1.tuple hq
 refine wpAny_pyIter_tuple (show s1.heap.IsTuple a its.toArray from p) ?_
 refine ⟨s1.heap.objs.size,[s1.heap.objs.size],_,_,H1,rfl,I1.kept (t':=s1.toks) fun b o e=>Heap.get?_push_of_some _ e,zlQ a _,⟨_,Heap.get?_push_size _ rfl,rfl,rfl⟩,fun b hb=>?_,q⟩
 have e:b=s1.heap.objs.size:=by simpa using hb
 subst e
 exact I1.fpOk (Nat.le_refl _) (I1.hok.fresh (Nat.le_refl _))
theorem zk4 {R:It->Hp->Prop} {lo hi:Int} {t u v:Tok} {tk:Nat} (I:Inv X pins σ H s) (h1 : -(2 ^ 62)<=lo) (h2:lo < 2 ^ 62) (h3 : -(2 ^ 62)<=hi) (h4:hi < 2 ^ 62)
  (q:R (Itr lo (hi - lo).toNat) H):wpAny (model X.prog X.w) X.A (pyIter (.ref s.heap.objs.size)) (PIE X pins σ tg R) E { s with heap:=s.heap.push { cls := .type "range", data := .fields #[.int lo t,.int hi u,.int 1 v] },toks:=tk }:=by
 refine wpAny_pyIter_range (IsRange.new ..) (small_one h1 h2 h3 h4) ?_
 have I1:Inv X pins σ H { s with heap:=s.heap.push { cls := .type "range", data := .fields #[.int lo t,.int hi u,.int 1 v] },toks:=tk }:=I.kept fun b o e=>Heap.get?_push_of_some _ e
 refine ⟨(s.heap.push { cls := .type "range", data := .fields #[.int lo t,.int hi u,.int 1 v] }).objs.size,[(s.heap.push { cls := .type "range", data := .fields #[.int lo t,.int hi u,.int 1 v] }).objs.size],_,_,H,rfl,
  I1.kept (t':=tk) fun b o e=>Heap.get?_push_of_some _ e,zlR _ lo (hi - lo).toNat,?_,fun b hb=>?_,q⟩
 ·have e1:lo+((0:Nat):Int) * 1=lo:=by simp
  have e2:(((hi - lo).toNat:Nat):Int) - ((0:Nat):Int)=Builtin.Range.rangeSize lo hi 1:=by rw [rangeSize_one]; split <;> omega
  show IsRangeIter _ _ (lo+((0:Nat):Int) * 1) ((((hi - lo).toNat:Nat):Int) - ((0:Nat):Int)) 1
  rw [e1,e2]
  exact Heap.get?_push_size _ rfl
 ·have e:b=(s.heap.push { cls := .type "range", data := .fields #[.int lo t,.int hi u,.int 1 v] }).objs.size:=by simpa using hb
  subst e
  exact I1.fpOk (Nat.le_refl _) (I1.hok.fresh (Nat.le_refl _))
def iRng1 (ta:TA):TI:=fun σ H R=>ta σ H fun vs H1=>∃ j:Int,vs=[.int j] /\ -(2 ^ 62)<=j/\j < 2 ^ 62/\R (Itr 0 j.toNat) H1
def iRng2 (ta:TA):TI:=fun σ H R=>ta σ H fun vs H1=>∃ i j:Int,vs=[.int i,.int j]/\(-(2 ^ 62)<=i/\i < 2 ^ 62 /\ -(2 ^ 62)<=j/\j < 2 ^ 62)/\R (Itr i (j - i).toNat) H1
theorem znG {a:Expr} {ta:TA} (hg:Gl X "range") (hm:X.mg "range" = none) (ha:PA X [a] ta) (hs:autoParam (starEach [a] X.env=[(false,eval a X.env)]) AutoP.a3._auto_1):PI X tg (.Call (.Name "range" p) [a] [] pos) (iRng1 ta):=by
 intro pins s σ H R I h
 refine Call_ (zec I hg hm boot_range (PyProof.Rows.callWith_type1 (thn (ha pos pins s σ H _ I h) fun us s1 ⟨vs,H1,I1,r1,q1⟩=>?_) hs rfl))
 obtain ⟨j,e,q1,q2,q⟩:=q1
 subst e
 cases r1 with
 | cons r rr =>
  cases rr
  obtain ⟨t,rfl⟩:=r
  exact call_range_1 (zk4 I1 (by omega) (by omega) q1 q2 (by simpa using q))
theorem znF {a b:Expr} {ta:TA} (hg:Gl X "range") (hm:X.mg "range" = none) (ha:PA X [a,b] ta) (hs:autoParam (starEach [a,b] X.env=[(false,eval a X.env),(false,eval b X.env)]) AutoP.a3._auto_1) (hs2:autoParam (starEach [b] X.env=[(false,eval b X.env)]) AutoP.a3._auto_1) :
  PI X tg (.Call (.Name "range" p) [a,b] [] pos) (iRng2 ta):=by
 intro pins s σ H R I h
 refine Call_ (zec I hg hm boot_range (PyProof.Rows.callWith_type1 (thn (ha pos pins s σ H _ I h) fun us s1 ⟨vs,H1,I1,r1,q1⟩=>?_) (by rw [hs,hs2]) (by rw [hs2]; rfl)))
 obtain ⟨i,j,e,⟨q1,q2,q3,q4⟩,q⟩:=q1
 subst e
 cases r1 with
 | cons r rr =>
  cases rr with
  | cons r' rr =>
   cases rr
   obtain ⟨t,rfl⟩:=r
   obtain ⟨t',rfl⟩:=r'
   exact call_range_2 (zk4 I1 q1 q2 q3 q4 q)
def tFor (wi:TI) (g:TG) (tb:TS):TS:=fun D σ H=>wi σ H fun J H1=>∃ W:Nat->Nat->St->Hp->Prop,(∃ m,W 0 m σ H1)/\∀ i m σ H,W i m σ H →
 (J.stop i H/\D.nx σ H)∨(J.go i H/\∃ N:St->Hp->Prop,(∀ σ' H',N σ' H'->∃ m',m' < m/\W (i+1) m' σ' H')/\∀ x H',J.yld i H x H'->g x σ H' fun σ2 H2=>tb { D with nx:=N,ct:=N,bk:=D.nx } σ2 H2)
def zeS (fp:List Addr) (h:Heap):List (Addr × Obj):=fp.filterMap fun b=>(h.get? b).map fun o=>(b,o)
theorem zdW {o:Obj} (hb:b∈fp) (e:h.get? b=some o):(b,o)∈zeS fp h:=List.mem_filterMap.mpr ⟨b,hb,by rw [e]; rfl⟩
theorem zi3 {p:Addr × Obj} (hp:p∈zeS fp h):p.1∈fp/\h.get? p.1=some p.2:=by
 obtain ⟨b,hb,e⟩:=List.mem_filterMap.mp hp
 cases q:h.get? b with
 | none=>rw [q] at e; cases e
 | some o =>
  rw [q] at e
  have e':(b,o)=p:=Option.some.inj e
  subst e'
  exact ⟨hb,q⟩
theorem Inv.pinned (I:Inv X pins σ H s) (hf:∀ b∈fp,zfR X pins H b) (ho:∀ b∈fp,∃ o,s.heap.get? b=some o/\∀ v,o.data ≠ .cell v):Inv X (pins++zeS fp s.heap) σ H s :=
 I.pins_of fun p hp=>(List.mem_append.mp hp).elim (fun z=>I.pin p (List.mem_append_right _ z)) fun z=>by
  obtain ⟨hb,e⟩:=zi3 z
  obtain ⟨f0,f1,f2,_⟩:=hf p.1 hb
  obtain ⟨o,e',d⟩:=ho p.1 hb
  rw [e] at e'; cases e'
  exact ⟨e,f0,f1,f2,d⟩
theorem Inv.unpinned {pl:List (Addr × Obj)} (I:Inv X (pins++pl) σ H s):Inv X pins σ H s:=I.pins_of fun p hp=>I.pin p (List.mem_append_right _ (List.mem_append_left _ hp))
theorem ps_for {iter:Expr} {wi:TI} {g:TG} {tb:TS} (hp:PassesOwn (model X.prog X.w) X.A X.env X.xe) (hc:X.calm=true) (hi:PI X tg iter wi) (hg:PG X tg g) (hb:PSs X body tb)
  (hs:autoParam (∀ x,foldedSetIterable iter X.env x=pure x) AutoP.a2._auto_1):PS X (.For tg iter body [] pos) (tFor wi g tb):=by
 intro pins s σ H D I h
 refine wpAny_For (thn (hi pins s σ H _ I h) fun v s1 h1=>thn h1 fun itv s2 h2=>?_) hs
 obtain ⟨it,fp,tn,J,H2,e,I2,T,st2,f2,W,⟨m0,w0⟩,turn⟩:=h2
 subst e
 have stat:∀ {H':Hp},(∀ b∈fp,H' b=none)->∀ b∈fp,zfR X pins H' b:=fun hn b hb=>⟨hn b hb,(f2 b hb).2⟩
 refine codeAny_forLoop_any (fun n s'=>∃ i σ' H',Inv X pins σ' H' s'/\tn i s'.heap/\(∀ b∈fp,H' b=none)/\W i n σ' H') ?_ m0 ⟨0,σ,H2,I2,st2,fun b hb=>(f2 b hb).1,w0⟩
 rintro n s3 ⟨i,σ3,H3,I3,st3,fr3,w3⟩
 rcases turn i n σ3 H3 w3 with ⟨stop,qn⟩ | ⟨go,N,hN,step⟩
 ·refine wpAny_passesOwn hp (thn (T.done X rfl rfl rfl hc i pins s3 σ3 H3 X.xe I3 (stat fr3) st3 stop) fun r s4 ⟨hr,I4⟩=>?_)
  subst hr
  exact wpAny_execs_nil ⟨σ3,H3,I4,qn⟩
 ·refine wpAny_passesOwn hp (thn (T.item X rfl rfl rfl hc i pins s3 σ3 H3 X.xe I3 (stat fr3) st3 go) fun r s4 ⟨u,hr,h4⟩=>?_)
  subst hr
  refine wpAny_passesOwn hp (thn h4 fun _ s5 ⟨x,H5,I5,r5,y5,st5,fr5⟩=>?_)
  have I5':=I5.pinned (stat fr5) (T.obj _ _ st5)
  refine wpAny_passesOwn hp (thn (hg _ s5 σ3 H5 x u _ I5' r5 (step x H5 y5)) fun _ s6 ⟨σ6,H6,I6,q6⟩=>?_)
  refine wpAny_passesOwn hp (thn (hb _ s6 σ6 H6 _ I6 q6) fun f s7 q7=>?_)
  have again:∀ {σ7:St} {H7:Hp},Inv X (pins++zeS fp s5.heap) σ7 H7 s7->N σ7 H7->∃ m,m < n/\∃ i σ' H',Inv X pins σ' H' s7/\tn i s7.heap/\(∀ b∈fp,H' b=none)/\W i m σ' H':=fun {σ7 H7} I7 n7=>by
   obtain ⟨m',hm,w7⟩:=hN σ7 H7 n7
   refine ⟨m',hm,i+1,σ7,H7,I7.unpinned,T.keep _ _ _ st5 fun b hb o e=>(I7.pin (b,o) (List.mem_append_right _ (List.mem_append_right _ (zdW hb e)))).1,fun b hb=>?_,w7⟩
   obtain ⟨o,e,d⟩:=T.obj _ _ st5 b hb
   exact (I7.pin (b,o) (List.mem_append_right _ (List.mem_append_right _ (zdW hb e)))).2.1
  cases f with
  | next=>obtain ⟨σ7,H7,I7,n7⟩:=q7; exact again I7 n7
  | cont=>obtain ⟨σ7,H7,I7,n7⟩:=q7; exact again I7 n7
  | brk=>obtain ⟨σ7,H7,I7,q7⟩:=q7; exact ⟨σ7,H7,I7.unpinned,q7⟩
  | ret v=>obtain ⟨x7,σ7,H7,I7,r7,q7⟩:=q7; exact ⟨x7,σ7,H7,I7.unpinned,r7,q7⟩
end
abbrev R2:=V->V->Hp->VK->Prop
def OpR (X:Cx) (f:Value->Value->Sem Value) (r:R2):Prop :=
 ∀ (pins:List (Addr × Obj)) (s:Shared) (σ : St) (H:Hp) (x y:V) (v u:Value) (Q:VK),Inv X pins σ H s->RelV x v->RelV y u->r x y H Q →
  wpAny (model X.prog X.w) X.A (f v u) (EP X pins σ Q) X.xe s
def UnR (X:Cx) (f:Value->Sem Value) (r:V->Hp->VK->Prop):Prop :=
 ∀ (pins:List (Addr × Obj)) (s:Shared) (σ : St) (H:Hp) (x:V) (v:Value) (Q:VK),Inv X pins σ H s->RelV x v->r x H Q →
  wpAny (model X.prog X.w) X.A (f v) (EP X pins σ Q) X.xe s
def CallR (X:Cx) (f:Value) (r:List V->Hp->VK->Prop):Prop :=
 ∀ (pins:List (Addr × Obj)) (s:Shared) (σ : St) (H:Hp) (xs:List V) (us:List Value) (Q:VK),Inv X pins σ H s->Vals xs us->r xs H Q →
  wpAny (model X.prog X.w) X.A (call f us) (EP X pins σ Q) X.xe s
def tOp (r:R2) (ta tb:TE):TE:=fun σ H Q=>ta σ H fun x H1=>tb σ H1 fun y H2=>r x y H2 Q
def tUn (r:V->Hp->VK->Prop) (ta:TE):TE:=fun σ H Q=>ta σ H fun x H1=>r x H1 Q
def rI (C:Int->Int->Prop) (g:Int->Int->V):R2:=fun x y H Q=>∃ i j,x = .int i/\y = .int j/\C i j/\Q (g i j) H
def rI0 (g:Int->Int->V):R2:=fun x y H Q=>∃ i j,x = .int i/\y = .int j/\Q (g i j) H
def rU (g:Int->V):V->Hp->VK->Prop:=fun x H Q=>∃ i,x = .int i/\Q (g i) H
variable {g:Int->Int->Int} {f:Value->Value->Sem Value} {r:R2}
section
variable {a b:Expr} {tc:TE}
theorem binT (ha:PE X a ta) (hb:PE X b tb) {R:V->V->Hp->Prop} (I:Inv X pins σ H s)
  (h:ta σ H fun x H1=>tb σ H1 fun y H2=>R x y H2)
  (hf:∀ v u s2 x y H2,Inv X pins σ H2 s2->RelV x v->RelV y u->R x y H2->wpAny (model X.prog X.w) X.A (f v u) Q X.xe s2) :
  wpAny (model X.prog X.w) X.A (eval a X.env) (fun v s₁ => wpAny (model X.prog X.w) X.A (eval b X.env) (fun u s₂ => wpAny (model X.prog X.w) X.A (f v u) Q X.xe s₂) X.xe s₁) X.xe s:=by
 refine thn (ha pins s σ H _ I h) fun v s1 ⟨x,H1,I1,r1,q1⟩=>?_
 refine thn (hb pins s1 σ H1 _ I1 q1) fun u s2 ⟨y,H2,I2,r2,q2⟩=>?_
 exact hf v u s2 x y H2 I2 r1 r2 q2
theorem pe_op {op:Operator} (ho:OpR X (binaryOp op) r) (ha:PE X a ta) (hb:PE X b tb):PE X (.BinOp a op b pos) (tOp r ta tb):=by
 intro pins s σ H Q I h
 exact wpAny_BinOp (binT ha hb I h fun v u s2 x y H2 I2 rx ry q=>ho pins s2 σ H2 x y v u Q I2 rx ry q)
theorem pe_un {op:UnaryOp} {r:V->Hp->VK->Prop} (ho:UnR X (unaryOp op) r) (ha:PE X a ta):PE X (.UnaryOp op a pos) (tUn r ta):=by
 intro pins s σ H Q I h
 exact UnaryOp_ (thn (ha pins s σ H _ I h) fun v s1 ⟨x,H1,I1,r1,q1⟩=>ho pins s1 σ H1 x v Q I1 r1 q1)
theorem opI {C:Int->Int->Prop}
  (rule:∀ (i j:Int) (t u:Tok) (s:Shared) (Q:Value->Shared->Prop) (E:Value->Shared->Prop),C i j->Q (.int (g i j) s.toks) { s with toks:=s.toks+1 }->wpAny (model X.prog X.w) X.A (f (.int i t) (.int j u)) Q E s) :
  OpR X f (rI C fun i j => .int (g i j)):=by
 intro pins s σ H x y v u Q I rx ry h
 obtain ⟨i,j,rfl,rfl,hc,q⟩:=h
 obtain ⟨t,rfl⟩:=rx
 obtain ⟨t',rfl⟩:=ry
 exact rule i j t t' s _ _ hc ⟨.int (g i j),H,I.tok _,⟨_,rfl⟩,q⟩
theorem opI0
  (rule:∀ (i j:Int) (t u:Tok) (s:Shared) (Q:Value->Shared->Prop) (E:Value->Shared->Prop),Q (.int (g i j) s.toks) { s with toks:=s.toks+1 }->wpAny (model X.prog X.w) X.A (f (.int i t) (.int j u)) Q E s) :
  OpR X f (rI0 fun i j => .int (g i j)):=by
 intro pins s σ H x y v u Q I rx ry h
 obtain ⟨i,j,rfl,rfl,q⟩:=h
 obtain ⟨t,rfl⟩:=rx
 obtain ⟨t',rfl⟩:=ry
 exact rule i j t t' s _ _ ⟨.int (g i j),H,I.tok _,⟨_,rfl⟩,q⟩
theorem opB0 {g:Int->Int->Bool}
  (rule:∀ (i j:Int) (t u:Tok) (s:Shared) (Q:Value->Shared->Prop) (E:Value->Shared->Prop),Q (.bool (g i j)) s->wpAny (model X.prog X.w) X.A (f (.int i t) (.int j u)) Q E s) :
  OpR X f (rI0 fun i j => .bl (g i j)):=by
 intro pins s σ H x y v u Q I rx ry h
 obtain ⟨i,j,rfl,rfl,q⟩:=h
 obtain ⟨t,rfl⟩:=rx
 obtain ⟨t',rfl⟩:=ry
 exact rule i j t t' s _ _ ⟨.bl (g i j),H,I,rfl,q⟩
def CPow (i j:Int):Prop:=0<=j/\j<=1000000/\i.natAbs < 2 ^ 64
def CMul (i j:Int):Prop:=(-(2 ^ 64) < i/\i < 2 ^ 64)∨(-(2 ^ 64) < j/\j < 2 ^ 64)
theorem CMul.ok {i j:Int} (h:CMul i j):IntMulOk i j:=by
 rcases h with ⟨h1,h2⟩ | ⟨h1,h2⟩
 ·exact .of_left (intBits_le_64 h1 h2)
 ·exact .of_right (intBits_le_64 h1 h2)
theorem zlO (k:Nat):(0:Int)<=2 ^ k:=by
 rw [two_pow_cast]
 exact Int.natCast_nonneg _
theorem op_add:OpR X (binaryOp .Add) (rI0 fun i j => .int (i+j)):=opI0 fun _ _ _ _ _ _ _ q=>add_int q
theorem zbS:OpR X (binaryOp .Sub) (rI0 fun i j => .int (i - j)):=opI0 fun _ _ _ _ _ _ _ q=>sub_int q
theorem op_mul:OpR X (binaryOp .Mult) (rI CMul fun i j => .int (i * j)):=opI fun _ _ _ _ _ _ _ hc q=>mul_int q hc.ok
theorem zbE:OpR X (binaryOp .Mod) (rI (fun _ j=>0 < j) fun i j => .int (i % j)):=opI fun i j _ _ _ _ _ hc q=>by
 have h1:(0:Int) < j:=hc
 exact mod_int' (by omega) (by rw [Int.fmod_eq_emod_of_nonneg i (by omega)]; exact q)
theorem zd9:OpR X (binaryOp .Pow) (rI CPow fun i j => .int (i ^ j.toNat)):=opI fun _ _ _ _ _ _ _ hc q=>pow_int_small hc.1 hc.2.1 hc.2.2 q
theorem zce:OpR X (binaryOp .LShift) (rI CPow fun i j => .int (i * 2 ^ j.toNat)):=opI fun _ _ _ _ _ _ _ hc q=>lshift_int_small hc.1 hc.2.1 hc.2.2 q
theorem op_shr:OpR X (binaryOp .RShift) (rI (fun _ j=>0<=j) fun i j => .int (i / 2 ^ j.toNat)):=opI fun i j _ _ _ _ _ hc q =>
 rshift_int hc (by rw [Int.fdiv_eq_ediv_of_nonneg i (zlO _)]; exact q)
theorem op_and:OpR X (binaryOp .BitAnd) (rI0 fun i j => .int (Builtin.bitAnd i j)):=opI0 fun _ _ _ _ _ _ _ q=>and_int q
theorem unI {f:Value->Sem Value} {g:Int->Int}
  (rule:∀ (i:Int) (t:Tok) (s:Shared) (Q:Value->Shared->Prop) (E:Value->Shared->Prop),Q (.int (g i) s.toks) { s with toks:=s.toks+1 }->wpAny (model X.prog X.w) X.A (f (.int i t)) Q E s) :
  UnR X f (rU fun i => .int (g i)):=by
 intro pins s σ H x v Q I rx h
 obtain ⟨i,rfl,q⟩:=h
 obtain ⟨t,rfl⟩:=rx
 exact rule i t s _ _ ⟨.int (g i),H,I.tok _,⟨_,rfl⟩,q⟩
theorem zhi:UnR X (unaryOp .USub) (rU fun i => .int (-i)):=unI fun _ _ _ _ _ q=>neg_int q
end
def scal:V->V->Bool
 | .non,.non=>true | .non,.int _=>true | .int _,.non=>true | .non,.bl _=>true | .bl _,.non=>true | .non,.str _=>true | .str _,.non=>true
 | .int _,.int _=>true | .bl _,.bl _=>true | .str _,.str _=>true | .byt _,.byt _=>true
 | .int _,.str _=>true | .str _,.int _=>true | .bl _,.str _=>true | .str _,.bl _=>true
 | _,_=>false
def rEq:R2:=fun x y H Q=>scal x y=true/\Q (.bl (decide (x=y))) H
def rNe:R2:=fun x y H Q=>scal x y=true/\Q (.bl (!decide (x=y))) H
theorem zo9 {i j:Int}:decide (V.int i=V.int j)=(i == j):=by
 rw [Bool.eq_iff_iff]
 simp
theorem zrl {i j:Bool}:decide (V.bl i=V.bl j)=(i == j):=by
 rw [Bool.eq_iff_iff]
 simp
theorem zo8 {i j:Str}:decide (V.str i=V.str j)=(i == j):=by
 rw [Bool.eq_iff_iff]
 simp
theorem zpa {i j:Array UInt8}:decide (V.byt i=V.byt j)=(i.toList == j.toList):=by
 rw [Bool.eq_iff_iff]
 cases i
 cases j
 simp
variable {r':R2} {op:CmpOp}
section
variable {a b:Expr} {tc:TE}
theorem zaO {Q:VK} {k k':Bool} (I:Inv X pins σ H s) (q:Q (.bl k) H) (e:k=k'):EP X pins σ Q (.bool k') s:=by
 subst e
 exact ⟨.bl k,H,I,rfl,q⟩
theorem op_eq:OpR X (compareOp .Eq) rEq:=by
 intro pins s σ H x y v u Q I rx ry h
 obtain ⟨hs,q⟩:=h
 cases x with
 | non =>
  cases rx
  cases y with
  | non=>cases ry; exact PySem.EqNone.eq_none_none (zaO I q (by simp))
  | bl j=>cases ry; exact PySem.EqNone.eq_none_bool (zaO I q (by simp))
  | int j=>obtain ⟨t',rfl⟩:=ry; exact PySem.EqNone.eq_none_int (zaO I q (by simp))
  | str j=>obtain ⟨t',rfl⟩:=ry; exact PySem.EqNone.eq_none_str (zaO I q (by simp))
  | _=>exact absurd (show false=true from hs) Bool.false_ne_true
 | bl i =>
  cases rx
  cases y with
  | non=>cases ry; exact PySem.EqNone.eq_bool_none (zaO I q (by simp))
  | bl j=>cases ry; exact eq_bool (zaO I q zrl)
  | str j=>obtain ⟨t',rfl⟩:=ry; exact PySem.EqMixed.eq_bool_str (zaO I q (by simp))
  | _=>exact absurd (show false=true from hs) Bool.false_ne_true
 | int i =>
  obtain ⟨t,rfl⟩:=rx
  cases y with
  | non=>cases ry; exact PySem.EqNone.eq_int_none (zaO I q (by simp))
  | int j=>obtain ⟨t',rfl⟩:=ry; exact eq_int (zaO I q zo9)
  | str j=>obtain ⟨t',rfl⟩:=ry; exact PySem.EqMixed.eq_int_str (zaO I q (by simp))
  | _=>exact absurd (show false=true from hs) Bool.false_ne_true
 | str i =>
  obtain ⟨t,rfl⟩:=rx
  cases y with
  | non=>cases ry; exact PySem.EqNone.eq_str_none (zaO I q (by simp))
  | bl j=>cases ry; exact PySem.EqMixed.eq_str_bool (zaO I q (by simp))
  | int j=>obtain ⟨t',rfl⟩:=ry; exact PySem.EqMixed.eq_str_int (zaO I q (by simp))
  | str j=>obtain ⟨t',rfl⟩:=ry; exact eq_str (zaO I q zo8)
  | _=>exact absurd (show false=true from hs) Bool.false_ne_true
 | byt i =>
  obtain ⟨t,rfl⟩:=rx
  cases y with
  | byt j=>obtain ⟨t',rfl⟩:=ry; exact PySem.W.eq_bytes (zaO I q zpa)
  | _=>exact absurd (show false=true from hs) Bool.false_ne_true
 | _=>cases y <;> exact absurd (show false=true from hs) Bool.false_ne_true
theorem op_ne:OpR X (compareOp .NotEq) rNe:=by
 intro pins s σ H x y v u Q I rx ry h
 obtain ⟨hs,q⟩:=h
 cases x with
 | non =>
  cases rx
  cases y with
  | non=>cases ry; exact PySem.EqNone.ne_none_none (zaO I q (by simp))
  | bl j=>cases ry; exact PySem.EqNone.ne_none_bool (zaO I q (by simp))
  | int j=>obtain ⟨t',rfl⟩:=ry; exact PySem.EqNone.ne_none_int (zaO I q (by simp))
  | str j=>obtain ⟨t',rfl⟩:=ry; exact PySem.EqNone.ne_none_str (zaO I q (by simp))
  | _=>exact absurd (show false=true from hs) Bool.false_ne_true
 | bl i =>
  cases rx
  cases y with
  | non=>cases ry; exact PySem.EqNone.ne_bool_none (zaO I q (by simp))
  | bl j=>cases ry; exact ne_bool (zaO I q (congrArg not zrl))
  | str j=>obtain ⟨t',rfl⟩:=ry; exact PySem.EqMixed.ne_bool_str (zaO I q (by simp))
  | _=>exact absurd (show false=true from hs) Bool.false_ne_true
 | int i =>
  obtain ⟨t,rfl⟩:=rx
  cases y with
  | non=>cases ry; exact PySem.EqNone.ne_int_none (zaO I q (by simp))
  | int j=>obtain ⟨t',rfl⟩:=ry; exact ne_int (zaO I q (congrArg not zo9))
  | str j=>obtain ⟨t',rfl⟩:=ry; exact PySem.EqMixed.ne_int_str (zaO I q (by simp))
  | _=>exact absurd (show false=true from hs) Bool.false_ne_true
 | str i =>
  obtain ⟨t,rfl⟩:=rx
  cases y with
  | non=>cases ry; exact PySem.EqNone.ne_str_none (zaO I q (by simp))
  | bl j=>cases ry; exact PySem.EqMixed.ne_str_bool (zaO I q (by simp))
  | int j=>obtain ⟨t',rfl⟩:=ry; exact PySem.EqMixed.ne_str_int (zaO I q (by simp))
  | str j=>obtain ⟨t',rfl⟩:=ry; exact ne_str (zaO I q (congrArg not zo8))
  | _=>exact absurd (show false=true from hs) Bool.false_ne_true
 | byt i =>
  obtain ⟨t,rfl⟩:=rx
  cases y with
  | byt j=>obtain ⟨t',rfl⟩:=ry; exact PySem.W.ne_bytes (zaO I q (congrArg not zpa))
  | _=>exact absurd (show false=true from hs) Bool.false_ne_true
 | _=>cases y <;> exact absurd (show false=true from hs) Bool.false_ne_true
theorem op_lt:OpR X (compareOp .Lt) (rI0 fun i j => .bl (decide (i < j))):=opB0 fun _ _ _ _ _ _ _ q=>lt_int q
theorem op_le:OpR X (compareOp .LtE) (rI0 fun i j => .bl (decide (i<=j))):=opB0 fun _ _ _ _ _ _ _ q=>le_int q
theorem op_gt:OpR X (compareOp .Gt) (rI0 fun i j => .bl (decide (j < i))):=opB0 fun _ _ _ _ _ _ _ q=>gt_int q
theorem zqj:OpR X (compareOp .GtE) (rI0 fun i j => .bl (decide (j<=i))):=opB0 fun _ _ _ _ _ _ _ q=>ge_int q
theorem znT:OpR X (compareOp .Lt) (fun x y H Q=>∃ i j,x = .str i/\y = .str j/\Q (.bl (decide (i.cps.toList < j.cps.toList))) H):=by
 intro pins s σ H x y v u Q I rx ry h
 obtain ⟨i,j,rfl,rfl,q⟩:=h
 obtain ⟨t,rfl⟩:=rx
 obtain ⟨t',rfl⟩:=ry
 exact lt_str (zaO I q rfl)
theorem znV:OpR X (compareOp .In) (fun x y H Q=>∃ i j,x = .str i/\y = .str j/\Q (.bl (!(Builtin.Str.occurrences j i 0 j.length 1).isEmpty)) H):=by
 intro pins s σ H x y v u Q I rx ry h
 obtain ⟨i,j,rfl,rfl,q⟩:=h
 obtain ⟨t,rfl⟩:=rx
 obtain ⟨t',rfl⟩:=ry
 exact in_str (zaO I q rfl)
theorem op_isN:OpR X (compareOp .Is) (fun x y H Q=>y = .non/\Q (.bl (decide (x = .non))) H):=by
 intro pins s σ H x y v u Q I rx ry h
 obtain ⟨rfl,q⟩:=h
 cases ry
 refine is_none_gen (zaO I q ?_)
 cases x <;> first
  | (cases rx; rfl)
  | (obtain ⟨t,rfl⟩:=rx; rfl)
theorem zsx:OpR X (compareOp .IsNot) (fun x y H Q=>y = .non/\Q (.bl (!decide (x = .non))) H):=by
 intro pins s σ H x y v u Q I rx ry h
 obtain ⟨rfl,q⟩:=h
 cases ry
 refine isnot_none_gen (zaO I q ?_)
 cases x <;> first
  | (cases rx; rfl)
  | (obtain ⟨t,rfl⟩:=rx; rfl)
theorem ziY:OpR X (compareOp .NotIn) (fun x y H Q=>∃ i j,x = .str i/\y = .str j/\Q (.bl (!(!(Builtin.Str.occurrences j i 0 j.length 1).isEmpty))) H):=by
 intro pins s σ H x y v u Q I rx ry h
 obtain ⟨i,j,rfl,rfl,q⟩:=h
 obtain ⟨t,rfl⟩:=rx
 obtain ⟨t',rfl⟩:=ry
 exact notIn_str (zaO I q rfl)
theorem OpR.or (h:OpR X f r) (h':OpR X f r'):OpR X f (fun x y H Q=>r x y H Q∨r' x y H Q):=by
 intro pins s σ H x y v u Q I rx ry q
 rcases q with q | q
 ·exact h pins s σ H x y v u Q I rx ry q
 ·exact h' pins s σ H x y v u Q I rx ry q
theorem zax (b:Expr) (h:autoParam (op ≠ .In) AutoP.a1._auto_1) (h2:autoParam (op ≠ .NotIn) AutoP.a1._auto_1):behindInMarks op b=false:=by
 have e1:(op == CmpOp.In)=false:=by cases op <;> first | rfl | exact absurd rfl h
 have e2:(op == CmpOp.NotIn)=false:=by cases op <;> first | rfl | exact absurd rfl h2
 cases b <;> simp [behindInMarks,e1,e2]
theorem zss (ho:OpR X (compareOp op) r) (ha:PE X a ta) (hb:PE X b tb) (hm:behindInMarks op b=false):PE X (.Compare a [op] [b] pos) (tOp r ta tb):=by
 intro pins s σ H Q I h
 exact wpAny_Compare1 (binT ha hb I h fun v u s2 x y H2 I2 rx ry q=>ho pins s2 σ H2 x y v u Q I2 rx ry q) hm
def tTest (t:TE):TT:=fun σ H Q=>t σ H fun x H'=>∃ k,x = .bl k/\Q k H'
theorem zr9 (ho:OpR X (compareOp op) r) (ha:PE X a ta) (hb:PE X b tb) (hm:behindInMarks op b=false):PT X (.Compare a [op] [b] pos) (tTest (tOp r ta tb)):=by
 intro pins s σ H Q I h
 refine wpAny_isTrue_Compare1 (thn (ha pins s σ H _ I h) fun v s1 ⟨x,H1,I1,r1,q1⟩=>thn (hb pins s1 σ H1 _ I1 q1) fun u s2 ⟨y,H2,I2,r2,q2⟩ =>
  thn (ho pins s2 σ H2 x y v u _ I2 r1 r2 q2) fun c s3 ⟨z,H3,I3,r3,k,e,q3⟩=>?_) hm
 subst e
 cases r3
 exact wpAny_truthy_bool ⟨H3,I3,q3⟩
def zqX (r r':R2) (ta tb tc:TE):TE:=fun σ H Q=>ta σ H fun x H1=>tb σ H1 fun y H2=>r x y H2 fun z H3=>∃ k,z = .bl k ∧
 (if k=true then tc σ H3 fun w' H4=>r' y w' H4 Q else Q (.bl false) H3)
theorem zqf {op':CmpOp} (ho:OpR X (compareOp op) r) (ho':OpR X (compareOp op') r') (ha:PE X a ta) (hb:PE X b tb) (hc:PE X c tc)
  (hm:autoParam (lastMarks [op,op'] [b,c]=false) AutoP.a4._auto_1):PE X (.Compare a [op,op'] [b,c] pos) (zqX r r' ta tb tc):=by
 intro pins s σ H Q I h
 refine Compare_chain (thn (ha pins s σ H _ I h) fun v s1 ⟨x,H1,I1,r1,q1⟩=>chain_link (thn (hb pins s1 σ H1 _ I1 q1) fun u s2 ⟨y,H2,I2,r2,q2⟩ =>
  thn (ho pins s2 σ H2 x y v u _ I2 r1 r2 q2) fun d s3 ⟨z,H3,I3,r3,k,e,q3⟩=>?_)) hm
 subst e
 cases r3
 refine wpAny_truthy_bool ?_
 cases k with
 | false=>exact ite_ff ⟨.bl false,H3,I3,rfl,q3⟩
 | true=>exact ite_tt (chain_last (thn (hc pins s3 σ H3 _ I3 q3) fun w' s4 ⟨z',H4,I4,r4,q4⟩=>ho' pins s4 σ H4 y z' u w' Q I4 r2 r4 q4))
theorem zhs:(sizeLine:Nat) < 2 ^ 63:=by rw [sizeLine_eq]; decide
theorem zl7:OpR X (binaryOp .Add) (fun x y H Q=>∃ i j,x = .str i/\y = .str j/\i.length+j.length<=sizeLine/\Q (.str (i++j)) H):=by
 intro pins s σ H x y v u Q I rx ry h
 obtain ⟨i,j,rfl,rfl,hz,q⟩:=h
 obtain ⟨t,rfl⟩:=rx
 obtain ⟨t',rfl⟩:=ry
 exact add_str (fun t' tk=>⟨.str (i++j),H,I.tok _,⟨_,rfl⟩,q⟩) hz
theorem zcn {x:V} (r:Vals [x] us):∃ u,us=[u]/\RelV x u:=by
 cases r with
 | cons r1 r2=>cases r2; exact ⟨_,rfl,r1⟩
theorem zjW {x:V} (r:Vals [x,y] us):∃ u w',us=[u,w']/\RelV x u/\RelV y w':=by
 cases r with
 | cons r1 r2 =>
  cases r2 with
  | cons r3 r4=>cases r4; exact ⟨_,_,rfl,r1,r3⟩
theorem zlK:CallR X (.builtin "abs") (fun xs H Q=>∃ i,xs=[.int i]/\Q (.int (if i < 0 then -i else i)) H):=by
 intro pins s σ H xs us Q I r h
 obtain ⟨i,rfl,q⟩:=h
 obtain ⟨u,rfl,t,rfl⟩:=zcn r
 exact call_abs_int fun u tk=>⟨.int (if i < 0 then -i else i),H,I.tok _,⟨_,rfl⟩,q⟩
theorem zdc (hc:X.calm=true):CallR X (.builtin "max") (fun xs H Q=>∃ i j,xs=[.int i,.int j]/\Q (.int (if j>i then j else i)) H):=by
 intro pins s σ H xs us Q I r h
 obtain ⟨i,j,rfl,q⟩:=h
 obtain ⟨u,w',rfl,⟨t,rfl⟩,⟨t',rfl⟩⟩:=zjW r
 refine max_two_ints (I.ok.hd hc) fun h' tk k=>⟨_,H,I.kept k,?_,q⟩
 by_cases hj:j>i
 ·rw [if_pos hj,if_pos hj]; exact ⟨_,rfl⟩
 ·rw [if_neg hj,if_neg hj]; exact ⟨_,rfl⟩
theorem zjH (hc:X.calm=true):CallR X (.builtin "min") (fun xs H Q=>∃ i j,xs=[.int i,.int j]/\Q (.int (if j < i then j else i)) H):=by
 intro pins s σ H xs us Q I r h
 obtain ⟨i,j,rfl,q⟩:=h
 obtain ⟨u,w',rfl,⟨t,rfl⟩,⟨t',rfl⟩⟩:=zjW r
 refine min_two_ints (I.ok.hd hc) fun h' tk k=>⟨_,H,I.kept k,?_,q⟩
 by_cases hj:j < i
 ·rw [if_pos hj,if_pos hj]; exact ⟨_,rfl⟩
 ·rw [if_neg hj,if_neg hj]; exact ⟨_,rfl⟩
theorem zpn:CallR X (.type "int") (fun xs H Q=>(∃ i,xs=[.int i]/\Q (.int i) H)∨∃ k,xs=[.bl k]/\Q (.int (if k then 1 else 0)) H):=by
 intro pins s σ H xs us Q I r h
 rcases h with ⟨i,rfl,q⟩ | ⟨k,rfl,q⟩
 ·obtain ⟨u,rfl,t,rfl⟩:=zcn r
  exact call_int_int ⟨.int i,H,I,⟨_,rfl⟩,q⟩
 ·obtain ⟨u,rfl,r1⟩:=zcn r
  cases r1
  exact call_int_bool ⟨.int (if k then 1 else 0),H,I.tok _,⟨_,rfl⟩,q⟩
theorem zjG:CallR X (.type "str") (fun xs H Q=>∃ i,xs=[.int i]/\i.natAbs.log2 < 1920/\Q (.str (toString i)) H):=by
 intro pins s σ H xs us Q I r h
 obtain ⟨i,rfl,hz,q⟩:=h
 obtain ⟨u,rfl,t,rfl⟩:=zcn r
 exact PySem.P.str_of_int hz ⟨.str _,H,I.tok _,⟨_,rfl⟩,q⟩
end
structure ObjM (h:Heap) (x dx C:Addr) (mA:Str->Option Value):Prop where
 obj:h.get? x=some (PySem.W.instObj C dx)
 ns:h.Ns1 dx mA
 ne:dx≠x
variable {dx:Addr} {mA:Str->Option Value}
theorem zou (n:h.Ns1 dx mA):∃ od,h.get? dx=some od/\∀ name,PySem.W.lookIn name od=some (mA name):=by
 obtain ⟨o,es,ep,ho,hd,hk,_,hm⟩:=n
 refine ⟨o,ho,fun name=>?_⟩
 have e:=hm name
 unfold nsFind findBy at e
 rw [<- Array.find?_toList] at e
 unfold PySem.W.lookIn
 rw [hd]
 dsimp only
 split
 ·rename_i y q
  rw [q] at e
  exact congrArg some e
 ·rename_i q
  rw [q] at e
  have a:es.toList.any (·.refKey)=false:=by
   rw [List.any_eq_false]
   intro y hy
   obtain ⟨z,t,hkey⟩:=hk y (Array.mem_toList_iff.mp hy)
   simp [DictEntry.refKey,hkey]
  have a' : ¬ es.toList.any (·.refKey)=true:=by rw [a]; exact Bool.false_ne_true
  rw [if_neg a']
  exact congrArg some e
variable {C:Addr}
theorem ObjM.look {x:Addr} (I:ObjM h x dx C mA):∃ od,PySem.W.InstAt h x (PySem.W.instObj C dx) C (some od)/\∀ name,PySem.W.lookIn name od=some (mA name) :=
 let ⟨od,ho,hl⟩:=zou I.ns
 ⟨od,⟨I.obj,rfl,rfl,ho⟩,hl⟩
variable {prog:Program} {name:Str} {pl:Sem Bool} {kw:List (Str × Value)}
section
variable {w:World} {x f:Addr} {v:Value}
theorem zsY {expr:Bool} (X:K.In s.heap) (I:ObjM s.heap x dx C mA) (hg:PySem.W.plainGet K C name=true) (hh:PySem.W.hasDictIn K C=true)
  (ha:PySem.W.findIn K (.ref C) name=some none) (hv:mA name=some v) (hv':PySem.W.handedIn v=true) (h:Q v { s with toks:=s.toks+1 }) :
  wpAny (model prog w) A (getAttr (.ref x) name expr) Q E s:=by
 obtain ⟨od,J,hl⟩:=I.look
 exact PySem.W.get_value X J (PySem.W.plainGet_of hg).1 (PySem.W.findObj_own hh ha rfl (by rw [hl,hv])) hv' h
theorem zqH {Q:Value × List Value->Shared->Prop} (X:K.In s.heap) (I:ObjM s.heap x dx C mA) (hg:PySem.W.plainGet K C name=true)
  (hf:PySem.W.findIn K (.ref C) name=some (some (.ref f))) (ht:PySem.W.isFn K (.ref f)=true) (hv:mA name=none) (h:Q (.ref f,[.ref x]) s) :
  wpAny (model prog w) A (getMethod (.ref x) name pl) Q E s:=by
 obtain ⟨od,J,hl⟩:=I.look
 exact PySem.W.method_fn X J (PySem.W.plainGet_of hg).1 (PySem.W.plainGet_of hg).2 hf (beq_iff_eq.mp ht) (by show (PySem.W.lookIn name od).map (·.isSome)=some false; rw [hl,hv]; rfl) h
theorem zrH {ns:List Str} {Q:Unit->Shared->Prop} (X:K.In s.heap) (I:ObjM s.heap x dx C mA)
  (hs:PySem.W.findIn K (.ref C) "__setattr__" = some (some (.builtin "object.__setattr__"))) (hp:PySem.W.plainOver K C=true) (ht:PySem.W.takerIn K C name=some none) (hh:PySem.W.hasDictIn K C=true)
  (hw:PySem.Within mA ns) (hsz:ns.length<=sizeLine)
  (h:∀ h',ObjM h' x dx C (fun y=>if y=name then some v else mA y)->Heap.SameBut dx s.heap h'->Q () { s with heap:=h',toks:=s.toks+2 }) :
  wpAny (model prog w) A (setAttr (.ref x) name v) Q E s:=by
 obtain ⟨od,J,hl⟩:=I.look
 refine PySem.W.set_plain X J hs (PySem.W.osa_open (s:={ s with toks:=s.toks+1 }) (r:=none) X J hp ht fun b=>?_)
 obtain ⟨cd,hc,hd'⟩:=PySem.W.any_some hh
 have hx:s.heap.get? x=some ⟨.ref C,some dx,.plain,#[]⟩:=I.obj
 refine wpAny_bind (wpAny_pure (wpAny_bind (wpAny_bind (wpAny_loadPart hx (wpAny_bind (PySem.W.Looks.here (s:={ s with toks:=s.toks+1 }) (PySem.W.looks_clsIn X hc) ?_))))))
 rw [hd']
 refine wpAny_pure (a:=some dx) (wpAny_bind (wpAny_pure (wpAny_bind ?_)))
 refine wpAny_nsSet1 (s:={ s with toks:=s.toks+1 }) I.ns fun h' hn2 hs2=>?_
 obtain ⟨oD,esD,epD,hoD,hdD,hcD⟩:=hn2.count (PySem.Within.cons name v hw)
 refine wpAny_bind (wpAny_lookBehind hoD (by rw [hdD]; exact pastItsLine_dict (Nat.le_trans hcD (by rw [List.length_cons]; omega))) ?_)
 exact wpAny_pure (h _ ⟨(hs2.2 _ (Ne.symm I.ne)).trans I.obj,hn2,I.ne⟩ hs2)
theorem zqw {R:Result->Shared->Prop} {vs:List Value} (X:K.In s.heap) (hm:PySem.W.makesIn K C=true)
  (hi:PySem.W.findIn K (.ref C) "__init__" = some (some (.ref f))) (hf:PySem.W.typeIn K (.ref f)=some (.type "function"))
  (h:codeAny (model prog w) (A.under (.builtin "type.__call__" ⟨.ref C::vs,kw⟩)) (.call (.ref f) ⟨.ref (s.heap.objs.size+1)::vs,kw⟩) (PySem.W.InitBack (s.heap.objs.size+1) R)
   { s with heap:=(s.heap.push PySem.W.emptyDict).push (PySem.W.instObj C s.heap.objs.size) }) :
  codeAny (model prog w) A (.call (.ref C) ⟨vs,kw⟩) R s:=by
 obtain ⟨hh,g,d,t,os⟩:=s
 exact PySem.W.make_core (PySem.W.makes_of X hm) (PySem.W.looks_findIn X hi) (fun self=>PySem.W.bind_fn X self hf) (.inl rfl) h
end
def zg5 (f:Str) (v:V):List (Str × V)->List (Str × V)
 | []=>[(f,v)]
 | (g,x)::r=>if g=f then (g,v)::r else (g,x)::zg5 f v r
theorem zgx (f g:Str) (v:V):∀ fs:List (Str × V),(zg5 f v fs).lookup g=if g=f then some v else fs.lookup g
 | []=>by
  show List.lookup g [(f,v)]=_
  by_cases h:g=f
  ·have hb:(g == f)=true:=beq_iff_eq.mpr h
   simp only [List.lookup,hb,if_pos h]
  ·have hb:(g == f)=false:=beq_eq_false_iff_ne.mpr h
   simp only [List.lookup,hb,if_neg h]
 | (k,x)::r=>by
  have ih:=zgx f g v r
  rw [show zg5 f v ((k,x)::r)=(if k=f then (k,v)::r else (k,x)::zg5 f v r) from rfl]
  by_cases hk:k=f
  ·rw [if_pos hk]
   by_cases h:g=k
   ·have hb:(g == k)=true:=beq_iff_eq.mpr h
    simp only [List.lookup,hb,if_pos (h.trans hk)]
   ·have hb:(g == k)=false:=beq_eq_false_iff_ne.mpr h
    simp only [List.lookup,hb,if_neg (fun e:g=f=>h (e.trans hk.symm))]
  ·rw [if_neg hk]
   by_cases h:g=k
   ·have hb:(g == k)=true:=beq_iff_eq.mpr h
    simp only [List.lookup,hb,if_neg (fun e:g=f=>hk (h.symm.trans e))]
   ·have hb:(g == k)=false:=beq_eq_false_iff_ne.mpr h
    simp only [List.lookup,hb]
    exact ih
theorem zgz (f:Str) (v:V):∀ fs:List (Str × V),f∈(zg5 f v fs).map (·.1)/\∀ g,g∈fs.map (·.1)->g∈(zg5 f v fs).map (·.1)
 | []=>⟨by simp [zg5],fun g h=>by simp at h⟩
 | (k,x)::r=>by
  obtain ⟨i1,i2⟩:=zgz f v r
  rw [show zg5 f v ((k,x)::r)=(if k=f then (k,v)::r else (k,x)::zg5 f v r) from rfl]
  by_cases hk:k=f
  ·rw [if_pos hk]
   subst hk
   exact ⟨by simp,fun g h=>by simpa using h⟩
  ·rw [if_neg hk]
   refine ⟨?_,fun g h=>?_⟩
   ·rw [List.map_cons]
    exact List.mem_cons_of_mem _ i1
   ·rw [List.map_cons] at h ⊢
    rcases List.mem_cons.mp h with e | e
    ·exact List.mem_cons.mpr (.inl e)
    ·exact List.mem_cons_of_mem _ (i2 g e)
theorem zgy (f:Str) (v:V):∀ fs:List (Str × V),(zg5 f v fs).length<=fs.length+1
 | []=>by simp [zg5]
 | (k,x)::r=>by
  have ih:=zgy f v r
  rw [show zg5 f v ((k,x)::r)=(if k=f then (k,v)::r else (k,x)::zg5 f v r) from rfl]
  by_cases hk:k=f
  ·rw [if_pos hk,List.length_cons,List.length_cons]; omega
  ·rw [if_neg hk,List.length_cons,List.length_cons]; omega
theorem RelO.some_of {o:Option Value} (r:RelO (some v) o):∃ u,o=some u/\RelV v u:=by
 cases o with
 | none=>exact (show False from r).elim
 | some u=>exact ⟨u,rfl,r⟩
theorem RelO.none_of {o:Option Value} (r:RelO none o):o=none:=by
 cases o with
 | none=>rfl
 | some u=>exact (show False from r).elim
theorem zoQ (r:RelV v u):PySem.W.handedIn u=true:=by
 cases v with
 | non=>cases (show u=Value.none from r); rfl
 | bl b=>cases (show u=Value.bool b from r); rfl
 | int i=>obtain ⟨t,e⟩:=(show ∃ t,u=Value.int i t from r); cases e; rfl
 | str x=>obtain ⟨t,e⟩:=(show ∃ t,u=Value.str x t from r); cases e; rfl
 | byt b=>obtain ⟨t,e⟩:=(show ∃ t,u=Value.bytes b t from r); cases e; rfl
 | flt b=>obtain ⟨t,e⟩:=(show ∃ t,u=Value.float b t from r); cases e; rfl
 | ref a=>cases (show u=Value.ref a from r); rfl
 | ty n=>cases (show u=Value.type n from r); rfl
section
variable {w:World} {fs fs':List (Str × V)}
theorem ziq (hok:HOk P w H h) (e:H a=some (.ins C dx fs)):∃ mA,ObjM h a dx C mA/\(∀ f,RelO (fs.lookup f) (mA f))/\PySem.Within mA (fs.map (·.1))/\fs.length<=1000/\H dx=some (.own a):=by
 obtain ⟨d,z,ne,ob,mA,n,r,q⟩:=(show ObjOk P w H h a (.ins C dx fs) from hok a _ e)
 exact ⟨mA,⟨ob,n,ne⟩,r,q,z,d⟩
end
structure Cls (K:PySem.W.Frag) (C:Addr):Prop where
 pg:PySem.W.plainGet K C Str.empty=true
 hd:PySem.W.hasDictIn K C=true
 po:PySem.W.plainOver K C=true
 sa:PySem.W.findIn K (.ref C) "__setattr__" = some (some (.builtin "object.__setattr__"))
theorem Cls.get (c:Cls K C) (f:Str):PySem.W.plainGet K C f=true:=c.pg
def NoAttr (K:PySem.W.Frag) (C:Addr) (f:Str):Prop:=PySem.W.findIn K (.ref C) f=some none
theorem NoAttr.taker {f:Str} (n:NoAttr K C f):PySem.W.takerIn K C f=some none:=by
 unfold PySem.W.takerIn
 rw [show PySem.W.findIn K (.ref C) f=some none from n]
 rfl
structure Meth (K:PySem.W.Frag) (C:Addr) (m:Str) (f:Addr):Prop where
 at_:PySem.W.findIn K (.ref C) m=some (some (.ref f))
 fn:PySem.W.isFn K (.ref f)=true
 kp:PySem.W.keepIn K (.ref f)=true
variable {m:Str}
section
variable {fs:List (Str × V)} {f:Str}
theorem zmy {b:Bool} (I:Inv X pins σ H s) (e:H a=some (.ins C dx fs)) (c:Cls X.K C) (n:NoAttr X.K C f) (l:fs.lookup f=some v)
  (h:∀ u s',Inv X pins σ H s'->RelV v u->Q u s'):wpAny (model X.prog X.w) A (getAttr (.ref a) f b) Q E s:=by
 obtain ⟨mA,O,r,_,_,_⟩:=ziq I.hok e
 obtain ⟨u,hu,ru⟩:=RelO.some_of (v:=v) (o:=mA f) (by rw [<- l]; exact r f)
 exact zsY I.kIn O (c.get f) c.hd n hu (zoQ ru) (h u _ (I.tok _) ru)
theorem zfj {g:Addr} {Q:Value × List Value->Shared->Prop} (I:Inv X pins σ H s) (e:H a=some (.ins C dx fs)) (c:Cls X.K C) (k:Meth X.K C m g) (l:fs.lookup m=none)
  (h:Q (.ref g,[.ref a]) s):wpAny (model X.prog X.w) A (getMethod (.ref a) m pl) Q E s:=by
 obtain ⟨mA,O,r,_,_,_⟩:=ziq I.hok e
 have hn:mA m=none:=RelO.none_of (by rw [<- l]; exact r m)
 exact zqH I.kIn O (c.get m) k.at_ k.fn hn h
theorem zlY {Q:Unit->Shared->Prop} (I:Inv X pins σ H s) (e:H a=some (.ins C dx fs)) (c:Cls X.K C) (n:NoAttr X.K C f) (hl:fs.length < 1000) (ry:RelV y u)
  (h:∀ s',Inv X pins σ (upd H a (.ins C dx (zg5 f y fs))) s'->Q () s'):wpAny (model X.prog X.w) A (setAttr (.ref a) f u) Q E s:=by
 obtain ⟨mA,O,r,wi,_,ho⟩:=ziq I.hok e
 have hz:(fs.map (·.1)).length<=sizeLine:=by rw [List.length_map,sizeLine_eq]; omega
 refine zrH I.kIn O c.sa c.po n.taker c.hd wi hz fun h' O' sb=>h _ ?_
 have hd:∃ o,h'.get? dx=some o:=let ⟨o,_,_,e',_⟩:=O'.ns; ⟨o,e'⟩
 refine I.write (x:=a) (e:=dx) (by rw [e]; exact True.intro) (.inr ho) (fun b q hb z=>(sb.2 b hb).trans z) hd ?_
 refine ⟨by rw [zav O.ne]; exact ho,?_,O.ne,O'.obj,_,O'.ns,fun g=>?_,fun g hg=>?_⟩
 ·have:=zgy f y fs; omega
 ·show RelO ((zg5 f y fs).lookup g) (if g=f then some u else mA g)
  rw [zgx]
  by_cases q:g=f
  ·rw [if_pos q,if_pos q]; exact ry
  ·rw [if_neg q,if_neg q]; exact r g
 ·by_cases q:g=f
  ·rw [q]; exact (zgz f y fs).1
  ·refine (zgz f y fs).2 g (wi g fun z=>hg ?_)
   show (if g=f then some u else mA g)=none
   rw [if_neg q]; exact z
theorem Inv.made (I:Inv X pins σ H s):Inv X pins σ (upd (upd H s.heap.objs.size (.own (s.heap.objs.size+1))) (s.heap.objs.size+1) (.ins C s.heap.objs.size []))
  { s with heap:=(s.heap.push PySem.W.emptyDict).push (PySem.W.instObj C s.heap.objs.size) }:=by
 have e1:(s.heap.push PySem.W.emptyDict).get? s.heap.objs.size=some PySem.W.emptyDict:=Heap.get?_push_size s.heap rfl
 have e2:((s.heap.push PySem.W.emptyDict).push (PySem.W.instObj C s.heap.objs.size)).get? (s.heap.objs.size+1)=some (PySem.W.instObj C s.heap.objs.size):=by
  have:=Heap.get?_push_size (s.heap.push PySem.W.emptyDict) (o:=PySem.W.instObj C s.heap.objs.size) rfl
  rwa [Heap.size_push] at this
 have e3:(s.heap.push PySem.W.emptyDict).Ns s.heap.objs.size (fun _=>none):=⟨PySem.W.emptyDict,#[],_,e1,rfl,(fun e he=>absurd he (by simp)),fun _=>rfl⟩
 have I1:=I.laid (a:=s.heap.objs.size) (o := .own (s.heap.objs.size+1)) (h':=s.heap.push PySem.W.emptyDict) (t':=s.toks) (fun b u q=>Heap.get?_push_of_some _ q) (Nat.le_refl _) ⟨_,e1⟩
 refine I1.laid (a:=s.heap.objs.size+1) (o := .ins C s.heap.objs.size []) (t':=s.toks) (fun b u q=>Heap.get?_push_of_some _ q) (Nat.le_of_eq (Heap.size_push _ _)) ?_
 have ne:s.heap.objs.size≠s.heap.objs.size+1:=Nat.ne_of_lt (Nat.lt_succ_self _)
 refine ⟨by rw [zav ne,zaI],Nat.zero_le _,ne,e2,fun _=>none,(Heap.Ns1.of_empty e3).at fun o q=>Heap.get?_push_of_some _ q,fun _=>True.intro,fun y hy=>absurd rfl hy⟩
theorem zte {w:World} {env:Env} {e:Expr} {f:Str} (hb:attributeBase e f env (eval e env)=eval e env)
  (h:wpAny (model prog w) A (eval e env) (fun o s₁ => wpAny (model prog w) A (getAttr o f true) Q E s₁) E s):wpAny (model prog w) A (eval (.Attribute e f pos) env) Q E s :=
 Attribute_any_ h (by rw [arm_eval_Attribute,hb])
end
def tFld (K:PySem.W.Frag) (ta:TE) (f:Str):TE:=fun σ H Q=>ta σ H fun x H1=>∃ a C dx fs v,x = .ref a/\H1 a=some (.ins C dx fs)/\Cls K C/\NoAttr K C f/\fs.lookup f=some v/\Q v H1
def sFld (K:PySem.W.Frag) (ta tv:TE) (f:Str):TS:=fun D σ H=>tv σ H fun y H1=>ta σ H1 fun x H2=>∃ a C dx fs,x = .ref a/\H2 a=some (.ins C dx fs)/\Cls K C/\NoAttr K C f/\fs.length < 1000 ∧
 D.nx σ (upd H2 a (.ins C dx (zg5 f y fs)))
section
variable {o e value:Expr} {f:Str} {tpos:Pos} {tv:TE}
theorem pe_fld (he:PE X e ta) (hb:attributeBase e f X.env (eval e X.env)=eval e X.env):PE X (.Attribute e f pos) (tFld X.K ta f):=by
 intro pins s σ H Q I h
 refine zte hb (thn (he pins s σ H _ I h) fun u s1 ⟨x,H1,I1,rx,a,C,dx,fs,v,ex,ea,c,n,l,q⟩=>?_)
 subst ex
 obtain rfl:u=Value.ref a:=rx
 exact zmy I1 ea c n l fun u' s2 I2 ru=>⟨v,H1,I2,ru,q⟩
theorem ps_fld (ha:PE X o ta) (hv:PE X value tv) (hs:swapsWith value (some (.Attribute o f pos')) pos.line X.env=pure false):PS X (.Assign [.Attribute o f pos'] value pos) (sFld X.K ta tv f):=by
 intro pins s σ H D I h
 refine plainObj_wpAny_Assign_Attribute (thn (hv pins s σ H _ I h) fun u s1 ⟨y,H1,I1,ry,q⟩=>thn (ha pins s1 σ H1 _ I1 q) fun ov s2 ⟨x,H2,I2,rx,a,C,dx,fs,ex,ea,c,n,l,q2⟩=>?_) hs
 subst ex
 obtain rfl:ov=Value.ref a:=rx
 exact zlY I2 ea c n l ry fun s3 I3=>⟨σ,_,I3,q2⟩
end
section
variable {c:Value} {b:Bool}
inductive TyOf (K:PySem.W.Frag) (H:Hp):V->Value->Prop where
 | non:TyOf K H .non (.type "NoneType")
 | bl (x:Bool):TyOf K H (.bl x) (.type "bool")
 | int (i:Int):TyOf K H (.int i) (.type "int")
 | str (x:Str):TyOf K H (.str x) (.type "str")
 | flt (x:UInt64):TyOf K H (.flt x) (.type "float")
 | lst {a:Addr} {xs:List V} (e:H a=some (.lst xs)):TyOf K H (.ref a) (.type "list")
 | frz {a:Addr} {o:Obj} {xs:List V} (e:H a=some (.frz o (.lst xs))):TyOf K H (.ref a) (.type "list")
 | tup {a:Addr} {xs:List V} (e:H a=some (.tup xs)):TyOf K H (.ref a) (.type "tuple")
 | dK {a:Addr} {kvs:List (Key × V)} (e:H a=some (.dK kvs)):TyOf K H (.ref a) (.type "dict")
 | dT {a:Addr} {kvs:List (List Key × V)} (e:H a=some (.dT kvs)):TyOf K H (.ref a) (.type "dict")
 | ins {a C dx:Addr} {fs:List (Str × V)} (e:H a=some (.ins C dx fs)) (cl:Cls K C) (ha:PySem.W.findIn K (.ref C) "__class__" = some (some (.builtin "object.__class__")))
   (hn:PySem.W.specialIn K (.builtin "object.__class__") "__get__" = some (some (.builtin "getset_descriptor.__get__"))) (htk:PySem.W.takesIn K (.builtin "object.__class__")=some true)
   (hm:PySem.W.mroIn K C (.type "object")=some true):TyOf K H (.ref a) (.ref C)
theorem zgB {x:V} {t:Value} (I:Inv X pins σ H s) (rx:RelV x u) (ty:TyOf X.K H x t) (e:PySem.W.kitOne X.K t c=some b) (h:∀ tk,Q (.bool b) { s with toks:=tk }) :
  wpAny (model X.prog X.w) A (call (.builtin "isinstance") [u,c]) Q E s:=by
 cases ty with
 | non=>cases (show u=Value.none from rx); exact PySem.W.kia_one PySem.W.kitx_none I.kIn True.intro e (fun z=>nomatch z) h
 | bl y=>cases (show u=Value.bool y from rx); exact PySem.W.kia_one PySem.W.kitx_bool I.kIn True.intro e (fun z=>nomatch z) h
 | int i=>obtain ⟨t,q⟩:=(show ∃ t,u=Value.int i t from rx); cases q; exact PySem.W.kia_one PySem.W.kitx_int I.kIn True.intro e (fun z=>nomatch z) h
 | str y=>obtain ⟨t,q⟩:=(show ∃ t,u=Value.str y t from rx); cases q; exact PySem.W.kia_one PySem.W.kitx_str I.kIn True.intro e (fun z=>nomatch z) h
 | flt y=>obtain ⟨t,q⟩:=(show ∃ t,u=Value.float y t from rx); cases q; exact PySem.W.kia_one PySem.W.kitx_float I.kIn True.intro e (fun z=>nomatch z) h
 | @lst a xs ea =>
  cases (show u=Value.ref a from rx)
  obtain ⟨_,_,n,_,h1⟩:=(show ObjOk X.prog X.w H s.heap a (.lst xs) from I.hok a _ ea)
  exact PySem.W.kia_one PySem.W.kitx_list I.kIn ⟨_,h1,rfl⟩ e (fun z=>nomatch z) h
 | @frz a ob xs ea =>
  cases (show u=Value.ref a from rx)
  obtain ⟨_,_,_,n,_,h1⟩:=(show ObjOk X.prog X.w H s.heap a (.frz ob (.lst xs)) from I.hok a _ ea)
  exact PySem.W.kia_one PySem.W.kitx_list I.kIn ⟨_,h1,rfl⟩ e (fun z=>nomatch z) h
 | @tup a xs ea =>
  cases (show u=Value.ref a from rx)
  obtain ⟨_,_,_,p,_⟩:=(show ObjOk X.prog X.w H s.heap a (.tup xs) from I.hok a _ ea)
  obtain ⟨o,h1,h2,_⟩:=p
  exact PySem.W.kia_one PySem.W.kitx_tuple I.kIn ⟨o,h1,h2⟩ e (fun z=>nomatch z) h
 | @dK a kvs ea =>
  cases (show u=Value.ref a from rx)
  obtain ⟨_,_,vs,_,p⟩:=(show ObjOk X.prog X.w H s.heap a (.dK kvs) from I.hok a _ ea)
  obtain ⟨o,es,ep,h1,h2,_⟩:=p
  exact PySem.W.kia_one PySem.W.kitx_dict I.kIn ⟨o,h1,h2.1⟩ e (fun z=>nomatch z) h
 | @dT a kvs ea =>
  cases (show u=Value.ref a from rx)
  obtain ⟨_,_,xs,_,o,es,ep,h1,h2,_⟩:=(show ObjOk X.prog X.w H s.heap a (.dT kvs) from I.hok a _ ea)
  exact PySem.W.kia_one PySem.W.kitx_dict I.kIn ⟨o,h1,h2.1⟩ e (fun z=>nomatch z) h
 | @ins a C dx fs ea cl ha hn htk hm =>
  cases (show u=Value.ref a from rx)
  obtain ⟨mA,O,_⟩:=ziq I.hok ea
  obtain ⟨od,J,_⟩:=O.look
  exact PySem.W.kia_one (PySem.W.kitx_own (cl.get _) cl.hd ha hn htk hm) I.kIn J e (fun z=>nomatch z) h
end
structure Room (k:Nat) (A:Around):Prop where
 hd:A.handled=none
 dp:A.depth+3 * k+5 < recursionLimit
 un:A.units+16 * k+200 < cLine
 gd:A.guards=some []
theorem Room.mono {k:Nat} (r:Room k A) (h:j<=k):Room j A:=⟨r.hd,by have:=r.dp; omega,by have:=r.un; omega,r.gd⟩
theorem Room.deeper {k:Nat} (r:Room (k+1) A) (env:Env):Room k (A.deeper env) :=
 ⟨r.hd,by have:=r.dp; show A.depth+1+3 * k+5 < _; omega,by have:=r.un; show A.units+3+16 * k+200 < _; omega,r.gd⟩
theorem zmp:(A.under (.builtin "type.__call__" ⟨.ref C::us,kw⟩)).depth=A.depth+1:=by
 first | rfl | simp [Around.under,Code.weight,Code.isCreation,Code.isGuard,Code.isCaller,Code.frames,Code.isFrame,guardIds]
theorem zmo:(A.under (.builtin "type.__call__" ⟨.ref C::us,kw⟩)).units=A.units+1:=by
 first | rfl | simp [Around.under,Code.cUnits,Code.frames,Code.isFrame]
theorem Room.make {k:Nat} (r:Room (k+1) A) (C:Addr) (us:List Value) (kw:List (Str × Value)):Room k (A.under (.builtin "type.__call__" ⟨.ref C::us,kw⟩)) :=
 ⟨r.hd,by have:=r.dp; rw [zmp]; omega,by have:=r.un; rw [zmo]; omega,r.gd⟩
theorem Room.depth {k:Nat} (r:Room k A):A.depth < recursionLimit:=by have:=r.dp; omega
theorem Room.units {k:Nat} (r:Room k A):A.units+64 < cLine:=by have:=r.un; omega
def tNil:TA:=fun _ H Q=>Q [] H
def tCons (ta:TE) (tr:TA):TA:=fun σ H Q=>ta σ H fun x H1=>tr σ H1 fun xs H2=>Q (x::xs) H2
variable {t:TA}
section
variable {e:Expr}
theorem zeT:PA X [] tNil:=fun _ _ _ _ H Q I h=>Calls.spliced_nil ⟨[],H,I,.nil,h⟩
theorem zbO (ha:PE X e te) (hr:PA X es t) (hs:autoParam (starEach (e::es) X.env=(false,eval e X.env)::starEach es X.env) AutoP.a3._auto_1):PA X (e::es) (tCons te t):=by
 intro pos pins s σ H Q I h
 rw [hs]
 show wpAny _ _ (spliced ((false,eval e X.env)::backTo pos (starEach es X.env))) _ _ s
 refine Calls.spliced_cons (thn (ha pins s σ H _ I h) fun u s1 ⟨x,H1,I1,r1,q1⟩=>?_)
 exact thn (hr pos pins s1 σ H1 _ I1 q1) fun us s2 ⟨xs,H2,I2,r2,q2⟩=>⟨x::xs,H2,I2,.cons r1 r2,q2⟩
def tTup (t:TA):TE:=fun σ H Q=>t σ H fun xs H1=>xs.length<=sizeLine/\∀ p,H1 p=none->Q (.ref p) (upd H1 p (.tup xs))
def tLst (t:TA):TE:=fun σ H Q=>t σ H fun xs H1=>xs.length<=sizeLine/\∀ p,H1 p=none->Q (.ref p) (upd H1 p (.lst xs))
theorem pe_tup {x1} (h:PA X es t):PE X (.Tuple es x1 pos) (tTup t):=by
 intro pins s σ H Q I hq
 refine wpAny_Tuple_spliced (thn (h pos pins s σ H _ I hq) fun us s1 ⟨xs,H1,I1,r,z,q⟩=>⟨by rw [<- r.length]; exact z,?_⟩)
 have hf:H1 s1.heap.objs.size=none:=I1.hok.fresh (Nat.le_refl _)
 refine ⟨.ref s1.heap.objs.size,upd H1 s1.heap.objs.size (.tup xs),I1.laid (t':=s1.toks) (fun b u e=>Heap.get?_push_of_some _ e) (Nat.le_refl _) ?_,rfl,q _ hf⟩
 exact ⟨z,us,r,⟨_,Heap.get?_push_size _ rfl,rfl,_,rfl⟩,_,Heap.get?_push_size _ rfl,rfl⟩
theorem zq3 (h:PA X es t):PE X (.List es pos) (tLst t):=by
 intro pins s σ H Q I hq
 refine wpAny_List_spliced (thn (h pos pins s σ H _ I hq) fun us s1 ⟨xs,H1,I1,r,z,q⟩=>⟨by rw [<- r.length]; exact z,?_⟩)
 have hf:H1 s1.heap.objs.size=none:=I1.hok.fresh (Nat.le_refl _)
 refine ⟨.ref s1.heap.objs.size,upd H1 s1.heap.objs.size (.lst xs),I1.laid (t':=s1.toks) (fun b u e=>Heap.get?_push_of_some _ e) (Nat.le_refl _) ?_,rfl,q _ hf⟩
 exact ⟨z,us,0,r,Heap.get?_push_size _ rfl⟩
end
abbrev Sp:=List V->Hp->VK->XK->Prop
abbrev CXT:=List Env->Hp->Shared->XK->Value->Shared->Prop
structure Env0 (P:Program) (w:World) (K:PySem.W.Frag) (mg:Str->Option Value) (base:Heap) (A:Around) (outer:List Env) (s:Shared) (H:Hp):Prop where
 frames:A.frames=some outer
 mod:Mod K mg base
 bs:∀ b o,base.get? b=some o->s.heap.get? b=some o/\H b=none
 bsz:base.objs.size<=s.heap.objs.size
 funs:s.heap.FunFrames base outer
 frf:∀ b∈frs outer,H b=none
 hok:HOk P w H s.heap
 bare:AllBare s.gens
def CE (outer:List Env) (P:Program) (w:World) (H:Hp) (s:Shared) (Q:VK) (u:Value) (s':Shared):Prop :=
 ∃ v H',s'.os=s.os/\AllBare s'.gens/\Un (frs outer) [] H H' s.heap s'.heap/\HOk P w H' s'.heap/\RelV v u/\Q v H'
def CR (CX:CXT) (outer:List Env) (P:Program) (w:World) (H:Hp) (s:Shared) (Q:VK) (E:XK) (r:Result) (s':Shared):Prop :=
 match r with
 | .ok (.ret u)=>CE outer P w H s Q u s'
 | .ok _=>False
 | .error e=>CX outer H s E e s'
structure FnOk (P:Program) (w:World) (K:PySem.W.Frag) (mg:Str->Option Value) (base:Heap) (CX:CXT) (k:Nat) (f:Addr) (fd:FuncData) (ps:List Str) (sp:Sp):Prop where
 len:∀ vs H Q E,sp vs H Q E->vs.length=ps.length
 run:∀ (A:Around) (outer:List Env) (s:Shared) (H:Hp) (args:Args) (us:List Value) (vs:List V) (Q:VK) (E:XK),Room k A->Env0 P w K mg base A outer s H->BindsTo s fd args (ps.zip us)->Vals vs us->sp vs H Q E →
  codeAny (model P w) A (.call (.ref f) args) (CR CX outer P w H s Q E) s
variable {mg:Str->Option Value} {base:Heap} {CX:CXT} {fd:FuncData} {ps:List Str} {sp:Sp}
theorem FnOk.imp {w:World} {k:Nat} {f:Addr} {sp':Sp} (F:FnOk P w K mg base CX k f fd ps sp)
  (h:∀ vs H Q E,sp' vs H Q E->sp vs H Q E):FnOk P w K mg base CX k f fd ps sp' :=
 ⟨fun vs H Q E q=>F.len vs H Q E (h _ _ _ _ q),fun A outer s H args us vs Q E hr he hb hv hs=>F.run A outer s H args us vs Q E hr he hb hv (h _ _ _ _ hs)⟩
variable {outer:List Env}
theorem Env0.make {w:World} (e:Env0 P w K mg base A outer s H) (C:Addr) (us:List Value) (kw:List (Str × Value)) :
  Env0 P w K mg base (A.under (.builtin "type.__call__" ⟨.ref C::us,kw⟩)) outer s H:=⟨by first | exact e.frames | (simpa [Around.under,Code.envs,Code.isFrame,pushEnvs] using e.frames),e.mod,e.bs,e.bsz,e.funs,e.frf,e.hok,e.bare⟩
section
theorem Inv.env0 (I:Inv X pins σ H s):Env0 X.prog X.w X.K X.mg X.base X.A X.stack s H :=
 ⟨I.ok.frames,I.ok.mod,I.bs,Nat.le_trans I.ok.bsz I.sz,I.stack,I.stkFree,I.hok,I.bare⟩
theorem Inv.after {Q:VK} (I:Inv X pins σ H s) (h:CE X.stack X.prog X.w H s Q u s'):EP X pins σ Q u s':=by
 obtain ⟨v,H',os,bare,un,hok,r,q⟩:=h
 obtain ⟨hh,g,d,t,os'⟩:=s'
 obtain rfl:os'=s.os:=os
 exact ⟨v,H',I.call (h':=hh) (g':=g) (d':=d) (t':=t) (ch:=[]) un hok bare (fun b z=>absurd z (by simp)),r,q⟩
end
def tCall (sp:Sp) (dvs:List V) (E:XK) (t:TA):TE:=fun σ H Q=>t σ H fun vs H1=>sp (vs++dvs) H1 Q E
def tMeth (C:Addr) (m:Str) (sp:Sp) (dvs:List V) (E:XK) (ta:TE) (t:TA):TE:=fun σ H Q=>ta σ H fun x H1=>∃ a dx fs,x = .ref a/\H1 a=some (.ins C dx fs)/\fs.lookup m=none ∧
 t σ H1 fun vs H2=>sp (x::(vs++dvs)) H2 Q E
def tMake (C:Addr) (sp:Sp) (dvs:List V) (E:XK) (t:TA):TE:=fun σ H Q=>t σ H fun vs H1=>∀ x dx,H1 x=none->H1 dx=none->dx≠x →
 sp (.ref x::(vs++dvs)) (upd (upd H1 dx (.own x)) x (.ins C dx [])) (fun v H2=>v = .non/\Q (.ref x) H2) E
def Binds (K:PySem.W.Frag) (fd:FuncData) (ps:List Str) (ds:List Value):Prop :=
 ∀ (s:Shared) (us:List Value),K.In s.heap->(us++ds).length=ps.length->BindsTo s fd ⟨us,[]⟩ (ps.zip (us++ds))
theorem Binds.all (h:∀ us:List Value,us.length=ps.length->bindArgs fd ⟨us,[]⟩=pure (ps.zip us)):Binds K fd ps []:=fun s us _ hl=>by
 rw [List.append_nil] at hl ⊢
 exact .of_eq (h us hl)
def zgY (CX:CXT) (X:Cx) (E:XK):Prop:=∀ (pins:List (Addr × Obj)) (σ : St) (H:Hp) (s:Shared) (e:Value) (s':Shared),Inv X pins σ H s->CX X.stack H s E e s'->X.xe e s'
variable {vs:List V}
section
variable {k:Nat} {f:Addr} {dvs:List V} {ds:List Value} {E:XK} {apos:Pos} {e o:Expr}
theorem znj {Q:VK} (F:FnOk X.prog X.w X.K X.mg X.base CX k f fd ps sp) (hr:Room k X.A) (hb:Binds X.K fd ps ds) (hd:Vals dvs ds) (hx:zgY CX X E)
  (I:Inv X pins σ H s) (r:Vals vs us) (h:sp (vs++dvs) H Q E):wpAny (model X.prog X.w) X.A (call (.ref f) us) (EP X pins σ Q) X.xe s:=by
 have r2:Vals (vs++dvs) (us++ds):=r.append hd
 have hl:(us++ds).length=ps.length:=by rw [<- r2.length]; exact F.len _ _ _ _ h
 refine wpAny_call (codeAny_mono (F.run X.A X.stack s H ⟨us,[]⟩ (us++ds) (vs++dvs) Q E hr I.env0 (hb s us I.kIn hl) r2 h) fun r s' hq=>?_)
 cases r with
 | error e=>exact hx pins σ H s e s' I hq
 | ok fl =>
  cases fl with
  | ret u=>exact I.after hq
  | next=>exact False.elim hq
  | brk=>exact False.elim hq
  | cont=>exact False.elim hq
theorem zst (F:FnOk X.prog X.w X.K X.mg X.base CX k f fd ps sp) (hr:Room k X.A) (hg:Gl X x) (hm:X.mg x=some (.ref f)) (hk:PySem.W.keepIn X.K (.ref f)=true) (hb:Binds X.K fd ps ds) (hd:Vals dvs ds) (hx:zgY CX X E)
  (ha:PA X (e::es) t) (hdb:autoParam ((x == ("__debug__" : Str))=false) AutoP.a1._auto_1) (he:autoParam (starEach (e::es) X.env=(false,eval e X.env)::starEach es X.env) AutoP.a3._auto_1) (hpl:autoParam ((backTo pos (starEach es X.env)).any (·.1)=false) AutoP.a3._auto_1) :
  PE X (.Call (.Name x p) (e::es) [] pos) (tCall sp dvs E t):=by
 intro pins s σ H Q I h
 refine wpAny_Call_Name_kw (zfh I hg hm ?_ hdb)
 refine PySem.W.callWith_K (h₀ := X.base) I.ok.mod.kin hk (thn (ha pos pins s σ H _ I h) fun us s1 ⟨vs,H1,I1,r,q⟩=>⟨I1.kIn,?_⟩) he hpl
 exact znj F hr hb hd hx I1 r q
theorem zsp (he:PE X o ta) (c:Cls X.K C) (hm:Meth X.K C m f) (F:FnOk X.prog X.w X.K X.mg X.base CX k f fd ps sp) (hr:Room k X.A) (hb:Binds X.K fd ps ds) (hd:Vals dvs ds) (hx:zgY CX X E) (ha:PA X (e::es) t)
  (hst:autoParam (starEach (e::es) X.env=(false,eval e X.env)::starEach es X.env) AutoP.a3._auto_1) (hpl:autoParam ((backTo pos (starEach es X.env)).any (·.1)=false) AutoP.a3._auto_1)
  (ht:autoParam (eval (.Call (.Attribute o m apos) (e::es) [] pos) X.env=(do
   let ov <- eval o X.env
   standAt apos.atName
   let (f,first) <- holding [ov] (getMethod ov m pl)
   callWith pos f first (backTo pos (starEach (e::es) X.env)) (backToKw pos (keywordEach [] X.env)))) AutoP.a3._auto_1) :
  PE X (.Call (.Attribute o m apos) (e::es) [] pos) (tMeth C m sp dvs E ta t):=by
 intro pins s σ H Q I h
 refine PySem.W.methodCall_KW (pl:=pl) (thn (he pins s σ H _ I h) fun u s1 ⟨x,H1,I1,rx,a,dx,fs,ex,ea,l,q⟩=>?_) ht
 subst ex
 obtain rfl:u=Value.ref a:=rx
 refine zfj I1 ea c hm l ?_
 refine PySem.W.callWith_K (first:=[.ref a]) (h₀ := X.base) I.ok.mod.kin hm.kp (thn (ha pos pins s1 σ H1 _ I1 q) fun us s2 ⟨vs,H2,I2,r,q2⟩=>⟨I2.kIn,?_⟩) hst hpl
 exact znj (us := .ref a::us) (vs := .ref a::vs) F hr hb hd hx I2 (.cons rfl r) q2
theorem zqc (he:PE X o ta) (c:Cls X.K C) (hm:Meth X.K C m f) (F:FnOk X.prog X.w X.K X.mg X.base CX k f fd ps sp) (hr:Room k X.A) (hb:Binds X.K fd ps ds) (hd:Vals dvs ds) (hx:zgY CX X E)
  (ht:autoParam (eval (.Call (.Attribute o m apos) [] [] pos) X.env=(do
   let ov <- eval o X.env
   standAt apos.atName
   let (f,first) <- holding [ov] (getMethod ov m pl)
   callWith pos f first (backTo pos (starEach [] X.env)) (backToKw pos (keywordEach [] X.env)))) AutoP.a3._auto_1) :
  PE X (.Call (.Attribute o m apos) [] [] pos) (tMeth C m sp dvs E ta tNil):=by
 intro pins s σ H Q I h
 refine PySem.W.methodCall_KW (pl:=pl) (thn (he pins s σ H _ I h) fun u s1 ⟨x,H1,I1,rx,a,dx,fs,ex,ea,l,q⟩=>?_) ht
 subst ex
 obtain rfl:u=Value.ref a:=rx
 refine zfj I1 ea c hm l ?_
 exact PySem.W.callWith_K0 (first:=[.ref a]) I1.kIn hm.kp (znj (us:=[.ref a]) (vs:=[.ref a]) F hr hb hd hx I1 (.cons rfl .nil) q)
structure Mk (K:PySem.W.Frag) (C f:Addr):Prop where
 makes:PySem.W.makesIn K C=true
 init:PySem.W.findIn K (.ref C) "__init__" = some (some (.ref f))
 fn:PySem.W.isFn K (.ref f)=true
 kp:PySem.W.keepIn K (.ref C)=true
theorem zpX {Q:VK} (M:Mk X.K C f) (F:FnOk X.prog X.w X.K X.mg X.base CX k f fd ps sp) (hr:Room (k+1) X.A) (hb:Binds X.K fd ps ds) (hd:Vals dvs ds)
  (hx:zgY CX X E) (I:Inv X pins σ H s) (r:Vals vs us)
  (h:∀ x dx,H x=none->H dx=none->dx≠x->sp (.ref x::(vs++dvs)) (upd (upd H dx (.own x)) x (.ins C dx [])) (fun v H2=>v = .non/\Q (.ref x) H2) E) :
  wpAny (model X.prog X.w) X.A (call (.ref C) us) (EP X pins σ Q) X.xe s:=by
 have hq:=h (s.heap.objs.size+1) s.heap.objs.size (I.hok.fresh (Nat.le_succ _)) (I.hok.fresh (Nat.le_refl _)) (Nat.ne_of_lt (Nat.lt_succ_self _))
 have I2:=Inv.made (C:=C) I
 have r2:Vals (V.ref (s.heap.objs.size+1)::(vs++dvs)) (Value.ref (s.heap.objs.size+1)::(us++ds)) := .cons rfl (r.append hd)
 have hl:(Value.ref (s.heap.objs.size+1)::us++ds).length=ps.length:=by
  have e:=r2.length
  rw [F.len _ _ _ _ hq] at e
  exact e.symm
 refine wpAny_call (zqw (f:=f) I.kIn M.makes M.init (beq_iff_eq.mp M.fn) (codeAny_mono (F.run _ X.stack _ _ ⟨Value.ref (s.heap.objs.size+1)::us,[]⟩ (Value.ref (s.heap.objs.size+1)::(us++ds)) _ _ E (hr.make C us [])
  (I2.env0.make C us []) (hb _ (Value.ref (s.heap.objs.size+1)::us) I2.kIn hl) r2 hq) fun r s' hq'=>?_))
 cases r with
 | error e=>exact hx pins σ _ _ e s' I2 hq'
 | ok fl =>
  cases fl with
  | ret u =>
   obtain ⟨v,H',I3,rv,ev,q3⟩:=I2.after hq'
   subst ev
   exact ⟨rv,⟨V.ref (s.heap.objs.size+1),H',I3,rfl,q3⟩⟩
  | next=>exact False.elim hq'
  | brk=>exact False.elim hq'
  | cont=>exact False.elim hq'
theorem zsq (M:Mk X.K C f) (F:FnOk X.prog X.w X.K X.mg X.base CX k f fd ps sp) (hr:Room (k+1) X.A) (hg:Gl X x) (hm:X.mg x=some (.ref C)) (hb:Binds X.K fd ps ds) (hd:Vals dvs ds) (hx:zgY CX X E)
  (ha:PA X (e::es) t) (hdb:autoParam ((x == ("__debug__" : Str))=false) AutoP.a1._auto_1) (he:autoParam (starEach (e::es) X.env=(false,eval e X.env)::starEach es X.env) AutoP.a3._auto_1) (hpl:autoParam ((backTo pos (starEach es X.env)).any (·.1)=false) AutoP.a3._auto_1) :
  PE X (.Call (.Name x p) (e::es) [] pos) (tMake C sp dvs E t):=by
 intro pins s σ H Q I h
 refine wpAny_Call_Name_kw (zfh I hg hm ?_ hdb)
 refine PySem.W.callWith_K (h₀ := X.base) I.ok.mod.kin M.kp (thn (ha pos pins s σ H _ I h) fun us s1 ⟨vs,H1,I1,r,q⟩=>⟨I1.kIn,?_⟩) he hpl
 exact zpX M F hr hb hd hx I1 r q
end
structure FnScope (N P:List Str) (sc:Scope):Prop where
 kind:sc.kind = .function
 co:sc.isCoroutine=false
 gen:sc.isGenerator=false
 nd:N.Nodup
 pre:N.take P.length=P
 par:∀ x∈P,sc.names.lookup x=some .local∨sc.names.lookup x=some .cell
 nofree:∀ y∈sc.names,y.2 ≠ .free
theorem zjN {kindOf:Str->Option NameKind} {x:Str}:∀ {binds:List (Str × Value)} {m:Str->Option Value},(∀ v,(x,v) ∉ binds)->bindL kindOf binds m x=m x
 | [],_,_=>rfl
 | (n,v)::r,m,h=>by
  unfold bindL
  rw [zjN fun w hw=>h w (List.mem_cons_of_mem _ hw)]
  split
  ·have:x≠n:=by rintro rfl; exact h v List.mem_cons_self
   simp [this]
  ·rfl
theorem zjP {kindOf:Str->Option NameKind} {x:Str}:∀ {binds:List (Str × Value)} {m:Str->Option Value},(∀ v,(x,v) ∉ binds)->bindC kindOf binds m x=m x
 | [],_,_=>rfl
 | (n,v)::r,m,h=>by
  unfold bindC
  rw [zjP fun w hw=>h w (List.mem_cons_of_mem _ hw)]
  split
  ·rfl
  ·have:x≠n:=by rintro rfl; exact h v List.mem_cons_self
   simp [this]
theorem zjO {kindOf:Str->Option NameKind} {x:Str} {v:Value}:∀ {P:List Str} {vs:List Value} {i:Nat} {m:Str->Option Value},P.Nodup->P[i]?=some x->vs[i]?=some v->kindOf x=some .local →
  bindL kindOf (P.zip vs) m x=some v
 | [],_,_,_,_,h,_,_=>by simp at h
 | _::_,[],_,_,_,_,h,_=>by simp at h
 | p::P,w::vs,0,m,nd,h1,h2,hk=>by
  simp at h1 h2; subst h1; subst h2
  show bindL kindOf ((p,w)::P.zip vs) m p=_
  unfold bindL
  rw [zjN fun v hv=>(List.nodup_cons.mp nd).1 (List.of_mem_zip hv).1,if_pos hk]
  simp
 | p::P,w::vs,i+1,m,nd,h1,h2,hk=>by
  show bindL kindOf ((p,w)::P.zip vs) m x=_
  unfold bindL
  exact zjO (i:=i) (List.nodup_cons.mp nd).2 (by simpa using h1) (by simpa using h2) hk
theorem zjQ {kindOf:Str->Option NameKind} {x:Str} {v:Value}:∀ {P:List Str} {vs:List Value} {i:Nat} {m:Str->Option Value},P.Nodup->P[i]?=some x->vs[i]?=some v->kindOf x≠some .local →
  bindC kindOf (P.zip vs) m x=some v
 | [],_,_,_,_,h,_,_=>by simp at h
 | _::_,[],_,_,_,_,h,_=>by simp at h
 | p::P,w::vs,0,m,nd,h1,h2,hk=>by
  simp at h1 h2; subst h1; subst h2
  show bindC kindOf ((p,w)::P.zip vs) m p=_
  unfold bindC
  rw [zjP fun v hv=>(List.nodup_cons.mp nd).1 (List.of_mem_zip hv).1,if_neg hk]
  simp
 | p::P,w::vs,i+1,m,nd,h1,h2,hk=>by
  show bindC kindOf ((p,w)::P.zip vs) m x=_
  unfold bindC
  exact zjQ (i:=i) (List.nodup_cons.mp nd).2 (by simpa using h1) (by simpa using h2) hk
def start (N:List Str) (vs:List V):St:=vs.map some++List.replicate (N.length - vs.length) none
def zkF (CX:CXT) (P:Program) (w:World) (K:PySem.W.Frag) (mg:Str->Option Value) (base:Heap) (N:List Str) (qual:Str) (scope:Scope) (f:Addr) (cd:Value) (A:Around) (outer:List Env) (s:Shared) (H:Hp) (E:XK):Cx where
 prog:=P
 w:=w
 K:=K
 mg:=mg
 base:=base
 A:=A.deeper (envOfC qual scope s.heap.objs.size f cd)
 N:=N
 s₀ := s
 H₀ := H
 env:=envOfC qual scope s.heap.objs.size f cd
 outer:=outer
 stack:=envOfC qual scope s.heap.objs.size f cd::outer
 ex:=[]
 calm:=true
 fn:=fun _=>true
 pn:=[]
 xe:=fun e s'=>wpAny (model P w) (A.deeper (envOfC qual scope s.heap.objs.size f cd)) (leaving (envOfC qual scope s.heap.objs.size f cd) e) (fun _ s''=>CX outer H s E e s'') (fun e' s''=>CX outer H s E e' s'') s'
theorem zlJ {sc:Scope} (h:sc.names.lookup x=some .cell):∃ c,(cellsFrom n sc.names []).lookup x=some c:=by
 have q:=PySem.W.cellsFrom_some sc.names n [] (.inl h)
 exact Option.isSome_iff_exists.mp q
variable {qual:Str} {scope:Scope}
theorem zjh {w:World} {f:Addr} {cd:Value} {s1:Shared} {E:XK}
  (S:FnScope N ps scope) (hd:A.handled=none) (e0:Env0 P w K mg base A outer s H) (hl:vs.length=ps.length) (r:Vals vs us)
  (x:InCallC s s.heap.objs.size (bindL (envOfC qual scope s.heap.objs.size f cd).kindOf (ps.zip us) fun _=>none) (cellsFrom (s.heap.objs.size+1) scope.names []) (bindC (envOfC qual scope s.heap.objs.size f cd).kindOf (ps.zip us) fun _=>none) s1) :
  Inv (zkF CX P w K mg base N qual scope f cd A outer s H E) [] (start N vs) H s1:=by
 have hpl:ps.length<=N.length:=by have:=congrArg List.length S.pre; rw [List.length_take] at this; omega
 obtain ⟨h1,tk,rfl,hk⟩:=x.done
 have noA:∀ b:Addr,b ∉ (zkF CX P w K mg base N qual scope f cd A outer s H E).ex:=fun b z=>absurd (show b∈([]:List Addr) from z) (by simp)
 refine ⟨⟨e0.mod,S.kind,rfl,rfl,Nat.le_refl _,fun y z c h1 h2=>?_,fun y hy=>?_,fun y c _ h=>?_,fun _=>hd,Around.frames_deeper e0.frames,.inr ⟨rfl,rfl⟩,fun b z=>absurd z (noA b),e0.bs,e0.bsz,fun b _ _=>noA b,fun b z=>absurd z (noA b),e0.funs,e0.frf⟩,
  rfl,e0.bare,Un.kept hk,⟨_,x.toInCall.ns,fun i y v h1 h2 h3=>?_⟩,fun y c h=>⟨_,x.cell y c h⟩,e0.hok.fresh (Nat.le_refl _),fun y c h=>?_,fun p hp=>absurd (show p∈([]:List (Addr × Obj)) from hp) (by simp),e0.hok.kept hk,?_⟩
 ·exact name_of_addr x.apart (PySem.mem_of_lookup h1) (PySem.mem_of_lookup h2)
 ·have hy:scope.names.lookup y=some .cell∨scope.names.lookup y=some .free:=hy
  rcases hy with hy | hy
  ·exact zlJ hy
  ·exact absurd rfl (S.nofree _ (PySem.mem_of_lookup hy))
 ·exact Nat.le_of_lt (x.above y c (PySem.mem_of_lookup h))
 ·have hi:i < vs.length:=by
   unfold start at h2
   by_cases hi:i < vs.length
   ·exact hi
   ·rw [List.getElem?_append_right (by simpa using hi)] at h2
    rw [List.getElem?_replicate] at h2
    split at h2 <;> cases h2
  have ha:vs[i]?=some v:=by
   unfold start at h2
   rw [List.getElem?_append_left (by simpa using hi),List.getElem?_map] at h2
   cases e:vs[i]? with
   | none=>rw [e] at h2; cases h2
   | some a=>rw [e] at h2; cases h2; rfl
  obtain ⟨u,hu,rv⟩:=r.get ha
  have hp:ps[i]?=some y:=by
   rw [<- S.pre,List.getElem?_take_of_lt (by omega)]; exact h1
  have ndP:ps.Nodup:=by rw [<- S.pre]; exact S.nd.sublist (List.take_sublist _ _)
  refine ⟨u,rv,?_⟩
  rcases S.par y (List.mem_of_getElem? hp) with k | k
  ·exact .inl ⟨k,zjO ndP hp hu k⟩
  ·obtain ⟨c,e⟩:=zlJ (n:=s.heap.objs.size+1) k
   refine .inr ⟨.inl k,c,e,?_⟩
   have q:=x.cell y c e
   rw [zjQ ndP hp hu (by show scope.names.lookup y≠_; rw [k]; decide)] at q
   exact q
 ·exact e0.hok.fresh (Nat.le_of_lt (x.above y c (PySem.mem_of_lookup h)))
 ·unfold start
  show _=N.length
  rw [List.length_append,List.length_map,List.length_replicate]
  omega
theorem fn_of {w:World} {k:Nat} {f:Addr} {params:Arguments} {dV kV doc pm cdv ct oc:Value} {an od:Option Addr}
  {osl:Array (Option Value)} (lk:K.lookup f=some ⟨oc,od,.func (PySem.W.fnOf name qual params body scope dV kV doc pm an cdv ct),osl⟩) (hcd:PySem.W.codeIn K cdv qual=true) (S:FnScope N ps scope)
  (len:∀ vs H Q E,sp vs H Q E->vs.length=ps.length)
  (hbody:∀ (A:Around) (outer:List Env) (s:Shared) (H:Hp) (vs:List V) (Q:VK) (E:XK),Room k (A.deeper (envOfC qual scope s.heap.objs.size f cdv))->sp vs H Q E →
   ∃ t,PSs (zkF CX P w K mg base N qual scope f cdv A outer s H E) body t/\t { nx:=fun _ H'=>Q .non H',rt:=Q } (start N vs) H) :
  FnOk P w K mg base CX (k+1) f (PySem.W.fnOf name qual params body scope dV kV doc pm an cdv ct) ps sp:=by
 refine ⟨len,fun A outer s H args us vs Q E hr e0 hb r hsp=>?_⟩
 have hl:=len _ _ _ _ hsp
 have KX:K.In s.heap:=e0.mod.kin.keeps fun b o e=>(e0.bs b o e).1
 have lim:s.heap.NoLimit:=e0.mod.nolimit.keeps fun b o e=>(e0.bs b o e).1
 have hkind:∀ y∈ps.zip us,scope.names.lookup y.1=some .local∨(scope.names.lookup y.1=some .cell/\((cellsFrom (s.heap.objs.size+1) scope.names []).lookup y.1).isSome=true):=fun ⟨n,v⟩ hy=>by
  rcases S.par n (List.of_mem_zip hy).1 with q | q
  ·exact .inl q
  ·exact .inr ⟨q,PySem.W.cellsFrom_some _ _ _ (.inl q)⟩
 refine codeAny_call_function hr.depth (KX _ _ lk) rfl S.co S.gen rfl (PySem.W.codeRec_of KX hcd) (hb _ _ _ _ ?_)
 refine wpAny_newFunctionEnv_cells S.kind hkind fun env he s1 x=>?_
 subst he
 refine ⟨lim.keeps x.toInCall.keep,codeAny_func ?_⟩
 obtain ⟨t,ht,hq⟩:=hbody A outer s H vs Q E (hr.deeper _) hsp
 have I:Inv (zkF CX P w K mg base N qual scope f cdv A outer s H E) [] (start N vs) H s1:=zjh S hr.hd e0 hl r x
 refine wpAny_mono (ht [] s1 (start N vs) H _ I hq) (fun fl s' hs=>?_) fun e s' hs=>hs
 have fin:∀ {σ':St} {H':Hp} {v:V} {u:Value},Inv (zkF CX P w K mg base N qual scope f cdv A outer s H E) [] σ' H' s'->RelV v u->Q v H'->CE outer P w H s Q u s' :=
  fun {σ' H' v u} J rv q=>⟨v,H',J.os,J.bare,J.base,J.hok,rv,q⟩
 cases fl with
 | ret u =>
  obtain ⟨v,σ',H',J,rv,q⟩:=hs
  exact fin J rv q
 | next =>
  obtain ⟨σ',H',J,q⟩:=hs
  exact fin (v:=V.non) (u:=Value.none) J rfl q
 | brk =>
  obtain ⟨_,_,_,q⟩:=hs
  exact False.elim q
 | cont =>
  obtain ⟨_,_,_,q⟩:=hs
  exact False.elim q
section
variable {e:Expr} {id T:String} {r:List V->Hp->VK->Prop}
def tCB (r:List V->Hp->VK->Prop) (t:TA):TE:=fun σ H Q=>t σ H fun vs H1=>r vs H1 Q
theorem zf6 (hc:CallR X (.builtin id) r) (hg:Gl X x) (hm:X.mg x=none) (hv:bootBuiltins x=some (.builtin id)) (ha:PA X (e::es) t) (hn:autoParam (x ≠ "__name__") AutoP.a1._auto_1) (hdb:autoParam ((x == ("__debug__" : Str))=false) AutoP.a1._auto_1)
  (he:autoParam (starEach (e::es) X.env=(false,eval e X.env)::starEach es X.env) AutoP.a3._auto_1) (hpl:autoParam ((backTo pos (starEach es X.env)).any (·.1)=false) AutoP.a3._auto_1):PE X (.Call (.Name x p) (e::es) [] pos) (tCB r t):=by
 intro pins s σ H Q I h
 refine wpAny_Call_Name_kw (zec I hg hm hv ?_ hn hdb)
 exact PyProof.Rows.callWith_builtin1 (thn (ha pos pins s σ H _ I h) fun us s1 ⟨vs,H1,I1,r1,q1⟩=>hc pins s1 σ H1 vs us Q I1 r1 q1) he hpl
theorem ziX (hc:CallR X (.type T) r) (hg:Gl X x) (hm:X.mg x=none) (hv:bootBuiltins x=some (.type T)) (ha:PA X (e::es) t) (hn:autoParam (x ≠ "__name__") AutoP.a1._auto_1) (hdb:autoParam ((x == ("__debug__" : Str))=false) AutoP.a1._auto_1)
  (he:autoParam (starEach (e::es) X.env=(false,eval e X.env)::starEach es X.env) AutoP.a3._auto_1) (hpl:autoParam ((backTo pos (starEach es X.env)).any (·.1)=false) AutoP.a3._auto_1):PE X (.Call (.Name x p) (e::es) [] pos) (tCB r t):=by
 intro pins s σ H Q I h
 refine wpAny_Call_Name_kw (zec I hg hm hv ?_ hn hdb)
 exact PyProof.Rows.callWith_type1 (thn (ha pos pins s σ H _ I h) fun us s1 ⟨vs,H1,I1,r1,q1⟩=>hc pins s1 σ H1 vs us Q I1 r1 q1) he hpl
end
end L2
namespace HT
open PySem PyProof.Rows
section
open PySem.SeqAt
open PySem.AutoSeq1 (wpAny_loadPart')
open PySem.MeetsSeq PySem.MeetsSeq2 PySem.MeetsSeq3
end
variable {t:Addr} {Q:Value->Shared->Prop} {sl:Addr} {vl vu:Value} {hi:Option Int}
section
variable {prog:Program} {w:World} {A:Around} {E:Value->Shared->Prop} {s:Shared}
theorem cat_tup {b:Addr} {vs ws:List Value} (ht:IsTup s.heap t vs.toArray) (hb:IsTup s.heap b ws.toArray) (hv:vs≠[])
  (h1:ws=[]->Q (.ref t) s) (h2:ws≠[]->Q (.ref s.heap.objs.size) { s with heap:=s.heap.push { cls := .type "tuple", data := .seq (vs++ws).toArray } })
  (hsz:vs.length+ws.length<=sizeLine):wpAny (model prog w) A (binaryOp .Add (.ref t) (.ref b)) Q E s:=by
 obtain ⟨⟨cls,dd,data,sl⟩,ho,hc,n,hd⟩:=id ht
 obtain ⟨⟨cls2,dd2,data2,sl2⟩,ho2,hc2,n2,hd2⟩:=id hb
 simp only at hc hd hc2 hd2
 subst hc hd hc2 hd2
 have e:vs.toArray++ws.toArray=(vs++ws).toArray:=by simp
 by_cases hw:ws=[]
 ·exact concat_meets ⟨_,ho,rfl⟩ ⟨_,ho2,rfl⟩ noFill_tuple_add seq_tuple_add PySem.F.slot_tuple_add PySem.F.entry_tuple_add (PySem.F.args_tuple_add_2 _ _)
   (tuple_addW1 t b vs.toArray ws.toArray n n2 dd dd2 sl sl2 (by simpa using hv) (by simp [hw])) ⟨ho,ho2,h1 hw⟩
 ·refine concat_meets ⟨_,ho,rfl⟩ ⟨_,ho2,rfl⟩ noFill_tuple_add seq_tuple_add PySem.F.slot_tuple_add PySem.F.entry_tuple_add (PySem.F.args_tuple_add_2 _ _)
   (tuple_addW2 t b vs.toArray ws.toArray n n2 dd dd2 sl sl2 (by simpa using hv) (by simpa using hw) (by rw [List.size_toArray,List.size_toArray]; exact hsz)) ⟨ho,ho2,?_⟩
  rw [e]
  exact h2 hw
def sIx (n d:Nat):Option Int->Nat
 | none=>d
 | some v=>if v < 0 then (v+(n:Int)).toNat else min v.toNat n
theorem sIx_none (n d:Nat):sIx n d none=d:=rfl
theorem sIx_nat (n d k:Nat):sIx n d (some (k:Int))=min k n:=by
 show (if (k:Int) < 0 then ((k:Int)+(n:Int)).toNat else min (k:Int).toNat n)=min k n
 rw [if_neg (by omega),Int.toNat_natCast]
theorem sIx_le (n d:Nat) (hd:d<=n) (o:Option Int):sIx n d o<=n:=by
 cases o with
 | none=>exact hd
 | some v =>
  show (if v < 0 then (v+(n:Int)).toNat else min v.toNat n)<=n
  by_cases hv:v < 0
  ·rw [if_pos hv]; omega
  ·rw [if_neg hv]; exact Nat.min_le_right _ _
theorem zpg (v:Int) (n d:Nat):(if v < 0 then max (v+(n:Int)) 0 else min v (n:Int))=((sIx n d (some v):Nat):Int):=by
 show (if v < 0 then max (v+(n:Int)) 0 else min v (n:Int))=(((if v < 0 then (v+(n:Int)).toNat else min v.toNat n):Nat):Int)
 by_cases hv:v < 0
 ·simp only [if_pos hv]; omega
 ·simp only [if_neg hv]; omega
theorem zmJ (lo hi:Option Int) (n:Nat):Builtin.Slice.sliceAdjust lo hi 1 (n:Int)=(((sIx n 0 lo:Nat):Int),((sIx n n hi:Nat):Int)):=by
 have h1 : ¬ ((1:Int) < 0):=by omega
 unfold Builtin.Slice.sliceAdjust
 simp only [h1,if_false]
 refine Prod.ext ?_ ?_
 ·cases lo with
  | none=>rfl
  | some v=>exact zpg v n 0
 ·cases hi with
  | none=>rfl
  | some v=>exact zpg v n n
theorem zl4 (i j:Nat):Builtin.Slice.slicePlaces (i:Int) (j:Int) 1=j - i:=by
 unfold Builtin.Slice.slicePlaces
 have h1:(1:Int)>0:=by omega
 simp only [h1,if_true,Int.ediv_one]
 split <;> omega
theorem zhk {v:Value} {o:Option Int} {Q:Option Int->Shared->Prop} (p:IsPart v o) (h:Q o s):wpAny (model prog w) A (Builtin.Slice.slicePartIndex v) Q E s:=by
 cases p with
 | none=>exact slicePart_none h
 | int i t=>exact slicePart_int h
theorem zds {lo:Option Int} {n:Nat} {Q:Int × Int × Nat->Shared->Prop} (hs:s.heap.IsSliceOf sl vl vu .none) (pl:IsPart vl lo) (pu:IsPart vu hi)
  (h:Q (((sIx n 0 lo:Nat):Int),1,sIx n n hi - sIx n 0 lo) s):wpAny (model prog w) A (Builtin.Slice.sliceApplied (.ref sl) (pure (n:Int))) Q E s:=by
 obtain ⟨os,hos,hcs,hds⟩:=id hs
 unfold Builtin.Slice.sliceApplied Builtin.Slice.sliceFields
 refine wpAny_bind (wpAny_bind (wpAny_field hos hds (x:=vl) rfl (wpAny_bind (wpAny_field hos hds (x:=vu) rfl (wpAny_bind (wpAny_field hos hds (x := .none) rfl (wpAny_pure ?_)))))))
 refine wpAny_bind (slicePart_none ?_)
 show wpAny _ _ (if ((1:Int) == 0)=true then _ else _) _ _ s
 rw [if_neg (by decide)]
 refine wpAny_bind (zhk pl (wpAny_bind (zhk pu (wpAny_bind (wpAny_pure ?_)))))
 show wpAny _ _ (match Builtin.Slice.sliceAdjust lo hi 1 (n:Int) with | (lo,hi)=>pure (lo,(1:Int),Builtin.Slice.slicePlaces lo hi 1)) _ _ s
 rw [zmJ lo hi n]
 show wpAny _ _ (pure (((sIx n 0 lo:Nat):Int),(1:Int),Builtin.Slice.slicePlaces ((sIx n 0 lo:Nat):Int) ((sIx n n hi:Nat):Int) 1)) _ _ s
 rw [zl4]
 exact wpAny_pure h
theorem zqa (xs:Array Value) (i k:Nat):((List.range k).filterMap fun (m:Nat)=>xs[((i:Int)+(m:Int) * 1).toNat]?).toArray=((xs.toList.drop i).take k).toArray:=by
 have e:(fun (m:Nat)=>xs[((i:Int)+(m:Int) * 1).toNat]?)=fun m=>xs[i+m]?:=by
  funext m
  have:((i:Int)+(m:Int) * 1).toNat=i+m:=by omega
  rw [this]
 rw [e]
 have:=pick_run xs i k
 rw [List.filterMap_map] at this
 have e2:((fun x=>xs[x]?) ∘ fun x=>i+x)=fun m=>xs[i+m]?:=rfl
 rw [e2] at this
 rw [this]
theorem getItem_tuple_cut {items:Array Value} {lo:Option Int} (ht:IsTup s.heap t items) (hs:s.heap.IsSliceOf sl vl vu .none) (pl:IsPart vl lo) (pu:IsPart vu hi)
  (hw : ¬ (sIx items.size 0 lo=0/\sIx items.size items.size hi=items.size))
  (h:Q (.ref s.heap.objs.size) { s with heap:=s.heap.push { cls := .type "tuple", data := .seq ((items.toList.drop (sIx items.size 0 lo)).take (sIx items.size items.size hi - sIx items.size 0 lo)).toArray } })
  (hsz:items.size<=sizeLine):wpAny (model prog w) A (getItem (.ref t) (.ref sl)) Q E s:=by
 have htake:sizeOk (.seq ((items.toList.drop (sIx items.size 0 lo)).take (sIx items.size items.size hi - sIx items.size 0 lo)).toArray):=by
  show ((items.toList.drop (sIx items.size 0 lo)).take (sIx items.size items.size hi - sIx items.size 0 lo)).toArray.size<=sizeLine
  rw [List.size_toArray,List.length_take,List.length_drop,Array.length_toList]
  omega
 have hj:sIx items.size items.size hi<=items.size:=sIx_le _ _ (Nat.le_refl _) hi
 obtain ⟨os,hos,hcs,hds⟩:=id hs
 have hTs:s.TypeIs (.ref sl) "slice" := ⟨os,hos,hcs⟩
 unfold getItem
 try with_reducible refine wpAny_holding ?_
 first | refine wpAny_bind (wpAny_pure ?_) | skip
 refine wpAny_bind (wpAny_sequenceKey ht.typeIs (by decide) ?_)
 refine wpAny_bind (wpAny_callSpecial?_slot (name:=Str.ofString "__getitem__") ht.typeIs PyProof.Rows.slot_tuple_getitem
  (wpAny_call_entry PyProof.Rows.slot_tuple_getitem ht.typeIs entry_tuple_getitem ?_ (args_tuple_getitem _ _)))
 show wpAny _ _ (Builtin.Tuple.tupleItemsOf (.ref t) >>= _) _ _ s
 refine wpAny_bind (tupleItemsOf_ ht ?_)
 refine wpAny_bind (wpAny_typeOf hTs ?_)
 rw [if_pos (by decide)]
 refine wpAny_bind (zds hs pl pu ?_)
 have hno : ¬ ((((sIx items.size 0 lo:Nat):Int) == 0 && (1:Int) == 1 && (sIx items.size items.size hi - sIx items.size 0 lo) == items.size)=true):=by
  intro q
  rw [Bool.and_eq_true,Bool.and_eq_true] at q
  have q1:((sIx items.size 0 lo:Nat):Int)=0:=eq_of_beq q.1.1
  have q2:sIx items.size items.size hi - sIx items.size 0 lo=items.size:=eq_of_beq q.2
  exact hw ⟨by omega,by omega⟩
 show wpAny _ _ (if (((sIx items.size 0 lo:Nat):Int) == 0 && (1:Int) == 1 && (sIx items.size items.size hi - sIx items.size 0 lo) == items.size)=true then _ else _) _ _ s
 rw [if_neg hno,zqa]
 first
  | exact wpAny_bind (m:=Builtin.Tuple.tupleExact _) (wpAny_newObj_type (wpAny_pure ⟨_,rfl,wpAny_pure h⟩) htake)
  | exact wpAny_bind (m:=Builtin.Tuple.tupleExact _) (wpAny_newObj_type (wpAny_bind (wpAny_pure (wpAny_pure ⟨_,rfl,wpAny_pure h⟩))) htake)
  | exact wpAny_bind (wpAny_bind (m:=Builtin.Tuple.tupleExact _) (wpAny_newObj_type (wpAny_pure (wpAny_pure ⟨_,rfl,wpAny_pure h⟩)) htake))
  | exact wpAny_bind (wpAny_bind (m:=Builtin.Tuple.tupleExact _) (wpAny_newObj_type (wpAny_pure ⟨_,rfl,wpAny_pure h⟩) htake))
end
end HT
namespace L2
open PySem PySem.Spec PyProof.Rows
abbrev TO:=St->Hp->(Option Int->Hp->Prop)->Prop
def PO (X:Cx) (e:Option Expr) (t:TO):Prop :=
 ∀ (pins:List (Addr × Obj)) (s:Shared) (σ : St) (H:Hp) (Q:Option Int->Hp->Prop),Inv X pins σ H s->t σ H Q →
  wpAny (model X.prog X.w) X.A (evalPart e X.env) (fun u s'=>∃ o H',Inv X pins σ H' s'/\IsPart u o/\Q o H') X.xe s
def zrw:TO:=fun _ H Q=>Q none H
def tPart (t:TE):TO:=fun σ H Q=>t σ H fun x H1=>∃ i,x = .int i/\Q (some i) H1
variable {X:Cx} {pos:Pos} {r:V->Option Int->Option Int->Hp->VK->Prop} {xs:List V}
section
variable {e:Expr} {te:TE} {lo hi:Option Expr} {tl th:TO} {p2:Pos}
theorem zsl:PO X none zrw:=by
 intro pins s σ H Q I h
 rw [evalPart_none]
 exact wpAny_pure ⟨none,H,I,.none,h⟩
theorem zsk (h:PE X e te):PO X (some e) (tPart te):=by
 intro pins s σ H Q I hw
 rw [evalPart_some]
 refine thn (h pins s σ H _ I hw) fun u s1 ⟨x,H1,I1,r1,q1⟩=>?_
 obtain ⟨i,rfl,q⟩:=q1
 obtain ⟨t,rfl⟩:=r1
 exact ⟨some i,H1,I1,.int i t,q⟩
def SlR (X:Cx) (r:V->Option Int->Option Int->Hp->VK->Prop):Prop :=
 ∀ (pins:List (Addr × Obj)) (s:Shared) (σ : St) (H:Hp) (x:V) (v vl vu:Value) (lo hi:Option Int) (sl:Addr) (Q:VK),Inv X pins σ H s->RelV x v->s.heap.IsSliceOf sl vl vu .none->IsPart vl lo->IsPart vu hi->r x lo hi H Q →
  ∃ T id,typeLookup (.type T) "__getitem__" = pure (some (.builtin id))/\s.TypeIs v T/\wpAny (model X.prog X.w) X.A (getItem v (.ref sl)) (EP X pins σ Q) X.xe s
theorem SlR.or {r':V->Option Int->Option Int->Hp->VK->Prop} (h:SlR X r) (h':SlR X r'):SlR X (fun x lo hi H Q=>r x lo hi H Q∨r' x lo hi H Q):=by
 intro pins s σ H x v vl vu lo hi sl Q I rx hs pl pu q
 rcases q with q | q
 ·exact h pins s σ H x v vl vu lo hi sl Q I rx hs pl pu q
 ·exact h' pins s σ H x v vl vu lo hi sl Q I rx hs pl pu q
def tSl (r:V->Option Int->Option Int->Hp->VK->Prop) (te:TE) (tl th:TO):TE:=fun σ H Q=>te σ H fun x H1=>tl σ H1 fun l H2=>th σ H2 fun u H3=>r x l u H3 Q
theorem zk9 (hr:SlR X r) (he:PE X e te) (hl:PO X lo tl) (hu:PO X hi th):PE X (.Subscript e (.Slice lo hi none p2) pos) (tSl r te tl th):=by
 intro pins s σ H Q I h
 refine Subscript_ (thn (he pins s σ H _ I h) fun v s1 ⟨x,H1,I1,r1,q1⟩=>?_)
 refine wpAny_Slice (thn (hl pins s1 σ H1 _ I1 q1) fun vl s2 ⟨l,H2,I2,pl,q2⟩=>thn (hu pins s2 σ H2 _ I2 q2) fun vu s3 ⟨u,H3,I3,pu,q3⟩=>?_)
 rw [evalPart_none]
 refine wpAny_pure ?_
 have I4:Inv X pins σ H3 { s3 with heap:=s3.heap.push { cls := .type "slice", data := .fields #[vl,vu,.none] } }:=I3.kept (t':=s3.toks) fun b ob q=>Heap.get?_push_of_some _ q
 obtain ⟨T,id,hT,ht,hg⟩:=hr pins { s3 with heap:=s3.heap.push { cls := .type "slice", data := .fields #[vl,vu,.none] } } σ H3 x v vl vu l u s3.heap.objs.size Q I4 r1 (Heap.IsSliceOf.new ..) pl pu q3
 show wpAny (model X.prog X.w) X.A (subscriptTail e (.Slice lo hi none p2) v (.ref s3.heap.objs.size)) (EP X pins σ Q) X.xe { s3 with heap:=s3.heap.push { cls := .type "slice", data := .fields #[vl,vu,.none] } }
 exact tail_any (ops:=[.ref s3.heap.objs.size,v]) ht hT hg (by with_unfolding_all rfl)
def zrn (xs:List V) (lo hi:Option Int):List V:=(xs.drop (HT.sIx xs.length 0 lo)).take (HT.sIx xs.length xs.length hi - HT.sIx xs.length 0 lo)
theorem zgQ (xs:List V) (lo hi:Option Int):(zrn xs lo hi).length<=xs.length:=by
 unfold zrn
 rw [List.length_take,List.length_drop]
 omega
def rSlT (K:PySem.W.Frag):V->Option Int->Option Int->Hp->VK->Prop:=fun x lo hi H Q=>∃ a xs,x = .ref a/\SqT K H a xs ∧
 ¬ (HT.sIx xs.length 0 lo=0/\HT.sIx xs.length xs.length hi=xs.length)/\∀ p,H p=none->Q (.ref p) (upd H p (.tup (zrn xs lo hi)))
theorem zq0:SlR X (rSlT X.K):=by
 intro pins s σ H x v vl vu lo hi sl Q I rx hs pl pu h
 obtain ⟨a,xs,rfl,hx,hw,q⟩:=h
 cases rx
 obtain ⟨its,r,ht,hz⟩:=I.tuple hx
 have hlen:its.toArray.size=xs.length:=by rw [List.size_toArray]; exact r.length.symm
 refine ⟨"tuple", _,PyProof.Rows.slot_tuple_getitem.lookup,ht.typeIs,?_⟩
 refine HT.getItem_tuple_cut ht hs pl pu (by rw [hlen]; exact hw) ?_ (by rw [hlen]; exact hz)
 rw [hlen]
 refine ⟨.ref s.heap.objs.size,_,I.laid (t':=s.toks) (o := .tup (zrn xs lo hi)) (fun b ob q=>Heap.get?_push_of_some _ q) (Nat.le_refl _) ?_,rfl,q _ (I.hok.fresh (Nat.le_refl _))⟩
 exact ⟨Nat.le_trans (zgQ xs lo hi) hz,_,(r.drop (HT.sIx xs.length 0 lo)).take (HT.sIx xs.length xs.length hi - HT.sIx xs.length 0 lo),IsTup.new _ _,_,Heap.get?_push_size _ rfl,rfl⟩
def rCatT (K:PySem.W.Frag):R2:=fun x y H Q=>∃ a b xs ys,x = .ref a/\y = .ref b/\SqT K H a xs/\SqT K H b ys/\xs≠[]/\xs.length+ys.length<=sizeLine ∧
 (ys=[]->Q (.ref a) H)/\(ys≠[]->∀ p,H p=none->Q (.ref p) (upd H p (.tup (xs++ys))))
theorem Vals.nil_iff {us:List Value} (r:Vals xs us):us=[] ↔ xs=[]:=by
 cases r with
 | nil=>simp
 | cons _ _=>simp
theorem zsz:OpR X (binaryOp .Add) (rCatT X.K):=by
 intro pins s σ H x y v u Q I rx ry h
 obtain ⟨a,b,xs,ys,rfl,rfl,ha,hb,hx,hz,q1,q2⟩:=h
 cases rx
 cases ry
 obtain ⟨its,r1,p1,_⟩:=I.tuple ha
 obtain ⟨its2,r2,p2,_⟩:=I.tuple hb
 refine HT.cat_tup p1 p2 (fun z=>hx (r1.nil_iff.mp z)) (fun z=>⟨.ref a,H,I,rfl,q1 (r2.nil_iff.mp z)⟩) (fun z=>?_) (by rw [<- r1.length,<- r2.length]; exact hz)
 refine ⟨.ref s.heap.objs.size,_,I.laid (t':=s.toks) (o := .tup (xs++ys)) (fun b ob q=>Heap.get?_push_of_some _ q) (Nat.le_refl _) ?_,rfl,q2 (fun w=>z (r2.nil_iff.mpr w)) _ (I.hok.fresh (Nat.le_refl _))⟩
 exact ⟨by rw [List.length_append]; exact hz,_,r1.append r2,IsTup.new _ _,_,Heap.get?_push_size _ rfl,rfl⟩
end
def ixN (n:Nat) (i:Int):Option Nat:=if 0<=i then (if i < n then some i.toNat else none) else if -(n:Int)<=i then some (i+n).toNat else none
variable {α : Type}
def atI (xs:List α) (i:Int):Option α := (ixN xs.length i).bind fun j=>xs[j]?
variable {n:Nat} {i:Int}
theorem zoJ {j:Nat} (h:ixN n i=some j):seqIndex? i n=some j/\j < n /\ -(n:Int)<=i/\i < n:=by
 unfold ixN at h
 by_cases h0:0<=i
 ·rw [if_pos h0] at h
  by_cases h1:i < n
  ·rw [if_pos h1] at h
   have e:i.toNat=j:=Option.some.inj h
   exact ⟨by rw [seqIndex_of h0 h1,e],by omega,by omega,h1⟩
  ·rw [if_neg h1] at h; cases h
 ·rw [if_neg h0] at h
  by_cases h1 : -(n:Int)<=i
  ·rw [if_pos h1] at h
   have e:(i+n).toNat=j:=Option.some.inj h
   exact ⟨by rw [seqIndex_neg (by omega) h1,e],by omega,h1,by omega⟩
  ·rw [if_neg h1] at h; cases h
theorem zkJ {xs:List α} {v:α} (h:atI xs i=some v):∃ j,seqIndex? i xs.length=some j/\xs[j]?=some v/\j < xs.length /\ -(xs.length:Int)<=i/\i < xs.length:=by
 unfold atI at h
 cases e:ixN xs.length i with
 | none=>rw [e] at h; cases h
 | some j =>
  rw [e] at h
  obtain ⟨h1,h2,h3,h4⟩:=zoJ e
  exact ⟨j,h1,h,h2,h3,h4⟩
def zkM (b:Expr):Prop:=∀ o i,subscripted b false o i=operate [o,i] (getItem o i)
def IxR (X:Cx) (r:R2):Prop :=
 ∀ (value slice:Expr) (pins:List (Addr × Obj)) (s:Shared) (σ : St) (H:Hp) (x y:V) (v u:Value) (Q:VK),Inv X pins σ H s->RelV x v->RelV y u->r x y H Q →
  subscripted slice false v u=operate [v,u] (getItem v u)->wpAny (model X.prog X.w) X.A (subscriptTail value slice v u) (EP X pins σ Q) X.xe s
def MtR (X:Cx) (id:String) (r:V->List V->Hp->VK->Prop):Prop :=
 ∀ (pins:List (Addr × Obj)) (s:Shared) (σ : St) (H:Hp) (x:V) (xs:List V) (v:Value) (us:List Value) (Q:VK),Inv X pins σ H s->RelV x v->Vals xs us->r x xs H Q →
  wpAny (model X.prog X.w) X.A (call (.builtin id) (v::us)) (EP X pins σ Q) X.xe s
variable {pins:List (Addr × Obj)} {σ : St} {H:Hp} {s:Shared} {p:Addr} {its its':List Value} {y x:V} {u v:Value} {T:String}
section
variable {a b:Expr} {ta tb:TE}
theorem IxR.or {r r':R2} (h:IxR X r) (h':IxR X r'):IxR X (fun x y H Q=>r x y H Q∨r' x y H Q):=by
 intro value slice pins s σ H x y v u Q I rx ry q hs
 rcases q with q | q
 ·exact h value slice pins s σ H x y v u Q I rx ry q hs
 ·exact h' value slice pins s σ H x y v u Q I rx ry q hs
theorem pe_ix {r:R2} (hr:IxR X r) (ha:PE X a ta) (hb:PE X b tb) (hs:zkM b):PE X (.Subscript a b pos) (tOp r ta tb):=by
 intro pins s σ H Q I h
 exact Subscript_ (binT ha hb I h fun v u s2 x y H2 I2 rx ry q=>hr a b pins s2 σ H2 x y v u Q I2 rx ry q (hs _ _))
def rIxL (K:PySem.W.Frag):R2:=fun x y H Q=>∃ p xs i v,x = .ref p/\y = .int i/\SqL K H p xs/\atI xs i=some v/\Q v H
def rIxT (K:PySem.W.Frag):R2:=fun x y H Q=>∃ p xs i v,x = .ref p/\y = .int i/\SqT K H p xs/\atI xs i=some v/\Q v H
def rIxS:R2:=fun x y H Q=>∃ z i c,x = .str z/\y = .int i/\z.length<=sizeLine/\atI z.cps.toList i=some c/\Q (.str ⟨#[c]⟩) H
theorem ix_list:IxR X (rIxL X.K):=by
 intro value slice pins s σ H x y v u Q I rx ry h hs
 obtain ⟨p,xs,i,z,rfl,rfl,hq,he,q⟩:=h
 cases rx
 obtain ⟨t,rfl⟩:=ry
 obtain ⟨its,r,pl,hz⟩:=I.list hq
 obtain ⟨j,h1,h2,h3,h4,h5⟩:=zkJ he
 obtain ⟨w,ew,rw'⟩:=r.get h2
 have hl:=r.length
 have hn:=zhs
 have fin:EP X pins σ Q w s:=⟨z,H,I,rw',q⟩
 by_cases h0:0<=i
 ·have hj:i.toNat=j:=by
   rw [seqIndex_of h0 h5] at h1
   exact Option.some.inj h1
  exact item_listR pl.isList h0 (by omega) (by rw [hj]; simpa using ew) fin hs
 ·have hj:(i+(its.toArray.size:Int)).toNat=j:=by
   rw [seqIndex_neg (by omega) h4] at h1
   rw [List.size_toArray,<- hl]
   exact Option.some.inj h1
  exact subscriptTail_builtinR (x:=w) pl.isList.typeIs slot_list_getitem.lookup
   (wpAny_getItem_list_neg (Q:=fun r s'=>r=w/\EP X pins σ Q r s') pl.isList (by omega) (by rw [List.size_toArray] <;> omega) (by omega) (by rw [hj]; simpa using ew) ⟨rfl,fin⟩) hs
theorem ix_tup:IxR X (rIxT X.K):=by
 intro value slice pins s σ H x y v u Q I rx ry h hs
 obtain ⟨p,xs,i,z,rfl,rfl,hq,he,q⟩:=h
 cases rx
 obtain ⟨t,rfl⟩:=ry
 obtain ⟨its,r,pl,hz⟩:=I.tuple hq
 obtain ⟨j,h1,h2,h3,h4,h5⟩:=zkJ he
 obtain ⟨w,ew,rw'⟩:=r.get h2
 have hl:=r.length
 have hn:=zhs
 have fin:EP X pins σ Q w s:=⟨z,H,I,rw',q⟩
 exact subscriptTail_builtinR (x:=w) pl.typeIs slot_tuple_getitem.lookup
  (getItem_tuple (j:=j) (Q:=fun r s'=>r=w/\EP X pins σ Q r s') pl (by omega) (by omega) (by rw [List.size_toArray,<- hl]; exact h1) (by simpa using ew) ⟨rfl,fin⟩) hs
theorem ix_str:IxR X rIxS:=by
 intro value slice pins s σ H x y v u Q I rx ry h hs
 obtain ⟨z,i,c,rfl,rfl,hz,he,q⟩:=h
 obtain ⟨t,rfl⟩:=rx
 obtain ⟨t',rfl⟩:=ry
 obtain ⟨j,h1,h2,h3,h4,h5⟩:=zkJ he
 have hl:z.cps.toList.length=z.length:=by simp [Str.length]
 rw [hl] at h1 h4 h5
 have hn:=zhs
 exact tail_any (typeIs_str s z t) slot_str_getitem.lookup (getItem_str (c:=c) (by
  have e1:decide (i < -(2 ^ 63:Int))=false:=decide_eq_false (by omega)
  have e2:decide (i ≥ 2 ^ 63)=false:=decide_eq_false (by omega)
  rw [e1,e2,Bool.or_false]) (by rw [h1]; simpa using h2) ⟨.str ⟨#[c]⟩,H,I.tok _,⟨_,rfl⟩,q⟩) hs
def rIx (K:PySem.W.Frag):R2:=fun x y H Q=>rIxL K x y H Q∨rIxT K x y H Q∨rIxS x y H Q
theorem ix_seq:IxR X (rIx X.K):=ix_list.or (ix_tup.or ix_str)
theorem zmn (its:List Value) (n j:Nat) (u:Value):Obj.mapSeq (·.setIfInBounds j u) { cls := .type "list", data := .seq its.toArray n }={ cls := .type "list", data := .seq (its.set j u).toArray n }:=by
 simp [Obj.mapSeq]
theorem Inv.lst (I:Inv X pins σ H s) (h:H p=some (.lst xs)) :
  ∃ (its:List Value) (n:Nat),Vals xs its/\s.heap.get? p=some { cls := .type "list", data := .seq its.toArray n }/\xs.length<=sizeLine:=by
 obtain ⟨z,its,n,r,e⟩:=I.hok p _ h
 exact ⟨its,n,r,e,z⟩
theorem Inv.lstUpd {ys:List V} {n':Nat} {f:Obj->Obj} (I:Inv X pins σ H s) (h:H p=some (.lst xs))
  (ho:s.heap.get? p=some { cls := .type "list", data := .seq its.toArray n }) (hf:f { cls := .type "list", data := .seq its.toArray n }={ cls := .type "list", data := .seq its'.toArray n' }) (r:Vals ys its') (hz:ys.length<=sizeLine) (t:Nat) :
  Inv X pins σ (upd H p (.lst ys)) { s with heap:=s.heap.update p f,toks:=t }:=by
 have e:(s.heap.update p f).get? p=some { cls := .type "list", data := .seq its'.toArray n' }:=by
  rw [Heap.get?_update_self f ho (by rw [hf] <;> rfl),hf]
 refine I.write (x:=p) (e:=p) (by rw [h]; trivial) (.inl rfl) (fun b u hb q=>(Heap.get?_update_other _ _ (Ne.symm hb)).trans q) ⟨_,e⟩ ?_
 exact ⟨hz,its',n',r,e⟩
def rSetL:V->V->V->Hp->(Hp->Prop)->Prop:=fun o i v H Q=>∃ p xs k j,o = .ref p/\i = .int k/\H p=some (.lst xs)/\ixN xs.length k=some j/\Q (upd H p (.lst (xs.set j v)))
theorem zpN:PSet X rSetL:=by
 intro pins s σ H o i v ov iv u Q I ro ri rv h
 obtain ⟨p,xs,k,j,rfl,rfl,hp,hj,q⟩:=h
 cases ro
 obtain ⟨t,rfl⟩:=ri
 obtain ⟨its,n,r,ho,hz⟩:=I.lst hp
 obtain ⟨h1,h2,h3,h4⟩:=zoJ hj
 have hl:=r.length
 have hn:=zhs
 have I':Inv X pins σ (upd H p (.lst (xs.set j v))) { s with heap:=s.heap.update p (Obj.mapSeq (·.setIfInBounds j u)) } :=
  I.lstUpd hp ho (zmn its n j u) (r.set rv j) (by rw [List.length_set]; exact hz) s.toks
 by_cases h0:0<=k
 ·have hk:k.toNat=j:=by
   rw [seqIndex_of h0 h4] at h1
   exact Option.some.inj h1
  exact PySem.W.ki_setAt ho h0 (by omega) (by rw [List.size_toArray,<- hl]; exact h4) (by rw [hk]; exact ⟨_,I',q⟩)
 ·have hk:(k+(its.toArray.size:Int)).toNat=j:=by
   rw [seqIndex_neg (by omega) h3] at h1
   rw [List.size_toArray,<- hl]
   exact Option.some.inj h1
  exact PySem.W.ki_setBack ho (by omega) (by rw [List.size_toArray,<- hl]; exact h3) (by omega) (by rw [hk]; exact ⟨_,I',q⟩)
theorem ziH (lo hi:Option Int) (n:Nat):(sliceBounds lo hi none n).1=((HT.sIx n 0 lo:Nat):Int)/\(sliceBounds lo hi none n).2.1=((HT.sIx n n hi:Nat):Int)/\(sliceBounds lo hi none n).2.2=1:=by
 refine ⟨?_,?_,rfl⟩
 ·cases lo with
  | none=>simp [sliceBounds,HT.sIx]
  | some i =>
   simp only [sliceBounds,HT.sIx,Option.getD_none,show (1:Int)>0 by decide,if_true]
   by_cases h:i < 0
   ·simp only [h,if_true] <;> omega
   ·simp only [h,if_false] <;> omega
 ·cases hi with
  | none=>simp [sliceBounds,HT.sIx]
  | some i =>
   simp only [sliceBounds,HT.sIx,Option.getD_none,show (1:Int)>0 by decide,if_true]
   by_cases h:i < 0
   ·simp only [h,if_true] <;> omega
   ·simp only [h,if_false] <;> omega
theorem zhT (its:List Value) (lo hi:Option Int):slicePick its.toArray lo hi none=((its.drop (HT.sIx its.length 0 lo)).take (HT.sIx its.length its.length hi - HT.sIx its.length 0 lo)).toArray:=by
 obtain ⟨h1,h2,h3⟩:=ziH lo hi its.toArray.size
 unfold slicePick
 rw [h1,h2,h3]
 simp only [sliceRange_one,pick_run,List.size_toArray] <;> rfl
def rSlL (K:PySem.W.Frag):V->Option Int->Option Int->Hp->VK->Prop:=fun x lo hi H Q=>∃ a xs,x = .ref a/\SqL K H a xs/\∀ p,H p=none->Q (.ref p) (upd H p (.lst (zrn xs lo hi)))
theorem zm6:SlR X (rSlL X.K):=by
 intro pins s σ H x v vl vu lo hi sl Q I rx hs pl pu h
 obtain ⟨a,xs,rfl,hx,q⟩:=h
 cases rx
 obtain ⟨its,r,ht,hz⟩:=I.list hx
 have hlen:=r.length
 refine ⟨"list", _,slot_list_getitem.lookup,ht.isList.typeIs,?_⟩
 refine wpAny_getItem_list_slice ht.isList hs pl pu .none (by simp) ?_ (by rw [List.size_toArray] <;> omega)
 rw [zhT,<- hlen]
 refine ⟨.ref s.heap.objs.size,_,I.laid (t':=s.toks) (o := .lst (zrn xs lo hi)) (fun b ob q=>Heap.get?_push_of_some _ q) (Nat.le_refl _) ?_,rfl,q _ (I.hok.fresh (Nat.le_refl _))⟩
 exact ⟨Nat.le_trans (zgQ xs lo hi) hz,_,0,(r.drop (HT.sIx xs.length 0 lo)).take (HT.sIx xs.length xs.length hi - HT.sIx xs.length 0 lo),Heap.get?_push_size _ rfl⟩
def zdN:V->Bool
 | .non=>true
 | .bl _=>true
 | .int _=>true
 | .str _=>true
 | _=>false
def eqV:V->V->Bool
 | .non,.non=>true
 | .bl a,.bl b=>a == b
 | .bl a,.int b=>(if a then 1 else 0) == b
 | .int a,.bl b=>a == (if b then 1 else 0)
 | .int a,.int b=>a == b
 | .str a,.str b=>a == b
 | _,_=>false
theorem eqAt_V {A:Around} (ry:RelV y u) (rx:RelV x v) (fy:zdN y=true) (fx:zdN x=true):SeqAt.EqAt A s u v (eqV y x):=by
 cases y with
 | non =>
  cases ry
  cases x with
  | non=>cases rx; exact SeqAt.EqAt.same _
  | bl b=>cases rx; exact SeqAt.EqAt.none_bool b
  | int b=>obtain ⟨t,rfl⟩:=rx; exact SeqAt.EqAt.none_int b t
  | str b=>obtain ⟨t,rfl⟩:=rx; exact SeqAt.EqAt.none_str b t
  | _=>exact absurd (show false=true from fx) Bool.false_ne_true
 | bl a =>
  cases ry
  cases x with
  | non=>cases rx; exact SeqAt.EqAt.bool_none a
  | bl b=>cases rx; exact SeqAt.EqAt.bool_bool a b
  | int b=>obtain ⟨t,rfl⟩:=rx; exact SeqAt.EqAt.bool_int a b t
  | str b=>obtain ⟨t,rfl⟩:=rx; exact SeqAt.EqAt.bool_str a b t
  | _=>exact absurd (show false=true from fx) Bool.false_ne_true
 | int a =>
  obtain ⟨t',rfl⟩:=ry
  cases x with
  | non=>cases rx; exact SeqAt.EqAt.int_none a t'
  | bl b=>cases rx; exact SeqAt.EqAt.int_bool a t' b
  | int b=>obtain ⟨t,rfl⟩:=rx; exact SeqAt.EqAt.int_int a t' b t
  | str b=>obtain ⟨t,rfl⟩:=rx; exact SeqAt.EqAt.int_str a t' b t
  | _=>exact absurd (show false=true from fx) Bool.false_ne_true
 | str a =>
  obtain ⟨t',rfl⟩:=ry
  cases x with
  | non=>cases rx; exact SeqAt.EqAt.str_none a t'
  | bl b=>cases rx; exact SeqAt.EqAt.str_bool a t' b
  | int b=>obtain ⟨t,rfl⟩:=rx; exact SeqAt.EqAt.str_int a t' b t
  | str b=>obtain ⟨t,rfl⟩:=rx; exact SeqAt.EqAt.str_str a t' b t
  | _=>exact absurd (show false=true from fx) Bool.false_ne_true
 | _=>exact absurd (show false=true from fy) Bool.false_ne_true
def eqU (x:V) (u:Value):Bool:=match u with
 | .none=>eqV .non x
 | .bool b=>eqV (.bl b) x
 | .int i _=>eqV (.int i) x
 | .str z _=>eqV (.str z) x
 | _=>false
theorem eqU_of (r:RelV y u) (f:zdN y=true):eqU x u=eqV y x:=by
 cases y with
 | non=>cases r; rfl
 | bl b=>cases r; rfl
 | int i=>obtain ⟨t,rfl⟩:=r; rfl
 | str z=>obtain ⟨t,rfl⟩:=r; rfl
 | _=>exact absurd (show false=true from f) Bool.false_ne_true
theorem zf7 {A:Around} {s:Shared} {x:V} {v:Value} (rx:RelV x v) (fx:zdN x=true):∀ {xs:List V} {us:List Value},Vals xs us->xs.all zdN=true->∀ u∈us,SeqAt.EqAt A s u v (eqU x u)
 | _,_,.nil,_=>fun u hu=>by cases hu
 | y::xs,u::us,.cons r t,f=>fun u' hu=>by
  rw [List.all_cons,Bool.and_eq_true] at f
  rcases List.mem_cons.mp hu with rfl | hu
  ·rw [eqU_of r f.1]; exact eqAt_V r rx f.1 fx
  ·exact zf7 rx fx t f.2 u' hu
theorem zjK:CallR X (.builtin "len") (fun xs H Q=>∃ p ys,xs=[.ref p]/\(SqL X.K H p ys∨SqT X.K H p ys)/\Q (.int ys.length) H):=by
 intro pins s σ H xs us Q I r h
 obtain ⟨p,ys,rfl,hq,q⟩:=h
 obtain ⟨u,rfl,rx⟩:=zcn r
 cases rx
 have hn:=zhs
 rcases hq with hq | hq
 ·obtain ⟨its,r',pl,hz⟩:=I.list hq
  have hlen:=r'.length
  exact Calls.call_len_list pl.isList (by simp only [List.size_toArray] <;> omega) ⟨.int ys.length,H,I.tok _,⟨s.toks+1,by rw [List.size_toArray,hlen]⟩,q⟩
 ·obtain ⟨its,r',pl,hz⟩:=I.tuple hq
  have hlen:=r'.length
  exact len_tuple pl (by simp only [List.size_toArray] <;> omega) ⟨.int ys.length,H,I.tok _,⟨s.toks+1,by rw [List.size_toArray,hlen]⟩,q⟩
theorem zjJ:CallR X (.builtin "len") (fun xs H Q=>∃ z,xs=[.str z]/\z.length<=sizeLine/\Q (.int z.length) H):=by
 intro pins s σ H xs us Q I r h
 obtain ⟨z,rfl,hz,q⟩:=h
 obtain ⟨u,rfl,t,rfl⟩:=zcn r
 have hn:=zhs
 exact len_str (by omega) ⟨.int z.length,H,I.tok _,⟨_,rfl⟩,q⟩
theorem CallR.or {f:Value} {r r':List V->Hp->VK->Prop} (h:CallR X f r) (h':CallR X f r'):CallR X f (fun xs H Q=>r xs H Q∨r' xs H Q):=by
 intro pins s σ H xs us Q I rs q
 rcases q with q | q
 ·exact h pins s σ H xs us Q I rs q
 ·exact h' pins s σ H xs us Q I rs q
theorem zjI:CallR X (.type "list") (fun xs H Q=>∃ p ys,xs=[.ref p]/\(SqL X.K H p ys∨SqT X.K H p ys)/\∀ l,H l=none->Q (.ref l) (upd H l (.lst ys))):=by
 intro pins s σ H xs us Q I r h
 obtain ⟨p,ys,rfl,hq,q⟩:=h
 obtain ⟨u,rfl,rx⟩:=zcn r
 cases rx
 have fin:∀ (its:List Value),Vals ys its->ys.length<=sizeLine->∀ (h':Heap) (c':Nat),(∀ b o',s.heap.get? b=some o'->h'.get? b=some o') →
   h'.get? s.heap.objs.size=some { cls := .type "list", dict:=none,data := .seq its.toArray c',slots := #[] }->EP X pins σ Q (.ref s.heap.objs.size) { s with heap:=h' }:=fun its r' hz h' c' kp e =>
  ⟨.ref s.heap.objs.size,_,I.laid (t':=s.toks) kp (Nat.le_refl _) (show ObjOk X.prog X.w _ h' _ (.lst ys) from ⟨hz,its,c',r',e⟩),rfl,q _ (I.hok.fresh (Nat.le_refl _))⟩
 rcases hq with hq | hq
 ·obtain ⟨its,r',pl,hz⟩:=I.list hq
  have hlen:=r'.length
  obtain ⟨o,ho,hc,n,hd⟩:=pl.isList
  exact call_list_seq p (.inl rfl) ho hc hd (fun h' c' kp e=>fin its r' hz h' c' kp e) (by simp only [List.size_toArray] <;> omega)
 ·obtain ⟨its,r',pl,hz⟩:=I.tuple hq
  have hlen:=r'.length
  obtain ⟨o,ho,hc,n,hd⟩:=pl
  exact call_list_seq p (.inr rfl) ho hc hd (fun h' c' kp e=>fin its r' hz h' c' kp e) (by simp only [List.size_toArray] <;> omega)
theorem ziz:CallR X (.type "tuple") (fun xs H Q=>∃ p ys,xs=[.ref p]/\((SqL X.K H p ys/\∀ l,H l=none->Q (.ref l) (upd H l (.tup ys)))∨(SqT X.K H p ys/\Q (.ref p) H))):=by
 intro pins s σ H xs us Q I r h
 obtain ⟨p,ys,rfl,h⟩:=h
 obtain ⟨u,rfl,rx⟩:=zcn r
 cases rx
 rcases h with ⟨hq,q⟩ | ⟨hq,q⟩
 ·obtain ⟨its,r',pl,hz⟩:=I.list hq
  have hlen:=r'.length
  refine call_tuple_list pl.isList (fun h' kp=>?_) (by simp only [List.size_toArray] <;> omega)
  have I1:Inv X pins σ H { s with heap:=h' }:=I.kept (t':=s.toks) kp
  have I2:Inv X pins σ (upd H h'.objs.size (.tup ys)) { s with heap:=h'.push { cls := .type "tuple", data := .seq its.toArray } } :=
   I1.laid (t':=s.toks) (fun b o e=>Heap.get?_push_of_some _ e) (Nat.le_refl _) (show ObjOk X.prog X.w _ _ _ (.tup ys) from ⟨hz,its,r',IsTup.new _ _,_,Heap.get?_push_size _ rfl,rfl⟩)
  exact ⟨.ref h'.objs.size,_,I2,rfl,q _ (I1.hok.fresh (Nat.le_refl _))⟩
 ·obtain ⟨its,r',pl,hz⟩:=I.tuple hq
  exact call_tuple_same pl ⟨.ref p,H,I,rfl,q⟩
def tyV (K:PySem.W.Frag) (T:String) (x:V) (H:Hp):Prop:=match x with
 | .str _=>T = "str"
 | .int _=>T = "int"
 | .ref p=>(T = "list" /\ ∃ xs,SqL K H p xs)∨(T = "tuple" /\ ∃ o,K.lookup p=some o/\o.cls = .type "tuple" /\ o.dict=none) ∨
   (T = "dict" /\ ((∃ kvs,H p=some (.dK kvs))∨∃ kvs,H p=some (.dT kvs)))∨(T = "set" /\ ∃ S n,H p=some (.set S n))
 | _=>False
theorem tyV_is (I:Inv X pins σ H s) (r:RelV x v) (ty:tyV X.K T x H) :
  s.TypeIs v T/\∀ a,v = .ref a->∃ ob,s.heap.get? a=some ob/\ob.dict=none:=by
 cases x with
 | str z =>
  obtain ⟨t,rfl⟩:=r
  cases (show T = "str" from ty)
  exact ⟨typeIs_str s z t,fun _ e=>nomatch e⟩
 | int i =>
  obtain ⟨t,rfl⟩:=r
  cases (show T = "int" from ty)
  exact ⟨typeIs_int s i t,fun _ e=>nomatch e⟩
 | ref p =>
  cases r
  rcases ty with ⟨rfl,xs,hq⟩ | ⟨rfl,o,hk,hc,hd⟩ | ⟨rfl,hk⟩ | ⟨rfl,S,n,hk⟩
  ·obtain ⟨its,_,pl,_⟩:=I.list hq
   refine ⟨pl.isList.typeIs,fun a e=>?_⟩
   cases e
   obtain ⟨o,n,e,c,hd,_⟩:=pl
   exact ⟨o,e,hd⟩
  ·refine ⟨⟨o,I.kIn p o hk,hc⟩,fun a e=>?_⟩
   cases e
   exact ⟨o,I.kIn _ o hk,hd⟩
  ·have z:∃ o,s.heap.get? p=some o/\o.ExactDict:=by
    rcases hk with ⟨kvs,hk⟩ | ⟨kvs,hk⟩
    ·obtain ⟨_,_,_,_,o,_,_,e,ex,_⟩:=I.hok p _ hk
     exact ⟨o,e,ex⟩
    ·obtain ⟨_,_,_,_,o,_,_,e,ex,_⟩:=I.hok p _ hk
     exact ⟨o,e,ex⟩
   obtain ⟨o,e,ex⟩:=z
   refine ⟨⟨o,e,ex.1⟩,fun a e2=>?_⟩
   cases e2
   exact ⟨o,e,ex.2.1⟩
  ·obtain ⟨o,_,_,_,e,ex,_⟩:=I.hok p _ hk
   refine ⟨⟨o,e,ex.1⟩,fun a e2=>?_⟩
   cases e2
   exact ⟨o,e,ex.2.1⟩
 | _=>exact False.elim ty
def tBM (K:PySem.W.Frag) (T:String) (r:V->List V->Hp->VK->Prop) (to:TE) (t:TA):TE:=fun σ H Q=>to σ H fun x H1=>tyV K T x H1/\t σ H1 fun xs H2=>r x xs H2 Q
variable {o e:Expr} {es:List Expr} {to:TE} {t:TA} {name:Str} {apos cpos:Pos} {id:String} {r:V->List V->Hp->VK->Prop}
theorem pe_bm (pa:PlainAttrs T) (slot:Slot T name id) (hty:typeOf (.builtin id)=pure (.type "method_descriptor")) (hm:MtR X id r) (ho:PE X o to) (ha:PA X (e::es) t)
  (hbase:autoParam (attributeBase o name X.env (eval o X.env)=eval o X.env) AutoP.a3._auto_1)
  (hfew:autoParam (((backTo cpos (starEach (e::es) X.env)).all (fun x => !x.1) && (backToKw cpos (keywordEach [] X.env)).all (fun x=>x.1.isSome)
   && decide ((e::es).length+([]:List Keyword).length+(if ([]:List Keyword).isEmpty then 0 else 1) < 30))=true) AutoP.a3._auto_1)
  (hline:autoParam ((apos.endLine == cpos.line)=true) AutoP.a3._auto_1) (hs:autoParam (starEach (e::es) X.env=(false,eval e X.env)::starEach es X.env) AutoP.a3._auto_1) (hplain:autoParam ((backTo cpos (starEach es X.env)).any (·.1)=false) AutoP.a3._auto_1) :
  PE X (.Call (.Attribute o name apos) (e::es) [] cpos) (tBM X.K T r to t):=by
 intro pins s σ H Q I h
 refine wpAny_Call_method_late hbase hfew hline rfl (thn (ho pins s σ H _ I h) fun v s1 ⟨x,H1,I1,r1,ty,q1⟩=>?_)
 obtain ⟨h1,h2⟩:=tyV_is I1 r1 ty
 refine ⟨T,id,pa,slot,hty,h1,h2,?_⟩
 have hA:=ha cpos pins s1 σ H1 _ I1 q1
 rw [hs] at hA ⊢
 refine Calls.callWith_builtin (by show (false || (backTo cpos (starEach es X.env)).any (·.1))=false; rw [hplain] <;> rfl) (Calls.evalArgs_plain ?_)
 exact thn hA fun us s2 ⟨vs,H2,I2,r2,q2⟩=>hm pins s2 σ H2 x vs v us Q I2 r1 r2 q2
end
def MtM (X:Cx) (id:String) (r:V->List V->Hp->VK->Prop):Prop :=
 ∀ (pins:List (Addr × Obj)) (s:Shared) (σ : St) (H:Hp) (x:V) (xs:List V) (v:Value) (us:List Value) (Q:VK),Inv X pins σ H s->RelV x v->Vals xs us->r x xs H Q →
  wpAny (model X.prog X.w) X.A (call (.builtin id) (v::us)) (EP X pins σ Q) X.xe s
theorem Vals.one:∀ {x:V} {us:List Value},Vals [x] us->∃ u,us=[u]/\RelV x u
 | _,_,.cons r .nil=>⟨_,rfl,r⟩
theorem Vals.eraseIdx:∀ {xs:List V} {us:List Value} (i:Nat),Vals xs us->Vals (xs.eraseIdx i) (us.eraseIdx i)
 | _,_,_,.nil => .nil
 | _,_,0,.cons _ t=>t
 | _,_,i+1,.cons r t => .cons r (Vals.eraseIdx i t)
theorem zi8 {α : Type}:∀ (l:List α) (i:Nat),(l.eraseIdx i).length<=l.length
 | [],_=>Nat.le_refl _
 | _::_,0=>Nat.le_succ _
 | _::r,i+1=>Nat.succ_le_succ (zi8 r i)
variable {t':Nat}
section
variable {l b:Addr} {ys zs:List V}
theorem Inv.lset {f:Array Value->Array Value} (I:Inv X pins σ H s) (hH:H l=some (.lst xs))
  (e:s.heap.get? l=some { cls := .type "list", data := .seq its.toArray n }) (hf:f its.toArray=its'.toArray) (hv:Vals ys its') (hz:ys.length<=sizeLine) :
  Inv X pins σ (upd H l (.lst ys)) { s with heap:=s.heap.update l (Obj.mapSeq f),toks:=t' }:=by
 have q:=PySem.IsL.update e f
 rw [hf] at q
 refine I.write (x:=l) (e:=l) (by rw [hH]; exact trivial) (.inl rfl) (fun b' u hb hu=>(Heap.get?_update_other s.heap (Obj.mapSeq f) (Ne.symm hb)).trans hu) ⟨_,q⟩ ?_
 exact ⟨hz,its',_,hv,q⟩
theorem Inv.lnew (I:Inv X pins σ H s) (hv:Vals ys its) (hz:ys.length<=sizeLine) :
  Inv X pins σ (upd H s.heap.objs.size (.lst ys)) { s with heap:=s.heap.push { cls := .type "list", data := .seq its.toArray },toks:=t' } :=
 I.laid (fun _ _ q=>Heap.get?_push_of_some _ q) (Nat.le_refl _) ⟨hz,its,0,hv,Heap.get?_push_size _ rfl⟩
theorem Inv.fresh (I:Inv X pins σ H s):H s.heap.objs.size=none:=I.hok.fresh (Nat.le_refl _)
theorem Inv.lstM (I:Inv X pins σ H s) (hH:H l=some (.lst xs)):xs.length<=sizeLine/\∃ (its:List Value) (n:Nat),Vals xs its/\xs.length=its.length/\s.heap.get? l=some { cls := .type "list", data := .seq its.toArray n }:=by
 obtain ⟨z,its,n,r,e⟩:=I.hok l _ hH
 exact ⟨z,its,n,r,r.length,e⟩
end
section
def znu:V->List V->Hp->VK->Prop:=fun x vs H Q=>∃ l xs y,x = .ref l/\vs=[y]/\H l=some (.lst xs)/\xs.length < sizeLine/\Q .non (upd H l (.lst (xs++[y])))
theorem zdD:MtM X "list.append" znu:=by
 intro pins s σ H x vs v us Q I rx rv h
 obtain ⟨l,xs,y,rfl,rfl,hH,hz,q⟩:=h
 cases rx
 obtain ⟨u,rfl,ru⟩:=rv.one
 obtain ⟨z,its,n,r,hl,e⟩:=I.lstM hH
 refine call_meets F.slot_list_append ⟨_,e,rfl⟩ F.entry_list_append (F.args_list_append_2 _ _) (PySem.list_append l its.toArray n u (by rw [List.size_toArray]; omega)) ⟨e,?_⟩
 refine ⟨.non,_,I.lset (its':=its++[u]) hH e (by simp) (r.append (.cons ru .nil)) ?_,rfl,q⟩
 rw [List.length_append,List.length_singleton]
 omega
def zq1:V->List V->Hp->VK->Prop:=fun x vs H Q=>∃ l xs i k y,x = .ref l/\vs=[.int i]/\H l=some (.lst xs) /\ -(2 ^ 63)<=i/\i < 2 ^ 63/\seqIndex? i xs.length=some k/\xs[k]?=some y/\Q y (upd H l (.lst (xs.eraseIdx k)))
theorem zqv:MtM X "list.pop" zq1:=by
 intro pins s σ H x vs v us Q I rx rv h
 obtain ⟨l,xs,i,k,y,rfl,rfl,hH,h1,h2,hk,hy,q⟩:=h
 cases rx
 obtain ⟨u,rfl,ru⟩:=rv.one
 obtain ⟨t,rfl⟩:=ru
 obtain ⟨z,its,n,r,hl,e⟩:=I.lstM hH
 obtain ⟨w,hw,rw'⟩:=r.get hy
 refine call_meets F.slot_list_pop ⟨_,e,rfl⟩ F.entry_list_pop (F.args_list_pop_2 _ _)
  (MeetsSeq.list_pop_at l its.toArray n i t k w (fitsIndex_both h1 h2) (by rw [List.size_toArray,<- hl]; exact hk) (by rw [<- Array.getElem?_toList]; exact hw) (by rw [List.size_toArray]; omega)) ⟨e,?_⟩
 refine ⟨y,_,I.lset (its':=its.eraseIdx k) hH e ?_ (r.eraseIdx k) ?_,rw',q⟩
 ·show its.toArray.eraseIdxIfInBounds k=(its.eraseIdx k).toArray
  rw [List.eraseIdxIfInBounds_toArray]
 ·have:=zi8 xs k
  omega
end
end L2
namespace Att
open PySem PySem.W PySem.Calls PyProof.Rows
variable {P:Params} {h:Heap}
theorem zgC:∀ (ns:List Int) (vs:List Value),WellAll P h vs (ns.map WData.int)->IntsAre vs ns:=by
 intro ns
 induction ns with
 | nil =>
  intro vs w
  rw [List.map_nil] at w
  cases w
  exact .nil
 | cons n ns ih =>
  intro vs w
  rw [List.map_cons] at w
  cases w with
  | cons a b =>
   cases a
   exact .cons _ _ (ih _ b)
variable {l:OpenLaw} {n:Nat}
theorem znc (hn:l.most=some n) {args:List WData} {vals:List Value}
  (hpre:l.row.toRowW.claim.pre args=true) (hwl:WellAll P h vals args) :
  ∃ a vs ns,vals=[Value.ref a]/\args=[WData.list (ns.map WData.int)]/\h.get? a=some { cls := .type "list", data := .seq vs.toArray }/\IntsAre vs ns/\ns.length<=n:=by
 have hsh:WShape.hasAll [] args [.list .int]=true:=(pre_splitW hpre).1
 have hc:l.pre.holds [] { args:=args }=true:=(pre_splitW hpre).2
 obtain ⟨d,r,rfl,h1,h2⟩:=hasAllW_cons hsh
 obtain rfl:=hasAllW_nil h2
 obtain ⟨xs,rfl,h3⟩:=hasW_list h1
 obtain ⟨ns,rfl⟩:=items_int h3
 have hlen:ns.length<=n:=by
  unfold OpenLaw.pre at hc
  have h4:(WTm.not (.lt (.lit (.int (n:Int))) (.len (.arg 0)))).holds [] { args:=[.list (ns.map .int)] }=true:=by
   have h4:=(holds_andW hc).1
   rw [hn] at h4
   exact h4
  have h5:=condW_of h4 (w_not (w_lt w_lit (w_len_list (w_arg rfl))))
  rw [List.length_map] at h5
  refine Nat.le_of_not_lt fun q=>?_
  have q':(n:Int) < ((ns.length:Nat):Int):=by omega
  first
   | (rw [decide_eq_true q'] at h5; exact absurd h5 (by decide))
   | (simp at h5; omega)
 cases hwl with
 | cons w1 w2 =>
  cases w2
  cases w1 with
  | list ho hall=>exact ⟨_,_,ns,rfl,rfl,ho,zgC ns _ hall,hlen⟩
theorem znB (l:OpenLaw) (args:List WData):l.row.toRowW.claim.post args (.bool true) args=true :=
 postW_of (r:=l.row.toRowW) (X:=(true == true))
  (show WShape.has [] (.bool true) .bool=true by first | rfl | decide | simp [WShape.has,WShape.arms,WShape.armsAll])
  (show (WTm.eq .res (.lit (.bool true))).value [] { args:=args,res:=some (.bool true),after:=args }=some (.bool (true == true)) from w_eq_bool (w_res rfl) w_lit) rfl
theorem attach_call {q:Program} {loose:List Str} {XP:(Str->Option Value)->Heap->Prop} {YP:World->Heap->Prop} {d:DefRec}
  (hn:l.most=some n) (hdf:d.params.defaults=[])
  (call:∀ (w:World) (s₀ s₁ : Shared) (mg mb:Str->Option Value) (fa:Addr) (o:Obj) (pm cd doc:Value) (a:Addr) (vs:List Value) (ns:List Int),
   Ground q loose [] XP w s₀ mg mb s₁.heap->YP w s₁.heap →
   s₁.heap.get? fa=some o->o.data = .func (docDef d.name d.params d.body d.scope pm cd doc)->s₁.heap.CodeRec cd d.name->mg d.name=some (.ref fa) →
   s₁.heap.get? a=some { cls := .type "list", data := .seq vs.toArray }->IntsAre vs ns->ns.length<=n->s₁.gens = #[] →
   codeAny (model l.prog w) callerA (.call (.ref fa) ⟨[.ref a],[]⟩) (fun r s'=>r = .ok (.ret (.bool true))/\OldK s₁.heap s'.heap/\s'.os=s₁.os/\AllBare s'.gens) s₁) :
  WalkO q loose XP YP l.row.toRowW d [] (fun f vs=>PySem.call f vs):=by
 intro w s₀ s₁ mg mb G Y fa o pm cd doc dV kV ho hd hcd hD hmg hg args vals as hpre hlay hrd hwl hlo
 obtain rfl:dV = .none:=Dflts.none hD hdf
 obtain rfl:kV = .none:=Dflts.noKw hD
 obtain ⟨a,vs,ns,rfl,rfl,hobj,hints,hlen⟩:=znc hn hpre hwl
 refine enter_call (codeAny_mono (call w s₀ s₁ mg mb fa o pm cd doc a vs ns G Y ho (fd_plain hd) hcd hmg hobj hints hlen hg) fun r s' hq=>?_)
 obtain ⟨rfl,h2,h3,h4⟩:=hq
 exact ⟨.inl ⟨.bool true,.bool true,[],rfl,fun _=>rfl,.bool true,znB l _,fun _=>⟨List.Pairwise.nil,fun _ hm=>(nomatch hm)⟩⟩,h2,h3,h4⟩
section
variable {prog:Program} {w:World} {A:Around} {E:Value->Shared->Prop} {s:Shared} {K:Frag}
end
end Att
namespace L2
open PySem PySem.Spec PyProof.Rows
theorem ziC:∀ {vs:List Value} {ns:List Int},IntsAre vs ns->Vals (ns.map V.int) vs
 | _,_,.nil => .nil
 | _,_,.cons n t h => .cons ⟨t,rfl⟩ (ziC h)
def Only (H:Hp):Prop:=∀ b,H b=none∨∃ o xs,H b=some (.frz o (.lst xs))
variable {CX:CXT} {x:Str}
theorem zqz {P:Program} {w:World} {K:PySem.W.Frag} {mg mb:Str->Option Value} {k:Nat} {fa a:Addr} {fd:FuncData} {sp:Sp} {s₁ : Shared} {vs:List Value} {ns:List Int}
  (KX:K.In s₁.heap) (hns:s₁.heap.Ns mainGlobals mg) (hb:s₁.heap.Ns builtinsNs mb) (hbb:∀ x:Str,x ≠ "__name__" -> mb x=bootBuiltins x) (hlim:s₁.heap.NoLimit) (hg:s₁.gens = #[])
  (ha:s₁.heap.get? a=some { cls := .type "list", data := .seq vs.toArray }) (hi:IntsAre vs ns) (hl:ns.length<=sizeLine) (hr:Room k callerA)
  (F:∀ base:Heap,K.In base->base.Ns mainGlobals mg->FnOk P w K mg base CX k fa fd [x] sp) (hbind:∀ (s:Shared) (u:Value),BindsTo s fd ⟨[u],[]⟩ [(x,u)])
  (hsp:∀ H:Hp,Only H->SqL K H a (ns.map V.int)->sp [.ref a] H (fun v _=>v = .bl true) fun _ _ _=>False)
  (hCX:∀ H e s',CX [] H s₁ (fun _ _ _=>False) e s'->False) :
  codeAny (model P w) callerA (.call (.ref fa) ⟨[.ref a],[]⟩) (fun r s'=>r = .ok (.ret (.bool true))/\OldK s₁.heap s'.heap/\s'.os=s₁.os/\AllBare s'.gens) s₁ := by
 have rv:=ziC hi
 have lenV:=hi.length
 have core:∀ H:Hp,Only H->SqL K H a (ns.map V.int)->HOk P w H s₁.heap->(∀ b,H b≠none->b=a)->(H a≠none->K.lookup a=none) →
   codeAny (model P w) callerA (.call (.ref fa) ⟨[.ref a],[]⟩) (fun r s'=>r = .ok (.ret (.bool true))/\OldK s₁.heap s'.heap/\s'.os=s₁.os/\AllBare s'.gens) s₁ := by
  intro H hO hS hok hA hK
  have base_of:∀ {b:Addr} {o:Obj},s₁.heap.get? b=some o->H b=none->(zqF s₁.heap H).get? b=some o:=fun e n=>zqE e n
  have noA:∀ {b:Addr} {o:Obj} {es:Array DictEntry} {ep:Nat},s₁.heap.get? b=some o->o.data = .dict es ep->H b=none:=fun {b o es ep} e d=>by
   cases q:H b with
   | none=>rfl
   | some u =>
    have e':b=a:=hA b (by rw [q]; simp)
    subst e'
    rw [ha] at e; cases e
    have d':Data.seq vs.toArray _=Data.dict es ep:=d
    cases d'
  have nsK:∀ {b:Addr} {m:Str->Option Value},s₁.heap.Ns b m->(zqF s₁.heap H).Ns b m:=fun {b m} ⟨o,es,ep,e,d,r⟩=>⟨o,es,ep,base_of e (noA e d),d,r⟩
  have hKb:K.In (zqF s₁.heap H):=fun b o e=>base_of (KX b o e) (by
   cases q:H b with
   | none=>rfl
   | some u =>
    have e':b=a:=hA b (by rw [q]; simp)
    subst e'
    rw [hK (by rw [q]; simp)] at e; cases e)
  have hM:Mod K mg (zqF s₁.heap H):=⟨hKb,nsK hns,⟨mb,nsK hb,hbb⟩,let ⟨mc,h1,h2⟩:=hlim; ⟨mc,nsK h1,h2⟩⟩
  have e0:Env0 P w K mg (zqF s₁.heap H) callerA [] s₁ H:=⟨rfl,hM,fun b o e=>zsE e,Nat.le_of_eq (zoP _ _),trivial,fun b hb=>absurd (show b∈([]:List Addr) from hb) (by simp),hok,.of_eq hg⟩
  refine codeAny_mono ((F _ hKb (nsK hns)).run callerA [] s₁ H ⟨[.ref a],[]⟩ [.ref a] [.ref a] _ _ hr e0 (hbind s₁ (.ref a)) (.cons rfl .nil) (hsp H hO hS)) fun r s' h=>?_
  cases r with
  | error e=>exact (hCX H e s' h).elim
  | ok fl =>
   cases fl with
   | next=>exact False.elim h
   | brk=>exact False.elim h
   | cont=>exact False.elim h
   | ret u =>
    obtain ⟨v,H',os,bare,un,hok',r',q⟩:=h
    have q':v = .bl true:=q
    subst q'
    obtain rfl:u=Value.bool true:=r'
    refine ⟨rfl,OldK.of_keep fun b o e=>?_,os,bare⟩
    cases q:H b with
    | none=>exact un.keep b o e q (by intro z; exact absurd (show b∈([]:List Addr) from z) (by simp)) (by simp)
    | some u =>
     rcases hO b with z | ⟨ob,xs,z⟩
     ·rw [q] at z; cases z
     ·have z2:=un.frzs b ob _ z
      obtain ⟨e1,_⟩:=hok b _ z
      obtain ⟨e2,_⟩:=hok' b _ z2
      rw [e] at e1; cases e1
      exact e2
 cases hk:K.lookup a with
 | some o =>
  have e:=KX a o hk
  rw [ha] at e
  cases e
  refine core (fun _=>none) (fun _ => .inl rfl) (.inr ⟨_,vs.toArray,_,hk,rfl,rfl,rfl,by rw [List.size_toArray,lenV]; exact hl,by simpa using rv⟩) (fun b u z=>by have z':(none:Option HO)=some u:=z; cases z') (fun b z=>absurd rfl z) fun z=>absurd rfl z
 | none =>
  refine core (fun b=>if b=a then some (.frz { cls := .type "list", data := .seq vs.toArray } (.lst (ns.map V.int))) else none) (fun b=>?_) (.inl (.inr ⟨{ cls := .type "list", data := .seq vs.toArray },if_pos rfl⟩)) (fun b u z=>?_) (fun b z=>?_) fun _=>hk
  ·by_cases hb:b=a
   ·exact .inr ⟨_,_,if_pos hb⟩
   ·exact .inl (if_neg hb)
  ·by_cases hb:b=a
   ·have z':=(if_pos hb).symm.trans z
    cases z'
    subst hb
    exact ⟨ha,by rw [List.length_map]; exact hl,vs,_,rv,ha⟩
   ·have z':=(if_neg hb).symm.trans z
    cases z'
  ·by_cases hb:b=a
   ·exact hb
   ·exact absurd (if_neg hb) z
variable {l:PySem.W.OpenLaw} {n:Nat} {q:Program} {loose:List Str} {YP:World->Heap->Prop} {d:DefRec} {K:Params->PySem.W.Frag}
theorem zrs {k:Nat} {XP:(Str->Option Value)->Heap->Prop} {CX:World->CXT} {sp:World->Sp}
  (hn:l.most=some n) (hn2:n<=sizeLine) (hdf:d.params.defaults=[]) (hr:Room k callerA)
  (hY:∀ (w:World) (h:Heap),YP w h->(K w.params).In h)
  (F:∀ (w:World) (mg:Str->Option Value) (fa:Addr) (h:Heap),(K w.params).In h->h.Ns mainGlobals mg->mg d.name=some (.ref fa) →
   ∃ fd:FuncData,(∀ (s:Shared) (u:Value),BindsTo s fd ⟨[u],[]⟩ [(x,u)]) ∧
    ∀ base:Heap,(K w.params).In base->base.Ns mainGlobals mg->FnOk l.prog w (K w.params) mg base (CX w) k fa fd [x] (sp w))
  (hsp:∀ (w:World) (H:Hp) (a:Addr) (ns:List Int),ns.length<=n->Only H->SqL (K w.params) H a (ns.map V.int)->sp w [.ref a] H (fun v _=>v = .bl true) fun _ _ _=>False)
  (hCX:∀ (w:World) (H:Hp) (s:Shared) (e:Value) (s':Shared),CX w [] H s (fun _ _ _=>False) e s'->False) :
  PySem.W.WalkO q loose XP YP l.row.toRowW d [] (fun f vs=>PySem.call f vs):=by
 refine Att.attach_call hn hdf fun w s₀ s₁ mg mb fa o pm cd doc a vs ns G Y ho hd hcd hmg hobj hints hlen hg=>?_
 have KX:=hY w _ Y
 obtain ⟨fd,hb,hF⟩:=F w mg fa _ KX G.T.g hmg
 exact zqz KX G.T.g G.T.b G.T.builtins G.T.nolimit hg hobj hints (Nat.le_trans hlen hn2) hr hF hb (fun H hO hS=>hsp w H a ns hlen hO hS) fun H e s'=>hCX w H s₁ e s'
theorem walk_ofK {k:Nat} {XP:(Str->Option Value)->Heap->Prop} {sp:PySem.W.Frag->Sp}
  (hn:l.most=some n) (hn2:n<=sizeLine) (hdf:d.params.defaults=[]) (hr:Room k callerA)
  (hY:∀ (w:World) (h:Heap),YP w h->(K w.params).In h)
  (F:∀ (w:World) (mg:Str->Option Value) (fa:Addr) (h:Heap),(K w.params).In h->h.Ns mainGlobals mg->mg d.name=some (.ref fa) →
   ∃ fd:FuncData,(∀ (s:Shared) (u:Value),BindsTo s fd ⟨[u],[]⟩ [(x,u)]) ∧
    ∀ base:Heap,(K w.params).In base->base.Ns mainGlobals mg->FnOk l.prog w (K w.params) mg base CX k fa fd [x] (sp (K w.params)))
  (hsp:∀ (K:PySem.W.Frag) (H:Hp) (a:Addr) (ns:List Int),ns.length<=n->Only H->SqL K H a (ns.map V.int)->sp K [.ref a] H (fun v _=>v = .bl true) fun _ _ _=>False)
  (hCX:∀ (H:Hp) (s:Shared) (e:Value) (s':Shared),CX [] H s (fun _ _ _=>False) e s'->False) :
  PySem.W.WalkO q loose XP YP l.row.toRowW d [] (fun f vs=>PySem.call f vs) :=
 zrs (K:=K) (CX:=fun _=>CX) (sp:=fun w=>sp (K w.params)) hn hn2 hdf hr hY F (fun w H a ns h1 h2 h3=>hsp (K w.params) H a ns h1 h2 h3) fun _ H s e s'=>hCX H s e s'
end L2
namespace L2
open PySem PySem.Spec PyProof.Rows
def zbB (s:Stmt) (j:Nat):Stmt:=match s with
 | .ClassDef _ _ _ body _ _ _ _ _ _ _=>body.getD j (.Pass ⟨0,0,0,0⟩)
 | _ => .Pass ⟨0,0,0,0⟩
def zfo (s:Stmt):Arguments:=match s with
 | .FunctionDef _ a _ _ _ _ _ _ _ _=>a
 | _=>{ posonlyargs:=[],args:=[],vararg:=none,kwonlyargs:=[],kw_defaults:=[],kwarg:=none,defaults:=[] }
def zbe (s:Stmt):List Stmt:=match s with
 | .FunctionDef _ _ b _ _ _ _ _ _ _=>b
 | _=>[]
def zah (s:Stmt):Scope:=match s with
 | .FunctionDef _ _ _ _ _ _ sc _ _ _=>sc
 | _=>{ kind := .function,names:=[],isGenerator:=false,isCoroutine:=false }
abbrev CX0:CXT:=fun _ _ _ _ _ _=>False
abbrev E0:XK:=fun _ _ _=>False
theorem zqh {X:Cx}:zgY CX0 X E0:=fun _ _ _ _ _ _ _ h=>h.elim
structure Fun (K:PySem.W.Frag) (x qual:Str) (st:Stmt) (f:Addr) (fd:FuncData):Prop where
 ex:∃ (oc:Value) (od:Option Addr) (kV doc pm:Value) (an:Option Addr) (cdv ct:Value) (osl:Array (Option Value)),
  fd=PySem.W.fnOf x qual (zfo st) (zbe st) (zah st) .none kV doc pm an cdv ct/\K.lookup f=some ⟨oc,od,.func fd,osl⟩/\PySem.W.codeIn K cdv qual=true
 kp:PySem.W.keepIn K (.ref f)=true
variable {x qual:Str} {st:Stmt} {f:Addr} {fd:FuncData} {ps:List Str}
section
variable {P:Program} {w:World} {K:PySem.W.Frag} {mg:Str->Option Value} {base:Heap}
theorem Fun.ok {N:List Str} {k:Nat} {sp:Sp} (F:Fun K x qual st f fd) (S:FnScope N ps (zah st)) (len:∀ vs H Q E,sp vs H Q E->vs.length=ps.length)
  (hbody:∀ (cdv:Value) (A:Around) (outer:List Env) (s:Shared) (H:Hp) (vs:List V) (Q:VK) (E:XK),Room k (A.deeper (envOfC qual (zah st) s.heap.objs.size f cdv))->sp vs H Q E →
   ∃ t,PSs (zkF CX0 P w K mg base N qual (zah st) f cdv A outer s H E).nox (zbe st) t/\t { nx:=fun _ H'=>Q .non H',rt:=Q } (start N vs) H):FnOk P w K mg base CX0 (k+1) f fd ps sp:=by
 obtain ⟨oc,od,kV,doc,pm,an,cdv,ct,osl,rfl,lk,hcd⟩:=F.ex
 refine fn_of lk hcd S len fun A outer s H vs Q E hr hsp=>?_
 obtain ⟨t,h,q⟩:=hbody cdv A outer s H vs Q E hr hsp
 exact ⟨t,h.nox,q⟩
theorem Fun.binds (F:Fun K x qual st f fd)
  (h:∀ (kV doc pm:Value) (an:Option Addr) (cdv ct:Value) (us:List Value),us.length=ps.length->bindArgs (PySem.W.fnOf x qual (zfo st) (zbe st) (zah st) .none kV doc pm an cdv ct) ⟨us,[]⟩=pure (ps.zip us)):Binds K fd ps []:=by
 obtain ⟨oc,od,kV,doc,pm,an,cdv,ct,osl,rfl,lk,hcd⟩:=F.ex
 exact .all (h kV doc pm an cdv ct)
end
theorem zoO {A:Around} {k:Nat} (hr:Room k A):A.units+1 < cLine:=Nat.lt_of_le_of_lt (Nat.add_le_add_left (by decide:1<=64) _) hr.units
def Same (H H':Hp):Prop:=∀ b o,H b=some o->H' b=some o
theorem Same.refl (H:Hp):Same H H:=fun _ _ h=>h
end L2
set_option autoImplicit false
namespace MD
open PySem PySem.Spec PyProof.Rows L2
def Kof (n:Nat) (h:Heap):PySem.W.Frag:=(List.range n).filterMap fun a=>(h.get? a).map fun o=>(a,o)
abbrev FnT:=Option (Str × Str × Arguments × List Stmt × Scope)
def zmU (v:Value):Bool:=match v with
 | .none=>true
 | _=>false
def fnV (K:PySem.W.Frag) (f:Addr):FnT × Bool:=match K.lookup f with
 | some ⟨_,_,.func ⟨x,q,ps,.stmts b,sc,gl,[],dv,_,_,_,_,cd,_,bl⟩,_⟩=>(some (x,q,ps,b,sc),Nat.beq gl mainGlobals && Nat.beq bl builtinsNs && zmU dv && PySem.W.codeIn K cd q)
 | _=>(none,false)
def viewOf (keep:List Nat) (p:Program):Program:={ p with main:={ p.main with body:=keep.filterMap fun i=>p.main.body[i]? } }
def isX (c d:Str):Bool:=c == d || d == "HeadError" || d == "ValueError"
def bmV:List Value:=[.type "ValueError", .type "Exception", .type "BaseException", .type "object"]
def askB (K:PySem.W.Frag) (C:Addr):Bool:=PySem.W.findIn K (.ref C) "__getattribute__" == some (some (.builtin "BaseException.__getattribute__")) && PySem.W.findIn K (.ref C) "__getattr__" == some none && PySem.W.subIn K (.ref C) (.type "BaseException") == some true && PySem.W.mroIn K C (.type "object") == some true && (PySem.W.clsIn K C).isSome && PySem.W.findIn K (.ref C) "__class__" == some (some (.builtin "object.__class__")) && PySem.W.specialIn K (.builtin "object.__class__") "__get__" == some (some (.builtin "getset_descriptor.__get__")) && PySem.W.takesIn K (.builtin "object.__class__") == some true && PySem.W.typeIn K (.ref C) == some (.type "type")
def zre (K:PySem.W.Frag) (es:List Str):Bool:=es.all fun c=>match PySem.W.nsIn K mainGlobals c with
 | some (some (.ref C))=>askB K C && PySem.W.kitOne K (.ref C) (.type "ValueError") == some true && PySem.W.kitOne K (.type "NoneType") (.ref C) == some false && es.all fun d=>match PySem.W.nsIn K mainGlobals d with
  | some (some (.ref D))=>PySem.W.kitOne K (.ref C) (.ref D) == some (isX c d) && PySem.W.subIn K (.ref C) (.ref D) == some (isX c d)
  | _=>false
 | _=>false
def zrf (K:PySem.W.Frag) (rs:List Str):Bool:=rs.all fun c=>match PySem.W.nsIn K mainGlobals c with
 | some (some (.ref C))=>PySem.W.excIn K C bmV "ValueError.__new__"
 | _=>false
end MD
set_option autoImplicit false
namespace K32
open PySem PyProof.Rows L2 MD
def top (i:Nat):Stmt:=PySem.Challenge.pw_shorthead_k32_presser_refuses.main.body.getD i (.Pass ⟨0,0,0,0⟩)
abbrev zh7:Stmt:=top 1
abbrev zeG:Stmt:=top 2
abbrev zdS:Stmt:=top 3
abbrev zeF:Stmt:=top 4
abbrev zf3:Stmt:=top 6
abbrev zdT:Stmt:=top 7
abbrev zf4:Stmt:=top 8
abbrev zk0:Stmt:=top 9
abbrev zeL:Stmt:=top 10
abbrev zhZ:Stmt:=top 12
abbrev zeE:Stmt:=top 13
abbrev zh8:Stmt:=top 14
abbrev zeO:Stmt:=top 16
abbrev zh4:Stmt:=top 17
abbrev zeN:Stmt:=top 18
abbrev zhX:Stmt:=top 19
abbrev zf5:Stmt:=top 20
abbrev zfV:Stmt:=top 22
abbrev zhW:Stmt:=top 23
abbrev zh0:Stmt:=top 24
abbrev zhY:Stmt:=top 25
abbrev zh1:Stmt:=top 26
abbrev zdQ:Stmt:=top 27
abbrev zk1:Stmt:=top 29
abbrev zdl:Stmt:=top 30
abbrev zh5:Stmt:=top 38
abbrev zdR:Stmt:=top 39
abbrev zdm:Stmt:=top 40
abbrev zdg:Stmt:=top 41
abbrev zeH:Stmt:=top 42
abbrev zcK:Stmt:=top 44
abbrev zcH:Stmt:=zbB (top 45) 0
abbrev zcg:Stmt:=zbB (top 45) 1
abbrev zci:Stmt:=zbB (top 45) 2
abbrev zcG:Stmt:=zbB (top 45) 3
abbrev zch:Stmt:=zbB (top 45) 4
abbrev zbJ:Stmt:=zbB (top 45) 5
abbrev zb3:Stmt:=zbB (top 45) 6
abbrev zb4:Stmt:=zbB (top 45) 7
abbrev zbK:Stmt:=zbB (top 45) 8
abbrev zbm:Stmt:=zbB (top 45) 9
abbrev zbI:Stmt:=zbB (top 45) 10
abbrev zbu:Stmt:=zbB (top 45) 11
abbrev zbf:Stmt:=zbB (top 45) 12
abbrev zbv:Stmt:=zbB (top 45) 13
abbrev zbl:Stmt:=zbB (top 45) 14
abbrev zh3:Stmt:=top 47
abbrev zf0:Stmt:=top 48
abbrev zkZ:Stmt:=top 49
abbrev zeI:Stmt:=top 50
abbrev zf1:Stmt:=top 51
abbrev zeJ:Stmt:=top 52
abbrev zh2:Stmt:=top 53
abbrev zf2:Stmt:=top 54
abbrev zfY:Stmt:=top 55
abbrev zfZ:Stmt:=top 56
abbrev zdk:Stmt:=top 57
abbrev zcJ:Stmt:=top 58
abbrev zcI:Stmt:=top 59
abbrev zfW:Stmt:=top 60
abbrev zeK:Stmt:=top 61
abbrev zfX:Stmt:=top 62
abbrev zdj:Stmt:=top 63
abbrev zdi:Stmt:=top 64
abbrev zdh:Stmt:=top 65
abbrev zrM:Stmt:=top 66
def nms:List Str:=(["bits_of", "number_of", "numbers_of", "width_for", "is_whole", "is_between", "is_value", "is_row", "is_worded", "rest_of", "windowed", "around", "breadths", "is_head", "expected", "turned", "check_of", "width_of", "widths", "pieces", "size_of", "opened", "value_told", "doubt", "first_other", "form_at", "sort_width", "check_width", "letter_size", "letter_by"]:List (Str))++(["former_heads", "_law_box", "_law_next", "_law_of", "_law_value", "_law_kind", "_law_shape", "_law_way", "_law_form", "_law_road", "_law_pact", "_law_any_head", "_law_expected", "_law_next_head", "_law_word", "_law_class", "_law_told", "_law_no_heads", "_law_no_words", "_law_refuses", "law", "Presser", "HeadError", "NoHead", "NoLetter", "NoWord", "NoMore", "ValueError", "all", "sum"]:List (Str))++(["enumerate", "len", "tuple", "range", "isinstance", "int", "str", "any", "max", "min", "bool", "zip", "abs", "list", "reversed"]:List (Str))
def nmsE:List (Option (Option Value)):=([some (some (.ref 19)),some (some (.ref 26)),some (some (.ref 33)),some (some (.ref 40)),some (some (.ref 47)),some (some (.ref 54)),some (some (.ref 61)),some (some (.ref 68)),some (some (.ref 75)),some (some (.ref 82)),some (some (.ref 89)),some (some (.ref 96)),some (some (.ref 101)),some (some (.ref 106)),some (some (.ref 113)),some (some (.ref 120)),some (some (.ref 125)),some (some (.ref 132)),some (some (.ref 137)),some (some (.ref 142)),some (some (.ref 149)),some (some (.ref 156)),some (some (.ref 163)),some (some (.ref 170)),some (some (.ref 177)),some (some (.ref 245)),some (some (.ref 252)),some (some (.ref 259)),some (some (.ref 266)),some (some (.ref 273))]:List (Option (Option Value)))++([some (some (.ref 278)),some (some (.ref 400)),some (some (.ref 407)),some (some (.ref 414)),some (some (.ref 421)),some (some (.ref 426)),some (some (.ref 433)),some (some (.ref 440)),some (some (.ref 445)),some (some (.ref 452)),some (some (.ref 457)),some (some (.ref 462)),some (some (.ref 469)),some (some (.ref 476)),some (some (.ref 483)),some (some (.ref 490)),some (some (.ref 497)),some (some (.ref 502)),some (some (.ref 509)),some (some (.ref 514)),some (some (.ref 521)),some (some (.ref 389)),some (some (.ref 187)),some (some (.ref 200)),some (some (.ref 212)),some (some (.ref 224)),some (some (.ref 236)),some none,some none,some none]:List (Option (Option Value)))++([some none,some none,some none,some none,some none,some none,some none,some none,some none,some none,some none,some none,some none,some none,some none]:List (Option (Option Value)))
def fnd:List (Addr × Str):=[(389, "__setattr__"),(389, "base"),(389, "fresh"),(389, "had"),(389, "pact"),(389, "pressed"),(389, "__init__"),(389, "press"),(389, "heard"),(389, "sent"),(389, "known"),(389, "formers"),(389, "why_not"),(389, "usable"),(389, "ask_head"),(389, "hindrance"),(389, "heard_of"),(389, "shortest"),(389, "is_told_anew"),(389, "is_shared"),(389, "is_counted")]
def fndE:List (Option (Option Value)):=[some (some (.builtin "object.__setattr__")),some none,some none,some none,some none,some none,some (some (.ref 292)),some (some (.ref 299)),some (some (.ref 306)),some (some (.ref 313)),some (some (.ref 320)),some (some (.ref 327)),some (some (.ref 334)),some (some (.ref 339)),some (some (.ref 346)),some (some (.ref 353)),some (some (.ref 360)),some (some (.ref 367)),some (some (.ref 374)),some (some (.ref 379)),some (some (.ref 386))]
def fnsa:List Addr:=[19,26,33,40,47,54,61,68,75,82,89]
def fnsb:List Addr:=[96,101,106,113,120,125,132,137,142,149,156]
def fnsc:List Addr:=[163,170,177,245,252,259,266,273,278,292,299]
def fnsd:List Addr:=[306,313,320,327,334,339,346,353,360,367,374]
def fnse:List Addr:=[379,386,400,407,414,421,426,433,440,445,452]
def fnsf:List Addr:=[457,462,469,476,483,490,497,502,509,514,521]
def fns:List Addr:=fnsa++fnsb++fnsc++fnsd++fnse++fnsf
def fnE (x q:Str) (st:Stmt):FnT × Bool:=(some (x,q,zfo st,zbe st,zah st),true)
def fnsaE:List (FnT × Bool):=[fnE "bits_of" "bits_of" zh7,fnE "number_of" "number_of" zeG,fnE "numbers_of" "numbers_of" zdS,fnE "width_for" "width_for" zeF,fnE "is_whole" "is_whole" zf3,fnE "is_between" "is_between" zdT,fnE "is_value" "is_value" zf4,fnE "is_row" "is_row" zk0,fnE "is_worded" "is_worded" zeL,fnE "rest_of" "rest_of" zhZ,fnE "windowed" "windowed" zeE]
def fnsbE:List (FnT × Bool):=[fnE "around" "around" zh8,fnE "breadths" "breadths" zeO,fnE "is_head" "is_head" zh4,fnE "expected" "expected" zeN,fnE "turned" "turned" zhX,fnE "check_of" "check_of" zf5,fnE "width_of" "width_of" zfV,fnE "widths" "widths" zhW,fnE "pieces" "pieces" zh0,fnE "size_of" "size_of" zhY,fnE "opened" "opened" zh1]
def fnscE:List (FnT × Bool):=[fnE "value_told" "value_told" zdQ,fnE "doubt" "doubt" zk1,fnE "first_other" "first_other" zdl,fnE "form_at" "form_at" zh5,fnE "sort_width" "sort_width" zdR,fnE "check_width" "check_width" zdm,fnE "letter_size" "letter_size" zdg,fnE "letter_by" "letter_by" zeH,fnE "former_heads" "former_heads" zcK,fnE "__init__" "Presser.__init__" zcH,fnE "press" "Presser.press" zcg]
def fnsdE:List (FnT × Bool):=[fnE "heard" "Presser.heard" zci,fnE "sent" "Presser.sent" zcG,fnE "known" "Presser.known" zch,fnE "formers" "Presser.formers" zbJ,fnE "why_not" "Presser.why_not" zb3,fnE "usable" "Presser.usable" zb4,fnE "ask_head" "Presser.ask_head" zbK,fnE "hindrance" "Presser.hindrance" zbm,fnE "heard_of" "Presser.heard_of" zbI,fnE "shortest" "Presser.shortest" zbu,fnE "is_told_anew" "Presser.is_told_anew" zbf]
def fnseE:List (FnT × Bool):=[fnE "is_shared" "Presser.is_shared" zbv,fnE "is_counted" "Presser.is_counted" zbl,fnE "_law_box" "_law_box" zh3,fnE "_law_next" "_law_next" zf0,fnE "_law_of" "_law_of" zkZ,fnE "_law_value" "_law_value" zeI,fnE "_law_kind" "_law_kind" zf1,fnE "_law_shape" "_law_shape" zeJ,fnE "_law_way" "_law_way" zh2,fnE "_law_form" "_law_form" zf2,fnE "_law_road" "_law_road" zfY]
def fnsfE:List (FnT × Bool):=[fnE "_law_pact" "_law_pact" zfZ,fnE "_law_any_head" "_law_any_head" zdk,fnE "_law_expected" "_law_expected" zcJ,fnE "_law_next_head" "_law_next_head" zcI,fnE "_law_word" "_law_word" zfW,fnE "_law_class" "_law_class" zeK,fnE "_law_told" "_law_told" zfX,fnE "_law_no_heads" "_law_no_heads" zdj,fnE "_law_no_words" "_law_no_words" zdi,fnE "_law_refuses" "_law_refuses" zdh,fnE "law" "law" zrM]
def fnsE:List (FnT × Bool):=fnsaE++fnsbE++fnscE++fnsdE++fnseE++fnsfE
def bls (K:PySem.W.Frag):List Bool:=[PySem.W.plainGet K 389 Str.empty && PySem.W.hasDictIn K 389 && PySem.W.plainOver K 389 && PySem.W.makesIn K 389 && PySem.W.keepIn K (.ref 389),PySem.W.isFn K (.ref 292),PySem.W.isFn K (.ref 299),PySem.W.isFn K (.ref 306),PySem.W.isFn K (.ref 313),PySem.W.isFn K (.ref 320),PySem.W.isFn K (.ref 327),PySem.W.isFn K (.ref 334),PySem.W.isFn K (.ref 339),PySem.W.isFn K (.ref 346),PySem.W.isFn K (.ref 353),PySem.W.isFn K (.ref 360),PySem.W.isFn K (.ref 367),PySem.W.isFn K (.ref 374),PySem.W.isFn K (.ref 379),PySem.W.isFn K (.ref 386),zre K ["HeadError", "NoHead", "NoLetter", "NoWord", "NoMore"],zrf K ["NoMore", "NoWord", "NoHead"]]
def blsE:List Bool:=List.replicate 18 true
def obs (K:PySem.W.Frag):List (Option (Option Value)) × List (Option (Option Value)) × List (FnT × Bool) × List Bool:=(nms.map (PySem.W.nsIn K mainGlobals),fnd.map (fun p=>PySem.W.findIn K (.ref p.1) p.2),fns.map (fnV K),bls K)
def expd:List (Option (Option Value)) × List (Option (Option Value)) × List (FnT × Bool) × List Bool:=(nmsE,fndE,fnsE,blsE)
abbrev pw:Program:=PySem.Challenge.pw_shorthead_k32_presser_refuses
def vw:Program:=viewOf (([1,2,3,4,6,7,8,9,10,12,13,14,16,17,18,19,20,22,23,24,25,26,27,29,30,32,33,34,35,36]:List (Nat))++([38,39,40,41,42,44,45,47,48,49,50,51,52,53,54,55,56,57,58,59,60,61,62,63,64,65,66]:List (Nat))) pw
def xt (s:Shared):Bool:=PySem.W.xlAt vw [] s && PySem.W.recOk (PySem.W.RowW.records PySem.Challenge.rw_shorthead_k32_presser_refuses.row.toRowW) s
def zO (s:Shared):=PySem.W.openSeen vw [] (importedModules pw.main.body) xt true s
def zG:=PySem.W.openGood vw []
def zE (w:World):=PySem.W.openEnds treeTable pw w 6854
def hl0 (w:World):=(zE w).map fun s=>(zO s).1.defs.take 28
def hr0 (_:World):=some (zG.1.defs.take 28)
def hl1 (w:World):=(zE w).map fun s=>(zO s).1.defs.drop 28
def hr1 (_:World):=some (zG.1.defs.drop 28)
def hl2 (w:World):=(zE w).map fun s=>(zO s).1.ownsOk
def hr2 (_:World):=some (zG.1.ownsOk)
def hl3 (w:World):=(zE w).map fun s=>(zO s).1.names
def hr3 (_:World):=some (zG.1.names)
def hl4 (w:World):=(zE w).map fun s=>((zO s).1.globalsOk,(zO s).1.builtinsOk,(zO s).1.noLimit,(zO s).1.gens)
def hr4 (_:World):=some ((zG.1.globalsOk,zG.1.builtinsOk,zG.1.noLimit,zG.1.gens))
def hl5 (w:World):=(zE w).map fun s=>(zO s).2.1
def hr5 (_:World):=some (zG.2.1)
def hl6 (w:World):=(zE w).map fun s=>(zO s).2.2.1
def hr6 (_:World):=some (zG.2.2.1)
def hl7 (w:World):=(zE w).map fun s=>(zO s).2.2.2
def hr7 (_:World):=some (zG.2.2.2)
def hl8 (w:World):=(zE w).map fun s=>nms.map (PySem.W.nsIn (Kof 522 s.heap) mainGlobals)
def hr8 (_:World):=some (nmsE)
def hl9 (w:World):=(zE w).map fun s=>(fnd.map (fun p=>PySem.W.findIn (Kof 522 s.heap) (.ref p.1) p.2),bls (Kof 522 s.heap))
def hr9 (_:World):=some ((fndE,blsE))
def hl10 (w:World):=(zE w).map fun s=>fnsa.map (fnV (Kof 522 s.heap))
def hr10 (_:World):=some (fnsaE)
def hl11 (w:World):=(zE w).map fun s=>fnsb.map (fnV (Kof 522 s.heap))
def hr11 (_:World):=some (fnsbE)
def hl12 (w:World):=(zE w).map fun s=>fnsc.map (fnV (Kof 522 s.heap))
def hr12 (_:World):=some (fnscE)
def hl13 (w:World):=(zE w).map fun s=>fnsd.map (fnV (Kof 522 s.heap))
def hr13 (_:World):=some (fnsdE)
def hl14 (w:World):=(zE w).map fun s=>fnse.map (fnV (Kof 522 s.heap))
def hr14 (_:World):=some (fnseE)
def hl15 (w:World):=(zE w).map fun s=>fnsf.map (fnV (Kof 522 s.heap))
def hr15 (_:World):=some (fnsfE)
end K32
namespace PySem.W.Fast
lay_quick K32.hl0 K32.hr0 K32.hl1 K32.hr1 K32.hl2 K32.hr2 K32.hl3 K32.hr3 K32.hl4 K32.hr4 K32.hl5 K32.hr5 K32.hl6 K32.hr6 K32.hl7 K32.hr7 K32.hl8 K32.hr8 K32.hl9 K32.hr9 K32.hl10 K32.hr10 K32.hl11 K32.hr11 K32.hl12 K32.hr12 K32.hl13 K32.hr13 K32.hl14 K32.hr14 K32.hl15 K32.hr15
end PySem.W.Fast
namespace K32
open PySem PyProof.Rows L2 MD PySem.W.Fast
theorem hlq0 (w:World):tw2916058956384126488 w=tw8935751155077465353 w:=by kernel_rfl
theorem hlq1 (w:World):tw13293578238121853583 w=tw4092068473493155197 w:=by kernel_rfl
theorem hlq2 (w:World):tw13543277640608126934 w=tw9418948921425222006 w:=by kernel_rfl
theorem hlq3 (w:World):tw3730828361874132174 w=tw5800169777040010153 w:=by kernel_rfl
theorem hlq4 (w:World):tw3609824809281727487 w=tw5841948487523204694 w:=by kernel_rfl
theorem hlq5 (w:World):tw11698274745301945438 w=tw18051543681272687921 w:=by kernel_rfl
theorem hlq6 (w:World):tw14421847893661057624 w=tw388570958457981350 w:=by kernel_rfl
theorem hlq7 (w:World):tw11724073461099219596 w=tw398805342082034519 w:=by kernel_rfl
theorem hlq8 (w:World):tw13022713888700867887 w=tw14168142940459610883 w:=by kernel_rfl
theorem hlq9 (w:World):tw11374617961389263495 w=tw14133449222158344553 w:=by kernel_rfl
theorem hlq10 (w:World):tw2596401004361816664 w=tw6265491525912295500 w:=by kernel_rfl
theorem hlq11 (w:World):tw7570604236984839326 w=tw13039980742828151129 w:=by kernel_rfl
theorem hlq12 (w:World):tw3115183278988636231 w=tw4574670625145889507 w:=by kernel_rfl
theorem hlq13 (w:World):tw14309729744875567456 w=tw1590481275943596901 w:=by kernel_rfl
theorem hlq14 (w:World):tw10098101829970142671 w=tw15674802851634364906 w:=by kernel_rfl
theorem hlq15 (w:World):tw9796059151318944109 w=tw7438603294791673241 w:=by kernel_rfl
end K32
namespace L2
open PySem PySem.Spec PyProof.Rows
variable {X:Cx}
section
theorem zl6:OpR X (binaryOp .Mult) (fun x y H Q=>∃ z n,x = .str z/\y = .int n/\MulOk z n/\Q (.str (Txt.mul z n)) H):=by
 intro pins s σ H x y v u Q I rx ry h
 obtain ⟨z,n,rfl,rfl,hz,q⟩:=h
 obtain ⟨t,rfl⟩:=rx
 obtain ⟨t',rfl⟩:=ry
 exact SB.mul hz fun t' tk=>⟨.str _,H,I.tok _,⟨_,rfl⟩,q⟩
theorem zjL:CallR X (.type "int") (fun xs H Q=>∃ z n,xs=[.str z]/\PySem.intText? z=some n/\z.length<=640/\Q (.int n) H):=by
 intro pins s σ H xs us Q I r h
 obtain ⟨z,n,rfl,hn,hl,q⟩:=h
 obtain ⟨u,rfl,t,rfl⟩:=zcn r
 exact PySem.W.KIN.call_text hn hl ⟨.int n,H,I.tok _,⟨_,rfl⟩,q⟩
theorem zle:OpR X (binaryOp .FloorDiv) (rI (fun _ j=>0 < j/\j < 2 ^ 64) fun i j => .int (i / j)):=opI fun i j _ _ _ _ _ hc q=>by
 have h1:(0:Int) < j:=hc.1
 have h2:j < 2 ^ 64:=hc.2
 refine floordiv_int (by omega) (by rw [Int.fdiv_eq_ediv_of_nonneg i (by omega)]; exact q) (.inl (PyProof.noPylong_of_log2 ?_))
 have h3:j.natAbs < 2 ^ 64:=by omega
 have h4:j.natAbs.log2 < 64:=(Nat.log2_lt (by omega)).mpr h3
 omega
end
def clSub:List (Str × Addr)->List (Str × Addr)->Prop
 | [],_=>True
 | (n,a)::r,cells=>cells.lookup n=some a/\clSub r cells
theorem clSub.at:∀ {cl cells:List (Str × Addr)} {x:Str} {c:Addr},clSub cl cells->cl.lookup x=some c->cells.lookup x=some c
 | [],_,_,_,_,e=>by simp at e
 | (n,a)::r,cells,x,c,h,e=>by
  rw [List.lookup_cons] at e
  cases hx:x == n with
  | true =>
   rw [hx] at e
   cases e
   have q:x=n:=by simpa using hx
   rw [q]
   exact h.1
  | false =>
   rw [hx] at e
   exact clSub.at h.2 e
structure CompOk (X:Cx) (N0:List Str) (scope:Scope) (xs:List Str) (cl:List (Str × Addr)):Prop where
 clos:closureFor scope X.env=pure cl
 kind:scope.kind = .function
 nocell:(scope.names.all fun y=>decide (y.2 ≠ .cell))=true
 locs:(scope.names.all fun y=>decide (y.2 ≠ .local) || (decide (scope.names.lookup y.1=some .local) && decide (y.1 ∉ N0)))=true
 sub:clSub cl X.env.cells
 has:(scope.names.all fun y=>decide (y.2 ≠ .free) || ((cl.lookup y.1).isSome && (decide (X.env.kindOf y.1=some .cell) || decide (X.env.kindOf y.1=some .free))))=true
 hid:N0=X.N∨(N0.length=X.N.length/\((N0.zip X.N).all fun p=>decide (p.1=p.2) || (scope.names.lookup p.1).isNone)=true)
def Cx.comp (X:Cx) (N0:List Str) (scope:Scope) (xs:List Str) (cl:List (Str × Addr)) (C:Addr) (s:Shared) (H:Hp) (fp:List Addr):Cx :=
 { X with N:=N0++xs,s₀ := s,H₀ := H,env:=compEnvC scope cl C X.env,outer:=X.stack,stack:=X.stack,ex:=fp,fn:=fun _=>false,pn:=[] }
theorem zc1 {env:Env}:∀ {names:List (Str × NameKind)} {x:Str} {k:NameKind},
  (names.map fun (n,k)=>if (k == NameKind.free && env.scope.kind == .function && env.kindOf n == some .cell) then (n,NameKind.cell) else (n,k)).lookup x=some k →
  ∃ k',names.lookup x=some k'/\(x,k')∈names/\(k'=k∨(k' = .free/\k = .cell))
 | [],_,_,h=>by simp at h
 | (n,q)::r,x,k,h=>by
  rw [List.map_cons] at h
  cases hx:x == n with
  | true =>
   have e:x=n:=by simpa using hx
   subst e
   refine ⟨q,by simp [List.lookup_cons],List.mem_cons_self,?_⟩
   dsimp only at h
   split at h
   ·rename_i hc
    simp [List.lookup_cons] at h
    have:q = .free:=by
     simp at hc
     exact hc.1.1
    exact .inr ⟨this,h.symm⟩
   ·simp [List.lookup_cons] at h
    exact .inl h
  | false =>
   have h':(r.map fun (n,k)=>if (k == NameKind.free && env.scope.kind == .function && env.kindOf n == some .cell) then (n,NameKind.cell) else (n,k)).lookup x=some k:=by
    dsimp only at h
    split at h <;> (simp only [List.lookup_cons,hx] at h; exact h)
   obtain ⟨k',e1,e2,e3⟩:=zc1 h'
   exact ⟨k',by simp only [List.lookup_cons,hx]; exact e1,List.mem_cons_of_mem _ e2,e3⟩
variable {N0:List Str} {scope:Scope} {xs:List Str} {cl:List (Str × Addr)} {y:Str × NameKind} {x:Str} {i:Nat}
section
theorem CompOk.nc (S:CompOk X N0 scope xs cl):∀ y∈scope.names,y.2 ≠ .cell:=fun y hy=>of_decide_eq_true (List.all_eq_true.mp S.nocell y hy)
theorem CompOk.lo (S:CompOk X N0 scope xs cl) (hy:y∈scope.names) (h:y.2 = .local):scope.names.lookup y.1=some .local/\y.1 ∉ N0:=by
 have q:=List.all_eq_true.mp S.locs y hy
 rw [Bool.or_eq_true,Bool.and_eq_true,decide_eq_true_eq,decide_eq_true_eq,decide_eq_true_eq] at q
 rcases q with q | q
 ·exact absurd h q
 ·exact q
theorem CompOk.fr (S:CompOk X N0 scope xs cl) (hy:y∈scope.names) (h:y.2 = .free):(∃ c,cl.lookup y.1=some c)/\(X.env.kindOf y.1=some .cell∨X.env.kindOf y.1=some .free):=by
 have q:=List.all_eq_true.mp S.has y hy
 rw [Bool.or_eq_true,Bool.and_eq_true,Bool.or_eq_true,decide_eq_true_eq,decide_eq_true_eq,decide_eq_true_eq] at q
 rcases q with q | q
 ·exact absurd h q
 ·exact ⟨Option.isSome_iff_exists.mp q.1,q.2⟩
theorem CompOk.vis (S:CompOk X N0 scope xs cl) (h:Vis (relabel scope X.env) x) (hx:x∈N0):∃ c,cl.lookup x=some c/\(X.env.kindOf x=some .cell∨X.env.kindOf x=some .free):=by
 have go:∀ k,(relabel scope X.env).names.lookup x=some k->(k = .local∨k = .cell∨k = .free)->∃ c,cl.lookup x=some c/\(X.env.kindOf x=some .cell∨X.env.kindOf x=some .free):=fun k e hk=>by
  obtain ⟨k',_,e2,e3⟩:=zc1 e
  have hf:k' = .free:=by
   rcases e3 with e3 | e3
   ·subst e3
    rcases hk with rfl | rfl | rfl
    ·exact absurd hx (S.lo e2 rfl).2
    ·exact absurd rfl (S.nc _ e2)
    ·rfl
   ·exact e3.1
  obtain ⟨⟨c,q⟩,r⟩:=S.fr e2 hf
  exact ⟨c,q,r⟩
 rcases h with h | h | h
 ·exact go _ h (.inl rfl)
 ·exact go _ h (.inr (.inl rfl))
 ·exact go _ h (.inr (.inr rfl))
theorem CompOk.len (S:CompOk X N0 scope xs cl):N0.length=X.N.length:=S.hid.elim (fun h=>by rw [h]) fun h=>h.1
theorem CompOk.same (S:CompOk X N0 scope xs cl) (e:N0[i]?=some x) (h:Vis (relabel scope X.env) x):X.N[i]?=some x:=by
 rcases S.hid with q | ⟨q1,q2⟩
 ·rw [<- q]; exact e
 ·have hi:i < N0.length:=(List.getElem?_eq_some_iff.mp e).1
  have hx:∃ k',scope.names.lookup x=some k':=by
   rcases h with h | h | h <;> (obtain ⟨k',z,_⟩:=zc1 h; exact ⟨k',z⟩)
  obtain ⟨k',hk⟩:=hx
  have ey:=List.getElem?_eq_getElem (show i < X.N.length by omega)
  have hm:(x,X.N[i]'(by omega))∈N0.zip X.N:=List.mem_of_getElem? (i:=i) (by rw [List.getElem?_zip_eq_some]; exact ⟨e,ey⟩)
  have:=List.all_eq_true.mp q2 _ hm
  rw [hk] at this
  simp at this
  rw [ey,<- this]
theorem CompOk.hasC (S:CompOk X N0 scope xs cl) (h:(relabel scope X.env).names.lookup x=some .cell∨(relabel scope X.env).names.lookup x=some .free):∃ c,cl.lookup x=some c:=by
 have go:∀ k,(relabel scope X.env).names.lookup x=some k->(k = .cell∨k = .free)->∃ c,cl.lookup x=some c:=fun k e hk=>by
  obtain ⟨k',_,e2,e3⟩:=zc1 e
  have hf:k' = .free:=by
   rcases e3 with e3 | e3
   ·subst e3
    rcases hk with rfl | rfl
    ·exact absurd rfl (S.nc _ e2)
    ·rfl
   ·exact e3.1
  exact (S.fr e2 hf).1
 rcases h with h | h
 ·exact go _ h (.inl rfl)
 ·exact go _ h (.inr rfl)
end
variable {pins:List (Addr × Obj)} {σ : St} {H2:Hp} {s2:Shared} {fp:List Addr} {C:Addr} {H':Hp} {h':Heap} {m':Str->Option Value} {pins':List (Addr × Obj)} {σ':St} {s':Shared} {P:Program} {H:Hp} {h:Heap} {its:List Value} {n:Nat}
section
theorem ztb (I2:Inv X pins σ H2 s2) (S:CompOk X N0 scope xs cl) (f2:∀ b∈fp,zfR X pins H2 b) (hfp:∀ b∈fp,b < s2.heap.objs.size) (hC:s2.heap.objs.size<=C):(X.comp N0 scope xs cl C s2 H2 fp).Ok where
 mod:=I2.ok.mod
 kind:=S.kind
 glob:=I2.ok.glob
 blt:=I2.ok.blt
 above:=hC
 inj:=fun x y c h1 h2=>I2.ok.inj x y c (S.sub.at h1) (S.sub.at h2)
 has:=fun x h=>S.hasC h
 cab:=fun _ _ h=>nomatch h
 hd:=I2.ok.hd
 frames:=I2.ok.frames
 stk := .inl rfl
 exf:=fun b hb=>⟨Nat.ne_of_lt (Nat.lt_of_lt_of_le (hfp b hb) hC),fun x c e=>(f2 b hb).2.2.2.2.1 x c (S.sub.at e)⟩
 bs:=I2.bs
 bsz:=Nat.le_trans I2.ok.bsz I2.sz
 noex:=fun b o e hb=>by
  rcases (f2 b hb).2.2.2.1 with z | z
  ·exact I2.ok.noex b o e z
  ·exact absurd (Nat.lt_of_lt_of_le (Heap.lt_size e) (Nat.le_trans I2.ok.bsz z)) (Nat.lt_irrefl _)
 exfs:=fun b hb z=>by
  rcases List.mem_cons.mp (I2.stkSub b z) with q | q
  ·exact (f2 b hb).2.1 q
  ·exact (f2 b hb).2.2.1 q
 funs:=I2.stack
 frf:=I2.stkFree
theorem zjD (I2:Inv X pins σ H2 s2) (f2:∀ b∈fp,zfR X pins H2 b) (u:Un (frs X.stack) fp H2 H' s2.heap h') {c:Addr} {v:Option Value} (e:X.env.cells.lookup x=some c) (z:s2.heap.IsCell c v):h'.IsCell c v:=by
 obtain ⟨o,ho,hd⟩:=z
 obtain ⟨sl,q⟩:=u.any ho (I2.freeC x c e) fun hb=>(f2 c hb).2.2.2.2.1 x c e rfl
 exact ⟨_,q,hd⟩
theorem zlH (I2:Inv X pins σ H2 s2) (S:CompOk X N0 scope xs cl) (f2:∀ b∈fp,zfR X pins H2 b) (u:Un (frs X.stack) fp H2 H' s2.heap h')
  (i:Nat) (x:Str) (v:V) (e1:(N0++xs)[i]?=some x) (e2:(σ ++ List.replicate xs.length none)[i]?=some (some v)) (e3:Vis (relabel scope X.env) x) :
  ∃ w,RelV v w/\Look (compEnvC scope cl C X.env) h' m' x w:=by
 have hl:=I2.len
 have hl0:=S.len
 by_cases hi:i < σ.length
 ·rw [List.getElem?_append_left (by omega)] at e1
  rw [List.getElem?_append_left hi] at e2
  obtain ⟨c,hc,hk⟩:=S.vis e3 (List.mem_of_getElem? e1)
  obtain ⟨m,_,hloc⟩:=I2.loc
  have hv:Vis X.env.scope x := .inr hk
  obtain ⟨w,r,l⟩:=hloc i x v (S.same e1 e3) e2 hv
  have hcx:=S.sub.at hc
  refine ⟨w,r,.inr ⟨?_,c,hc,?_⟩⟩
  ·rcases e3 with e3 | e3 | e3
   ·obtain ⟨k',_,m2,m3⟩:=zc1 e3
    rcases m3 with m3 | m3
    ·exact absurd (List.mem_of_getElem? e1) (S.lo m2 m3).2
    ·exact nomatch m3.2
   ·exact .inl e3
   ·exact .inr e3
  ·rcases l with ⟨q,_⟩ | ⟨_,c',q,z⟩
   ·rcases hk with hk | hk
    ·rw [q] at hk; cases hk
    ·rw [q] at hk; cases hk
   ·rw [hcx] at q
    cases q
    exact zjD I2 f2 u hcx z
 ·rw [List.getElem?_append_right (by omega),List.getElem?_replicate] at e2
  split at e2 <;> cases e2
theorem zhD (I2:Inv X pins σ H2 s2) (S:CompOk X N0 scope xs cl) (f2:∀ b∈fp,zfR X pins H2 b) (J:Inv (X.comp N0 scope xs cl C s2 H2 fp) pins' σ' H' s') :
  Inv (X.comp N0 scope xs cl C s2 H2 fp) pins' (σ ++ List.replicate xs.length none) H' s' :=
 ⟨J.ok,J.os,J.bare,J.base,let ⟨m,hn,_⟩:=J.loc; ⟨m,hn,fun i x v e1 e2 e3=>zlH I2 S f2 J.base i x v e1 e2 e3⟩,J.cell,J.free,J.freeC,J.pin,J.hok,by
  rw [List.length_append,List.length_replicate]
  show σ.length+xs.length=(N0++xs).length
  rw [List.length_append,I2.len,S.len]⟩
theorem zmG {D:Addr} {oD:Obj} {s3:Shared} (I2:Inv X pins σ H2 s2) (S:CompOk X N0 scope xs cl) (f2:∀ b∈fp,zfR X pins H2 b) (hfp:∀ b∈fp,b < s2.heap.objs.size) (hC:s2.heap.objs.size<=C) (hD:s2.heap.objs.size<=D) (hDC:D≠C)
  (k:∀ b o,s2.heap.get? b=some o->s3.heap.get? b=some o) (ho:s3.os=s2.os) (hb:AllBare s3.gens) (hn:s3.heap.Ns C m') (hd:s3.heap.get? D=some oD) (hcell:∀ v,oD.data ≠ .cell v) :
  Inv (X.comp N0 scope xs cl C s2 H2 fp) [(D,oD)] (σ ++ List.replicate xs.length none) H2 s3 :=
 have u:Un (frs X.stack) fp H2 H2 s2.heap s3.heap:=Un.kept k
 ⟨ztb I2 S f2 hfp hC,ho,hb,u,⟨m',hn,fun i x v e1 e2 e3=>zlH I2 S f2 u i x v e1 e2 e3⟩,
  fun x c e=>by
   obtain ⟨v,z⟩:=I2.cell x c (S.sub.at e)
   exact ⟨v,zjD I2 f2 u (S.sub.at e) z⟩,
  I2.hok.fresh hC,fun x c e=>I2.freeC x c (S.sub.at e),
  fun p hp=>by
   have e:p=(D,oD):=List.mem_singleton.mp (show p∈[(D,oD)] from hp)
   subst e
   refine ⟨hd,I2.hok.fresh hD,hDC,fun z=>?_,hcell⟩
   obtain ⟨_,o,q,_⟩:=I2.stack.mem z
   exact absurd (Nat.lt_of_lt_of_le (Heap.lt_size q) hD) (Nat.lt_irrefl _),
  I2.hok.kept k,by
   rw [List.length_append,List.length_replicate]
   show σ.length+xs.length=(N0++xs).length
   rw [List.length_append,I2.len,S.len]⟩
theorem zgE {w:World} {a:Addr} {o:HO} (x:HOk P w H h) (hn:H a=none) (new:ObjOk P w (upd H a o) h a o):HOk P w (upd H a o) h:=fun b u e=>by
 by_cases hb:b=a
 ·subst hb
  rw [zaI] at e
  cases e
  exact new
 ·rw [zav hb] at e
  exact (x b u e).stay (fun _ _ _ q=>q) (fun c q=>by rw [zav (zaq q hn)]; exact q) fun c ys q=>by rw [zav (zaq q hn)]; exact q
theorem zqN {D:Addr} {ys:List V} (I2:Inv X pins σ H2 s2) (f2:∀ b∈fp,zfR X pins H2 b) (hD:s2.heap.objs.size<=D)
  (J:Inv (X.comp N0 scope xs cl C s2 H2 fp) pins' σ' H' s') (hn:H' D=none) (e:s'.heap.get? D=some { cls := .type "list", data := .seq its.toArray n }) (r:Vals ys its) (hz:ys.length<=sizeLine) :
  Inv X pins σ (upd H' D (.lst ys)) s':=by
 have u:Un (frs X.stack) fp H2 H' s2.heap s'.heap:=J.base
 have neD:∀ b o,s2.heap.get? b=some o->b≠D:=fun b o q=>Nat.ne_of_lt (Nat.lt_of_lt_of_le (Heap.lt_size q) hD)
 have neT:∀ b o,H2 b=some o->b≠D:=fun b o q=>Nat.ne_of_lt (Nat.lt_of_lt_of_le (I2.hok.lt q) hD)
 refine I2.call' (ch:=fp) J.os ⟨u.keep,u.slot,fun b o q m hx=>?_,u.there,fun b zs q=>?_,fun b o zs q=>?_,fun b ps q=>?_⟩ (zgE J.hok hn ⟨hz,its,n,r,e⟩) J.bare fun b hb=>?_
 ·rw [zav (neD b o q)]
  exact u.free b o q m hx
 ·rw [zav (neT b _ q)]
  exact u.tups b zs q
 ·rw [zav (neT b _ q)]
  exact u.frzs b o zs q
 ·rw [zav (neT b _ q)]
  exact u.tbls b ps q
 ·obtain ⟨_,z1,_,z2,z3,z4⟩:=f2 b hb
  exact ⟨z2,z1,z3,z4⟩
end
def PIf (X:Cx) (ifs:List Expr) (t:TT):Prop :=
 ∀ (pins:List (Addr × Obj)) (s:Shared) (σ : St) (H:Hp) (Q:Bool->Hp->Prop),Inv X pins σ H s->t σ H Q →
  wpAny (model X.prog X.w) X.A (forIn ifs true fun c r=>if r=true then do let ok <- isTrue c X.env (eval c X.env); pure (ForInStep.yield ok) else pure (ForInStep.yield r)) (TP X pins σ Q) X.xe s
def tYes:TT:=fun _ H Q=>Q true H
theorem zsn:PIf X [] tYes:=fun _ _ _ H _ I h=>wpAny_tests_nil ⟨H,I,h⟩
theorem zsm {c:Expr} {t:TT} (h:PT X c t):PIf X [c] t:=fun pins s σ H Q I hq=>wpAny_tests_one (h pins s σ H Q I hq)
def zpJ (n:Nat) (wi:TI) (g:TG) (tf:TT) (te:TE) (fin:List V->Hp->Prop):St->Hp->Prop:=fun σ H=>wi σ H fun J H1=>∃ W:Nat->Nat->List V->Hp->Prop,(∃ m,W 0 m [] H1)/\∀ i m ys H,W i m ys H →
 ys.length<=sizeLine/\((J.stop i H/\fin ys H)∨(J.go i H/\∃ (Y:V->Hp->Prop) (Z:Hp->Prop),(∀ y H4,Y y H4->ys.length < sizeLine/\∃ m',m' < m/\W (i+1) m' (ys++[y]) H4)/\(∀ H3,Z H3->∃ m',m' < m/\W (i+1) m' ys H3) ∧
  ∀ x H',J.yld i H x H'->g x (σ ++ List.replicate n none) H' fun σ2 H2=>tf σ2 H2 fun b H3=>if b=true then te σ2 H3 Y else Z H3))
variable {s:Shared} {elt iter:Expr} {ifs:List Expr} {pos:Pos}
theorem zmF {prog:Program} {w:World} {A:Around} {R:Result->Shared->Prop} {target:Expr} {it acc:Value} {env:Env} (I:Nat->Shared->Prop)
  (turn:∀ n s,I n s->wpAny (model prog w) A (pyNext it) (fun r s₁ => match r with
   | none=>R (.ok .next) s₁
   | some v=>wpAny (model prog w) A (letOwnedTupleGo target it v) (fun _ t₁ => wpAny (model prog w) A (assign target env v) (fun _ s₂ =>
     wpAny (model prog w) A (forIn ifs true fun c r=>if r=true then do let ok <- isTrue c env (eval c env); pure (ForInStep.yield ok) else pure (ForInStep.yield r)) (fun ok s₃ =>
      if ok=true then wpAny (model prog w) A (eval elt env) (fun x s₄ => wpAny (model prog w) A (call (.builtin "list.append") [acc,x]) (fun _ s₅ => ∃ m,m < n/\I m s₅) (fun _ _=>False) s₄) (fun _ _=>False) s₃
      else ∃ m,m < n/\I m s₃) (fun _ _=>False) s₂) (fun _ _=>False) t₁) (fun _ _=>False) s₁) (fun _ _=>False) s)
  (n:Nat) (h:I n s):codeAny (model prog w) A (.compLoop (.ListComp elt [⟨target,iter,ifs,0⟩] scope pos) 0 it acc env) R s:=by
 refine codeAny_loop rfl I (fun n s hI=>?_) n h
 show wpAny _ A (Sem.onRaise (compTurn _ 0 it acc env) fun x=>do noteFrame x env; theTreesLotGoes x) _ _ s
 refine wpAny_noted ?_
 rw [compTurn_list]
 refine wpAny_bind (wpAny_standAt (wpAny_bind (wpAny_mono (turn n s hI) (fun r s₁ h₁ => ?_) fun _ _ z=>z.elim)))
 cases r with
 | none=>exact wpAny_pure h₁
 | some v =>
  refine wpAny_bind (wpAny_mono h₁ (fun _ t₁ k₁ => ?_) fun _ _ z=>z.elim)
  refine wpAny_bind (wpAny_mono k₁ (fun _ s₂ h₂ => wpAny_bind (wpAny_mono h₂ (fun ok s₃ h₃ => ?_) fun _ _ z=>z.elim)) fun _ _ z=>z.elim)
  cases ok with
  | false=>exact wpAny_pure ⟨rfl,h₃⟩
  | true =>
   refine wpAny_bind (wpAny_bind (wpAny_mono h₃ (fun x s₄ h₄ => ?_) fun _ _ z=>z.elim))
   exact wpAny_bind (wpAny_mono h₄ (fun _ s₅ h₅ => wpAny_pure (wpAny_pure ⟨rfl,h₅⟩)) fun _ _ z=>z.elim)
variable {tg:Expr} {g:TG} {tf:TT} {te:TE} {it:Addr} {J:It} {fin:List V->Hp->Prop}
section
variable {wi:TI}
theorem zhE {tn:Nat->Heap->Prop} {W:Nat->Nat->List V->Hp->Prop} {m0:Nat} {RR:Value->Addr->Result->Shared->Prop}
  (hc:X.calm=true) (hx:X.xe=fun _ _=>False) (S:CompOk X N0 scope xs cl)
  (hg:∀ C s H fp,PG (X.comp N0 scope xs cl C s H fp) tg g) (hf:∀ C s H fp,PIf (X.comp N0 scope xs cl C s H fp) ifs tf) (he:∀ C s H fp,PE (X.comp N0 scope xs cl C s H fp) elt te)
  (I2:Inv X pins σ H2 s2) (T:Turn X.prog X.w X.K tg J fp it tn) (st2:tn 0 s2.heap) (f2:∀ b∈fp,zfR X pins H2 b) (w0:W 0 m0 [] H2)
  (turn:∀ i m ys H,W i m ys H->ys.length<=sizeLine/\((J.stop i H/\fin ys H)∨(J.go i H/\∃ (Y:V->Hp->Prop) (Z:Hp->Prop),(∀ y H4,Y y H4->ys.length < sizeLine/\∃ m',m' < m/\W (i+1) m' (ys++[y]) H4)/\(∀ H3,Z H3->∃ m',m' < m/\W (i+1) m' ys H3) ∧
   ∀ x H',J.yld i H x H'->g x (σ ++ List.replicate xs.length none) H' fun σ2 H2=>tf σ2 H2 fun b H3=>if b=true then te σ2 H3 Y else Z H3)))
  (hRR:∀ (D C:Addr) (s':Shared) (ys:List V) (H':Hp) (m':Str->Option Value),Inv X pins σ (upd H' D (.lst ys)) s'->H' D=none->s'.heap.Ns C m'->zfR X pins (upd H' D (.lst ys)) C->fin ys H'->RR (.ref D) C (.ok .next) s') :
  wpAny (model X.prog X.w) X.A (newList []) (fun acc s₃ => wpAny (model X.prog X.w) X.A (newFunctionEnv scope X.env.globals cl [] X.env.qual none .none (some X.env)) (fun cenv s₄ =>
   codeAny (model X.prog X.w) X.A (.compStart (.ListComp elt [⟨tg,iter,ifs,0⟩] scope pos) 0 (.ref it) acc { cenv with scope:=relabel scope X.env }) (RR acc cenv.locals) s₄) X.xe s₃) X.xe s2:=by
 refine wpAny_newObj_type (wpAny_newFunctionEnv S.nc (by intro y hy; simp at hy) (fun h₁ hns₁ hsb₁ => ?_) S.kind)
 dsimp only at hns₁ hsb₁ ⊢
 generalize hG:s2.heap.push { cls := .type "list", dict:=none,data := .seq ([]:List Value).toArray }=G at hns₁ hsb₁ ⊢
 have szG:G.objs.size=s2.heap.objs.size+1:=by rw [<- hG,Heap.size_push]
 have hDC:s2.heap.objs.size≠G.objs.size:=by rw [szG]; exact Nat.ne_of_lt (Nat.lt_succ_self _)
 have hC:s2.heap.objs.size<=G.objs.size:=by rw [szG]; exact Nat.le_succ _
 have hfp:∀ b∈fp,b < s2.heap.objs.size:=fun b hb=>let ⟨_,e,_⟩:=T.obj 0 _ st2 b hb; Heap.lt_size e
 have old:∀ b o,s2.heap.get? b=some o->h₁.get? b=some o:=fun b o e =>
  hsb₁.extBut b o (Nat.ne_of_lt (Nat.lt_of_lt_of_le (Heap.lt_size e) hC)) (Heap.get?_push_of_some _ (hG ▸ Heap.get?_push_of_some _ e))
 have hacc:h₁.get? s2.heap.objs.size=some { cls := .type "list", data := .seq ([]:List Value).toArray 0 }:=hsb₁.extBut _ _ hDC (Heap.get?_push_of_some _ (hG ▸ Heap.get?_push_size _ rfl))
 have hst₁ : tn 0 h₁ := T.keep 0 _ _ st2 fun b _ o e=>old b o e
 have I3:∀ tk,Inv (X.comp N0 scope xs cl G.objs.size s2 H2 fp) [(s2.heap.objs.size,{ cls := .type "list", data := .seq ([]:List Value).toArray 0 })] (σ ++ List.replicate xs.length none) H2 { s2 with heap:=h₁,toks:=tk }:=fun tk =>
  zmG I2 S f2 hfp hC (Nat.le_refl _) hDC old rfl I2.bare hns₁ hacc fun _ z=>nomatch z
 have stat:∀ {H':Hp} {o:Obj},(∀ b∈fp,H' b=none)->∀ b∈fp,zfR (X.comp N0 scope xs cl G.objs.size s2 H2 fp) [(s2.heap.objs.size,o)] H' b:=fun {H' o} hn b hb=>by
  refine ⟨hn b hb,Nat.ne_of_lt (Nat.lt_of_lt_of_le (hfp b hb) hC),fun z=>?_,.inl hb,fun x c e=>(f2 b hb).2.2.2.2.1 x c (S.sub.at e),fun p hp=>?_⟩
  ·rcases List.mem_cons.mp (I2.stkSub b z) with q | q
   ·exact (f2 b hb).2.1 q
   ·exact (f2 b hb).2.2.1 q
  ·have e:p=(s2.heap.objs.size,o):=List.mem_singleton.mp (show p∈[(s2.heap.objs.size,o)] from hp)
   subst e
   exact Nat.ne_of_gt (hfp b hb)
 have loop:∀ tk,codeAny (model X.prog X.w) X.A (.compLoop (.ListComp elt [⟨tg,iter,ifs,0⟩] scope pos) 0 (.ref it) (.ref s2.heap.objs.size) (compEnvC scope cl G.objs.size X.env)) (RR (.ref s2.heap.objs.size) G.objs.size) { s2 with heap:=h₁,toks:=tk }:=by
  intro tk
  refine zmF (fun n s'=>∃ i ys its k H',Inv (X.comp N0 scope xs cl G.objs.size s2 H2 fp) [(s2.heap.objs.size,{ cls := .type "list", data := .seq (its:List Value).toArray k })] (σ ++ List.replicate xs.length none) H' s'/\tn i s'.heap/\(∀ b∈fp,H' b=none)/\Vals ys its/\W i n ys H')
   ?_ m0 ⟨0,[],[],0,H2,I3 tk,hst₁,fun b hb=>(f2 b hb).1,.nil,w0⟩
  rintro n s' ⟨i,ys,its,k,H',I',st',fr',rv,w'⟩
  obtain ⟨hlen,way⟩:=turn i n ys H' w'
  rcases way with ⟨stop,qf⟩ | ⟨go,Y,Z,hY,hZ,step⟩
  ·refine thn (T.done (X.comp N0 scope xs cl G.objs.size s2 H2 fp) rfl rfl rfl hc i _ s' _ H' (fun _ _=>False) I' (stat fr') st' stop) fun r s1 ⟨hr,I1⟩=>?_
   subst hr
   obtain ⟨e,n1,_⟩:=I1.pin _ (List.mem_singleton.mpr rfl)
   obtain ⟨m1,hn1,_⟩:=I1.loc
   refine hRR _ _ s1 ys H' m1 (zqN I2 f2 (Nat.le_refl _) I1 n1 e rv hlen) n1 hn1 ?_ qf
   refine I2.fpOk hC ?_
   rw [zav hDC.symm]
   exact I1.free
  ·refine thn (T.item (X.comp N0 scope xs cl G.objs.size s2 H2 fp) rfl rfl rfl hc i _ s' _ H' (fun _ _=>False) I' (stat fr') st' go) fun r s1 ⟨u,hr,h1⟩=>?_
   subst hr
   refine thn h1 fun _ s5 ⟨x,H5,I5,r5,y5,st5,fr5⟩=>?_
   have I5':=I5.pinned (stat fr5) (T.obj _ _ st5)
   have hxe:(X.comp N0 scope xs cl G.objs.size s2 H2 fp).xe=fun _ _=>False:=hx
   have q6:=hg _ s2 H2 fp _ s5 _ H5 x u _ I5' r5 (step x H5 y5)
   rw [hxe] at q6
   refine thn q6 fun _ s6 ⟨σ6,H6,I6,q6⟩=>?_
   have q7:=hf _ s2 H2 fp _ s6 σ6 H6 _ I6 q6
   rw [hxe] at q7
   refine thn q7 fun b s7 ⟨H7,I7,q7⟩=>?_
   have kept:∀ {σ':St} {H':Hp} {s':Shared},Inv (X.comp N0 scope xs cl G.objs.size s2 H2 fp) ([(s2.heap.objs.size,{ cls := .type "list", data := .seq its.toArray k })]++zeS fp s5.heap) σ' H' s'->tn (i+1) s'.heap/\∀ b∈fp,H' b=none:=fun {σ' H' s'} Z=>by
    refine ⟨T.keep _ _ _ st5 fun b hb o e=>(Z.pin (b,o) (List.mem_append_right _ (List.mem_append_right _ (zdW hb e)))).1,fun b hb=>?_⟩
    obtain ⟨o,e,d⟩:=T.obj _ _ st5 b hb
    exact (Z.pin (b,o) (List.mem_append_right _ (List.mem_append_right _ (zdW hb e)))).2.1
   cases b with
   | false =>
    rw [if_neg Bool.false_ne_true]
    rw [if_neg Bool.false_ne_true] at q7
    obtain ⟨m',hm,w7⟩:=hZ _ q7
    exact ⟨m',hm,i+1,ys,its,k,H7,zhD I2 S f2 I7.unpinned,(kept I7).1,(kept I7).2,rv,w7⟩
   | true =>
    rw [if_pos rfl]
    rw [if_pos rfl] at q7
    have q8:=he _ s2 H2 fp _ s7 σ6 H7 _ I7 q7
    rw [hxe] at q8
    refine thn q8 fun y s8 ⟨yv,H8,I8,r8,qY⟩=>?_
    obtain ⟨hz,m',hm,w8⟩:=hY _ _ qY
    obtain ⟨eD,nD,neC,nfD,_⟩:=I8.pin (s2.heap.objs.size,{ cls := .type "list", data := .seq its.toArray k }) (List.mem_append_right _ (List.mem_append_left _ (List.mem_singleton.mpr rfl)))
    have hl:=rv.length
    refine call_meets F.slot_list_append ⟨_,eD,rfl⟩ F.entry_list_append (F.args_list_append_2 _ _) (PySem.list_append s2.heap.objs.size its.toArray k y (by rw [List.size_toArray]; omega)) ⟨eD,?_⟩
    have eN:=PySem.IsL.update eD (fun (a:Array Value)=>a.push y)
    have eA:its.toArray.push y=(its++[y]).toArray:=by simp
    rw [eA] at eN
    have drop:Inv (X.comp N0 scope xs cl G.objs.size s2 H2 fp) (zeS fp s5.heap) σ6 H8 s8:=I8.pins_of fun p hp=>I8.pin p (List.mem_append_right _ (List.mem_append_right _ hp))
    have I9:Inv (X.comp N0 scope xs cl G.objs.size s2 H2 fp) (zeS fp s5.heap) σ6 H8 { s8 with heap:=s8.heap.update s2.heap.objs.size (Obj.mapSeq fun (a:Array Value)=>a.push y) }:=by
     refine drop.turned (it:=s2.heap.objs.size) (t':=s8.toks) (fun b o hb q=>(Heap.get?_update_other s8.heap _ (Ne.symm hb)).trans q) nD neC (.inr (Nat.le_refl _)) (fun x c e z=>?_) fun p hp z=>?_
     ·obtain ⟨v,q⟩:=I2.cell x c (S.sub.at e)
      exact absurd (q.lt) (by rw [z]; exact Nat.lt_irrefl _)
     ·have hp':p∈zeS fp s5.heap:=hp
      exact absurd (hfp _ (zi3 hp').1) (by rw [z]; exact Nat.lt_irrefl _)
    have I10:Inv (X.comp N0 scope xs cl G.objs.size s2 H2 fp) ([(s2.heap.objs.size,{ cls := .type "list", data := .seq (its++[y]).toArray _ })]++zeS fp s5.heap) σ6 H8 { s8 with heap:=s8.heap.update s2.heap.objs.size (Obj.mapSeq fun (a:Array Value)=>a.push y) }:=I9.pins_of fun p hp=>by
     rcases List.mem_append.mp hp with z | z
     ·have e:=List.mem_singleton.mp z
      subst e
      exact ⟨eN,nD,neC,nfD,fun _ z=>nomatch z⟩
     ·exact I9.pin p (List.mem_append_right _ z)
    have kp:tn (i+1) (s8.heap.update s2.heap.objs.size (Obj.mapSeq fun (a:Array Value)=>a.push y))/\∀ b∈fp,H8 b=none:=by
     refine ⟨T.keep _ _ _ (kept I8).1 fun b hb o e=>(Heap.get?_update_other s8.heap _ (Nat.ne_of_gt (hfp b hb))).trans e,(kept I8).2⟩
    exact ⟨m',hm,i+1,ys++[yv],its++[y],_,H8,zhD I2 S f2 I10.unpinned,kp.1,kp.2,rv.append (.cons r8 .nil),w8⟩
 exact codeAny_compStart_list (loop _) (T.self _ 0 _ _ _ hst₁ (loop _))
theorem zjC (I:Inv X pins σ H s) (f:zfR X pins H C) (k:Heap.SameBut C s.heap h'):Inv X pins σ H { s with heap:=h' }:=by
 obtain ⟨n,nl,nf,ab,nc,np⟩:=f
 exact I.turned (it:=C) (t':=s.toks) (fun b o hb e=>k.extBut b o hb e) n nl ab nc np
theorem znL (hc:X.calm=true) (hx:X.xe=fun _ _=>False) (S:CompOk X N0 scope xs cl) (hi:PI X tg iter wi)
  (hg:∀ C s H fp,PG (X.comp N0 scope xs cl C s H fp) tg g) (hf:∀ C s H fp,PIf (X.comp N0 scope xs cl C s H fp) ifs tf) (he:∀ C s H fp,PE (X.comp N0 scope xs cl C s H fp) elt te)
  (hs:autoParam (∀ x,foldedSetIterable iter X.env x=pure x) AutoP.a2._auto_1) :
  PE X (.ListComp elt [⟨tg,iter,ifs,0⟩] scope pos) (fun σ H Q=>zpJ xs.length wi g tf te (fun ys H'=>∀ p,H' p=none->Q (.ref p) (upd H' p (.lst ys))) σ H):=by
 intro pins s σ H Q I h
 rw [eval_ListComp]
 refine wpAny_comprehension_free (use:=none) rfl hs S.clos S.kind (fun y hy hl=>(S.lo hy hl).1) ?_
 refine thn (hi pins s σ H _ I h) fun xv s1 h1=>thn h1 fun itv s2 h2=>?_
 obtain ⟨it,fp,tn,J,H2,rfl,I2,T,st2,f2,W,⟨m0,w0⟩,turn⟩:=h2
 refine zhE (RR:=fun acc C=>compPost (model X.prog X.w) X.A X.xe none (EP X pins σ Q) acc C) hc hx S hg hf he I2 T st2 f2 w0 turn ?_
 intro D C s' ys H' m' I' nD hn fC fin
 exact ⟨m',hn,fun h' k=>⟨.ref D,_,zjC I' fC k,rfl,fin D nD⟩⟩
theorem zsc {y:Str} {py spos:Pos} (hc:X.calm=true) (hx:X.xe=fun _ _=>False) (hN:X.N.Nodup) (hy:X.N[i]?=some y) (hl:X.env.scope.names.lookup y=some .local) (S:CompOk X N0 scope xs cl) (hi:PI X tg iter wi)
  (hg:∀ C s H fp,PG (X.comp N0 scope xs cl C s H fp) tg g) (hf:∀ C s H fp,PIf (X.comp N0 scope xs cl C s H fp) ifs tf) (he:∀ C s H fp,PE (X.comp N0 scope xs cl C s H fp) elt te)
  (hsw:autoParam (swapsWith (.ListComp elt [⟨tg,iter,ifs,0⟩] scope pos) (some (.Name y py)) spos.line X.env=pure true) AutoP.a4._auto_1)
  (hs:autoParam (∀ x,foldedSetIterable iter X.env x=pure x) AutoP.a2._auto_1) :
  PS X (.Assign [.Name y py] (.ListComp elt [⟨tg,iter,ifs,0⟩] scope pos) spos) (fun D σ H=>zpJ xs.length wi g tf te (fun ys H'=>∀ p,H' p=none->D.nx (σ.set i (some (.ref p))) (upd H' p (.lst ys))) σ H):=by
 intro pins s σ H D I h
 rw [exec_Assign_Name_used _ _ _ _ hsw]
 refine wpAny_bind (wpAny_standAt (wpAny_bind ?_))
 show wpAny _ X.A (comprehension (.ListComp elt [⟨tg,iter,ifs,0⟩] scope pos) scope X.env _ (newList []) false (eval iter X.env) (some (assign (.Name y py) X.env)) >>= fun _=>_) _ _ s
 refine wpAny_bind (wpAny_mono (wpAny_comprehension_free (use:=some (assign (.Name y py) X.env)) (Q:=fun _ s'=>SP X pins D .next s') rfl hs S.clos S.kind (fun y hy hl=>(S.lo hy hl).1) ?_) (fun _ s' hq=>wpAny_pure (wpAny_pure hq)) fun _ _ e=>e)
 refine thn (hi pins s σ H _ I h) fun xv s1 h1=>thn h1 fun itv s2 h2=>?_
 obtain ⟨it,fp,tn,J,H2,rfl,I2,T,st2,f2,W,⟨m0,w0⟩,turn⟩:=h2
 refine zhE (RR:=fun acc C=>compPost (model X.prog X.w) X.A X.xe (some (assign (.Name y py) X.env)) (fun _ s'=>SP X pins D .next s') acc C) hc hx S hg hf he I2 T st2 f2 w0 turn ?_
 intro d C s' ys H' m' I' nD hn fC fin
 obtain ⟨oC,es,ep,ho,hd,hr⟩:=hn
 have IC:Inv X (pins++[(C,oC)]) σ (upd H' d (.lst ys)) s':=I'.pins_of fun p hp=>by
  rcases List.mem_append.mp hp with z | z
  ·exact I'.pin p (List.mem_append_right _ z)
  ·have e:=List.mem_singleton.mp z
   subst e
   exact ⟨ho,fC.1,fC.2.1,fC.2.2.1,fun v z=>by rw [hd] at z; cases z⟩
 show wpAny (model X.prog X.w) X.A (assign (.Name y py) X.env (.ref d)) _ _ s'
 refine thn (znK (pos:=py) hN hy (.inl hl) (.inr hl) _ s' σ _ (.ref d) (.ref d) _ IC rfl (fin d nD)) fun _ s'' ⟨σ'',H'',I'',q''⟩=>?_
 have pC:=I''.pin (C,oC) (List.mem_append_right _ (List.mem_append_right _ (List.mem_singleton.mpr rfl)))
 refine ⟨_,⟨oC,es,ep,pC.1,hd,hr⟩,fun h' k=>⟨σ'',H'',zjC I''.unpinned ⟨pC.2.1,fC.2⟩ k,q''⟩⟩
end
section
theorem zpf {k:Nat} (Pv:Nat->List V->Hp->Prop) (hk:k<=1000000) (h0:Pv 0 [] H) (hz:∀ i ys H,Pv i ys H->ys.length<=i)
  (hgo:∀ i ys H,i < k->Pv i ys H->J.go i H/\∀ x H',J.yld i H x H'->g x (σ ++ List.replicate n none) H' fun σ2 H2=>tf σ2 H2 fun b H3=>if b=true then te σ2 H3 (fun y H4=>Pv (i+1) (ys++[y]) H4) else Pv (i+1) ys H3)
  (hst:∀ ys H,Pv k ys H->J.stop k H/\fin ys H) :
  ∃ W:Nat->Nat->List V->Hp->Prop,(∃ m,W 0 m [] H)/\∀ i m ys H,W i m ys H->ys.length<=sizeLine/\((J.stop i H/\fin ys H)∨(J.go i H/\∃ (Y:V->Hp->Prop) (Z:Hp->Prop),(∀ y H4,Y y H4->ys.length < sizeLine/\∃ m',m' < m/\W (i+1) m' (ys++[y]) H4) ∧
   (∀ H3,Z H3->∃ m',m' < m/\W (i+1) m' ys H3)/\∀ x H',J.yld i H x H'->g x (σ ++ List.replicate n none) H' fun σ2 H2=>tf σ2 H2 fun b H3=>if b=true then te σ2 H3 Y else Z H3)):=by
 have hl:sizeLine=16777216:=sizeLine_eq
 refine ⟨fun i m ys H=>m=k - i/\i<=k/\Pv i ys H,⟨k,by simp,Nat.zero_le _,h0⟩,?_⟩
 rintro i m ys H ⟨rfl,hi,p⟩
 have z:=hz i ys H p
 refine ⟨by omega,?_⟩
 by_cases hlt:i < k
 ·obtain ⟨g1,g2⟩:=hgo i ys H hlt p
  exact .inr ⟨g1,fun y H4=>Pv (i+1) (ys++[y]) H4,fun H3=>Pv (i+1) ys H3,fun y H4 q=>⟨by omega,k - (i+1),by omega,rfl,hlt,q⟩,fun H3 q=>⟨k - (i+1),by omega,rfl,hlt,q⟩,g2⟩
 ·have e:i=k:=by omega
  subst e
  exact .inl (hst ys H p)
end
variable {ns:List Int} {v:Value}
theorem zmT (r:Vals (ns.map V.int) its) (e:its.toArray[i]?=some v):∃ t,v = .int (ns.getD i 0) t:=by
 have e':its[i]?=some v:=by simpa using e
 have hi:i < ns.length:=by
  have h1:=r.length
  have h2:=(List.getElem?_eq_some_iff.mp e').1
  rw [List.length_map] at h1
  omega
 obtain ⟨u,q,t,z⟩:=r.get (i:=i) (x := .int (ns[i])) (by simp [hi])
 rw [e'] at q
 cases q
 exact ⟨t,by rw [z]; simp [hi]⟩
theorem zoS (h:i < ns.length):ns.getD i 0=ns[i]:=by simp [h]
theorem zlL {bs:List Bool} (r:Vals (bs.map V.bl) its) (e:its.toArray[i]?=some v):v = .bool (bs.getD i true):=by
 have e':its[i]?=some v:=by simpa using e
 have hi:i < bs.length:=by
  have h1:=r.length
  have h2:=(List.getElem?_eq_some_iff.mp e').1
  rw [List.length_map] at h1
  omega
 obtain ⟨u,q,z⟩:=r.get (i:=i) (x := .bl (bs[i])) (by simp [hi])
 rw [e'] at q
 cases q
 rw [show v=Value.bool bs[i] from z]
 simp [hi]
theorem zhn:∀ (bs:List Bool),((List.range bs.length).all fun i=>bs.getD i true)=bs.all id
 | []=>rfl
 | b::r=>by
  rw [List.length_cons,List.range_succ_eq_map,List.all_cons,List.all_map,List.all_cons]
  have e:((fun i=>(b::r).getD i true) ∘ Nat.succ)=fun i=>r.getD i true:=by
   funext i
   simp
  rw [e,zhn r]
  simp
section
theorem zpp (hc:X.calm=true):CallR X (.builtin "all") (fun xs H Q=>∃ (l:Addr) (bs:List Bool),xs=[.ref l]/\SqL X.K H l (bs.map V.bl)/\Q (.bl (bs.all id)) H):=by
 intro pins s σ H xs us Q I r h
 obtain ⟨l,bs,rfl,hq,q⟩:=h
 obtain ⟨u,rfl,rx⟩:=zcn r
 cases rx
 obtain ⟨its,r',pl,hz⟩:=I.list hq
 have hl:=pl.isList
 have hlt:l < s.heap.objs.size:=by obtain ⟨_,e,_⟩:=hl; exact Heap.lt_size e
 have hlen:bs.length=its.length:=by rw [<- r'.length,List.length_map]
 refine call_all_walk (wpAny_pyIter_list hl ?_)
 refine ⟨s.heap.objs.size,_,_,its.toArray.size,_,_,fun i=>bs.getD i true,rfl,Walks.list (A:=X.A.in1) (I.ok.hd hc) _ l (Nat.ne_of_lt hlt) its.toArray,⟨⟨_,Heap.get?_push_size _ rfl,rfl,rfl⟩,hl.push _⟩,fun i v s' Q' E' hP hQ=>?_,fun h' tk hk=>?_⟩
 ·rw [zlL r' hP]
  exact wpAny_truthy_bool hQ
 ·rw [List.size_toArray,<- hlen,zhn]
  exact ⟨.bl (bs.all id),H,I.kept fun b o e=>hk b o (fun z=>Nat.ne_of_lt (Heap.lt_size e) (List.mem_singleton.mp z)) (Heap.get?_push_of_some _ e),rfl,q⟩
end
def Itf (f:Nat->V) (n:Nat):It:=⟨fun i _=>i < n,fun i H x H'=>H'=H/\x=f i,fun i _=>i=n⟩
variable {K:PySem.W.Frag} {nm:String}
theorem zgb {w:World} {Pq:Nat->Value->Prop} {St:Nat->Heap->Prop} {f:Nat->V}
  (W:∀ A:Around,A.handled=none->Walks P w A it [it] [it] n Pq St) (ho:∀ i h,St i h->∃ o vs,h.get? it=some o/\o.cls = .type nm/\o.data = .fields vs)
  (hfr:∀ i h h',St i h->(∀ b∈[it],∀ o,h.get? b=some o->h'.get? b=some o)->St i h') (hn:["enumerate", "zip", "dict_itemiterator", "dict_reverseitemiterator", "odict_iterator", "itertools.zip_longest", "itertools.pairwise"].contains nm=false)
  (hP:∀ i v,i < n->Pq i v->RelV (f i) v) (hself:∀ (A:Around) (i:Nat) (s:Shared) (Q:Value->Shared->Prop) (E:Value->Shared->Prop),St i s.heap->Q (.ref it) s->wpAny (model P w) A (pyIter (.ref it)) Q E s):Turn P w K tg (Itf f n) [it] it St where
 mem:=by simp
 obj:=fun i h st b hb=>by
  have e:b=it:=by simpa using hb
  subst e
  obtain ⟨o,vs,e,c,d⟩:=ho i h st
  exact ⟨o,e,fun v z=>by rw [d] at z; cases z⟩
 keep:=fun i h h' st k=>hfr i h h' st k
 item:=by
  intro X hP' hw hK hc i pins s σ H E I hf st hg
  subst hP' hw hK
  obtain ⟨f0,f1,f2,f3,f4,f5⟩:=hf it (by simp)
  refine (W X.A (I.ok.hd hc)).item i s _ _ hg st fun v h' tk hv st' kk=>?_
  have I1:Inv X pins σ H { s with heap:=h',toks:=tk }:=I.turned (fun b o hb e=>kk b o (by simpa using hb) e) f0 f1 f3 f4 f5
  obtain ⟨o,vs,e,c,d⟩:=ho _ _ st'
  exact ⟨v,rfl,zqG (s:={ s with heap:=h',toks:=tk }) e c d hn ⟨f i,H,I1,hP i v hg hv,⟨rfl,rfl⟩,st',fun b hb=>(hf b hb).1⟩⟩
 done:=by
  intro X hP' hw hK hc i pins s σ H E I hf st hg
  subst hP' hw hK
  obtain ⟨f0,f1,f2,f3,f4,f5⟩:=hf it (by simp)
  have e:i=n:=hg
  subst e
  exact (W X.A (I.ok.hd hc)).done s _ _ st fun h' tk kk=>⟨rfl,I.turned (fun b o hb e=>kk b o (by simpa using hb) e) f0 f1 f3 f4 f5⟩
 self:=hself
def sgn (z:Str) (i:Nat):V := .str ⟨#[z.cps.getD i 0]⟩
def iTxt (tl:TE):TI:=fun σ H R=>tl σ H fun x H1=>∃ z,x = .str z/\R (Itf (sgn z) z.cps.size) H1
variable {t:Tok}
theorem zd5 (st:h.IsStrIter it nm x t i):∃ o vs,h.get? it=some o/\o.cls = .type nm/\o.data = .fields vs:=by
 obtain ⟨o,e,c,d⟩:=st
 exact ⟨o,_,e,c,d⟩
theorem zfv (st:h.IsStrIter it nm x t i) (k:∀ b∈[it],∀ o,h.get? b=some o->h'.get? b=some o):h'.IsStrIter it nm x t i:=let ⟨o,ho,r⟩:=st; ⟨o,k it (by simp) o ho,r⟩
variable {z:Str}
theorem zj2 (h:SignAt z i v):RelV (sgn z i) v:=by
 obtain ⟨c,u,e,rfl⟩:=h
 refine ⟨u,?_⟩
 have:z.cps.getD i 0=c:=by simp [Array.getD_eq_getD_getElem?,e]
 rw [this]
theorem pi_txt {l:Expr} {tl:TE} (hl:PE X l tl):PI X tg l (iTxt tl):=by
 intro pins s σ H R I h
 refine thn (hl pins s σ H _ I h) fun v s1 ⟨x,H1,I1,r1,q1⟩=>?_
 obtain ⟨z,e,q⟩:=q1
 subst e
 obtain ⟨t,rfl⟩:=r1
 have fp:∀ b∈[s1.heap.objs.size],zfR X pins H1 b:=fun b hb=>by
  have e:b=s1.heap.objs.size:=by simpa using hb
  subst e
  exact I1.fpOk (Nat.le_refl _) (I1.hok.fresh (Nat.le_refl _))
 cases ha:z.cps.all (· < 128)
 ·refine wpAny_pyIter_wide ha ?_
  exact ⟨s1.heap.objs.size,[s1.heap.objs.size],_,_,H1,rfl,I1.kept (t':=s1.toks) fun b o e=>Heap.get?_push_of_some _ e,zgb (nm := "str_iterator") (St:=fun i h=>h.IsStrIter s1.heap.objs.size "str_iterator" z t i) (fun A hA=>Walks.strWide hA _ z t) (fun i h st=>zd5 st) (fun i h h' st k=>zfv st k) (by decide) (fun i v _ hv=>zj2 hv) (fun A i s Q E st q=>wpAny_pyIter_striter_wide st q),⟨_,Heap.get?_push_size _ rfl,rfl,rfl⟩,fp,q⟩
 ·refine wpAny_pyIter_ascii ha ?_
  exact ⟨s1.heap.objs.size,[s1.heap.objs.size],_,_,H1,rfl,I1.kept (t':=s1.toks) fun b o e=>Heap.get?_push_of_some _ e,zgb (nm := "str_ascii_iterator") (St:=fun i h=>h.IsStrIter s1.heap.objs.size "str_ascii_iterator" z t i) (fun A hA=>Walks.strAscii hA _ z t) (fun i h st=>zd5 st) (fun i h h' st k=>zfv st k) (by decide) (fun i v _ hv=>zj2 hv) (fun A i s Q E st q=>wpAny_pyIter_striter_ascii st q),⟨_,Heap.get?_push_size _ rfl,rfl,rfl⟩,fp,q⟩
theorem zqZ:SlR X (fun x lo hi H Q=>∃ z,x = .str z/\z.length<=sizeLine/\Q (.str (Txt.slice z lo hi)) H):=by
 intro pins s σ H x v vl vu lo hi sl Q I rx hs pl pu q
 obtain ⟨z,rfl,hz,q⟩:=q
 obtain ⟨t,rfl⟩:=rx
 obtain ⟨o,e,c,d⟩:=hs
 have hp:∀ {v:Value} {o:Option Int},IsPart v o->∃ p:Option (Int × Tok),v=partValue p/\p.map (·.1)=o:=by
  intro v o h
  cases h with
  | none=>exact ⟨none,rfl,rfl⟩
  | int i t=>exact ⟨some (i,t),rfl,rfl⟩
 obtain ⟨l,rfl,hl⟩:=hp pl
 obtain ⟨u,rfl,hu⟩:=hp pu
 subst hl hu
 refine ⟨"str", _,F.slot_str_getitem.lookup,typeIs_str _ _ _,wpAny_getItem_str_slice (l:=l) (u:=u) (st:=none) ⟨o,e,c,d⟩ rfl ?_⟩
 exact post_val_or_str ⟨Nat.le_trans (Txt.slice_le z _ _) hz,fun t' k=>⟨.str (Txt.slice z (l.map (·.1)) (u.map (·.1))),H,I.tok _,⟨t',rfl⟩,q⟩⟩
theorem zrB {ts:List Str}:∀ {its:List Value},Vals (ts.map V.str) its->∃ l:List (Str × Tok),its=strValues l/\l.map (·.1)=ts:=by
 induction ts with
 | nil=>intro its r; cases r; exact ⟨[],rfl,rfl⟩
 | cons a ts ih =>
  intro its r
  rw [List.map_cons] at r
  cases r with
  | cons r1 r2 =>
   obtain ⟨t,rfl⟩:=r1
   obtain ⟨l,rfl,rfl⟩:=ih r2
   exact ⟨(a,t)::l,rfl,rfl⟩
theorem zol:MtM X "str.join" (fun x xs H Q=>∃ (z:Str) (l:Addr) (ts:List Str),x = .str z/\xs=[.ref l]/\SqL X.K H l (ts.map V.str)/\JoinOk z ts=true/\Q (.str (Txt.join z ts)) H):=by
 intro pins s σ H x xs v us Q I rx rs h
 obtain ⟨z,l,ts,rfl,rfl,hq,hok,q⟩:=h
 obtain ⟨t,rfl⟩:=rx
 obtain ⟨u,rfl,ru⟩:=zcn rs
 cases ru
 obtain ⟨its,r',pl,hz⟩:=I.list hq
 obtain ⟨ls,rfl,rfl⟩:=zrB r'
 exact SC.join pl.isList rfl hok fun t' k=>⟨.str (Txt.join z (ls.map (·.1))),H,I.tok _,⟨t',rfl⟩,q⟩
theorem zlV {acc:Array Value} (h:ItemsOf (SignAt z) acc z.cps.size):Vals ((List.range z.cps.size).map (sgn z)) acc.toList:=by
 obtain ⟨h1,h2⟩:=h
 have gen:∀ (n k:Nat) (ls:List Value),ls.length=n->(∀ j v,ls[j]?=some v->SignAt z (k+j) v)->Vals ((List.range' k n).map (sgn z)) ls:=by
  intro n
  induction n with
  | zero=>intro k ls hl _; have:ls=[]:=List.length_eq_zero_iff.mp hl; subst this; exact .nil
  | succ n ih =>
   intro k ls hl hh
   cases ls with
   | nil=>cases hl
   | cons v ls =>
    rw [List.range'_succ,List.map_cons]
    refine .cons (zj2 (by simpa using hh 0 v rfl)) (ih (k+1) ls (by simpa using hl) fun j v e=>?_)
    have:=hh (j+1) v (by simpa using e)
    rwa [show k+(j+1)=k+1+j by omega] at this
 rw [List.range_eq_range']
 refine gen _ 0 _ (by simpa using h1) fun j v e=>?_
 rw [Nat.zero_add]
 exact h2 j v (by simpa using e)
theorem zhf (hc:X.calm=true):CallR X (.type "tuple") (fun xs H Q=>∃ z,xs=[.str z]/\z.cps.size<=sizeLine/\∀ l,H l=none->Q (.ref l) (upd H l (.tup ((List.range z.cps.size).map (sgn z))))):=by
 intro pins s σ H xs us Q I r h
 obtain ⟨z,rfl,hz,q⟩:=h
 obtain ⟨u,rfl,t,rfl⟩:=zcn r
 refine call_tuple_str (I.ok.hd hc) z t (fun h' tk acc kp it=>?_) hz
 have hv:=zlV it
 have I1:Inv X pins σ H { s with heap:=h',toks:=tk }:=I.kept kp
 have I2:Inv X pins σ (upd H h'.objs.size (.tup ((List.range z.cps.size).map (sgn z)))) { s with heap:=h'.push { cls := .type "tuple", data := .seq acc },toks:=tk } :=
  I1.laid (t':=tk) (fun b o e=>Heap.get?_push_of_some _ e) (Nat.le_refl _) (show ObjOk X.prog X.w _ _ _ (.tup _) from ⟨by simpa using hz,acc.toList,hv,by simpa using IsTup.new h' acc,_,Heap.get?_push_size _ rfl,rfl⟩)
 exact ⟨.ref h'.objs.size,_,I2,rfl,q _ (I1.hok.fresh (Nat.le_refl _))⟩
end L2
namespace PySem
open Sem (wp)
open Builtin
namespace F
theorem sub_rit_reversed:isSubtype (.type "range_iterator") (.type "reversed")=pure false:=by rw [isSubtype_type]; kernel_rfl
end F
variable {r:Addr} {n:Int} {t u v:Tok} {Q:Value->Shared->Prop}
section
variable {prog:Program} {w:World} {A:Around} {E:Value->Shared->Prop} {s:Shared}
def ziN (n:Int):Obj:={ cls := .type "range_iterator", data := .fields #[rawInt (n - 1),rawInt n,rawInt (-1)] }
theorem zeA (hr:IsRange s.heap r 0 n 1 t u v) (h0:0<=n) (h1:n < 2 ^ 62)
  (h:Q (.ref s.heap.objs.size) { s with heap:=s.heap.push (ziN n) }):wpAny (model prog w) A (call (.builtin "range.__reversed__") [.ref r]) Q E s:=by
 have hT:s.TypeIs (.ref r) "range" := ⟨_,hr,rfl⟩
 refine wpAny_call_entry F.slot_range_reversed hT F.entry_range_reversed ?_ (F.args_range_reversed_1 _)
 unfold Builtin.«range.__reversed__»
 refine wpAny_bind (wpAny_of_eq (a:=Value.ref r) rfl ?_)
 unfold Builtin.Range.rangeFields
 refine wpAny_bind (wpAny_bind (wpAny_field hr rfl (x := .int 0 t) rfl ?_))
 refine wpAny_bind (wpAny_of_eq (a:=some (0:Int)) rfl ?_)
 refine wpAny_bind (wpAny_field hr rfl (x := .int n u) rfl ?_)
 refine wpAny_bind (wpAny_of_eq (a:=some n) rfl ?_)
 refine wpAny_bind (wpAny_field hr rfl (x := .int 1 v) rfl ?_)
 refine wpAny_bind (wpAny_of_eq (a:=some (1:Int)) rfl ?_)
 refine wpAny_pure ?_
 have hn:Builtin.Range.rangeSize 0 n 1=n:=by
  unfold Builtin.Range.rangeSize
  rw [if_pos (by decide),Int.ediv_one]
  split <;> omega
 dsimp only
 rw [hn]
 have hs:(Builtin.Range.rangeFitsLong 0 && Builtin.Range.rangeFitsLong n && Builtin.Range.rangeFitsLong 1 && Builtin.Range.rangeFitsLong (-1) && Builtin.Range.rangeFitsLong (0 - 1) && Builtin.Range.rangeFitsLong n)=true:=by
  have:Builtin.Range.rangeFitsLong n=true:=by
   unfold Builtin.Range.rangeFitsLong
   simp only [Bool.and_eq_true,decide_eq_true_eq]
   omega
  rw [this]; decide
 rw [hs]
 rw [show (0:Int)+(n - 1) * 1=n - 1 by omega]
 rw [if_neg (by decide),if_pos rfl]
 exact wpAny_bind (wpAny_newObj_type (wpAny_pure ⟨_,rfl,h⟩))
theorem zfp {Q₁ : Value->Shared->Prop} (hr:IsRange s.heap r 0 n 1 t u v) (h0:0<=n) (h1:n < 2 ^ 62)
  (h:Q₁ (.ref s.heap.objs.size) { s with heap:=s.heap.push (ziN n) }) :
  codeAny (model prog w) A (.call (.builtin "reversed.__new__") ⟨[.type "reversed", .ref r],[]⟩) (wants Q₁ E) s:=by
 have hT:s.TypeIs (.ref r) "range" := ⟨_,hr,rfl⟩
 refine codeAny_of_tree ?_
 show wpAny _ A.in1 (do checkBuiltinCall "reversed.__new__" ⟨[.type "reversed", .ref r],[]⟩; again (.builtin "reversed.__new__" ⟨[.type "reversed", .ref r],[]⟩)) _ _ s
 refine wpAny_bind (wpAny_of_eq (F.newCall_reversed_1 _) (wpAny_pure ⟨plainId_quiet F.plain_reversed_new _,codeAny_builtin F.entry_reversed_new ?_⟩))
 rw [Around.under_plainId F.plain_reversed_new _]
 unfold Builtin.«reversed.__new__»
 refine wpAny_bind (wpAny_of_eq (newClass_reversed _) ?_)
 dsimp only
 refine wpAny_bind (wpAny_of_eq (a:=()) rfl ?_)
 refine wpAny_bind (wpAny_of_eq (a:=()) rfl ?_)
 refine wpAny_bind (wpAny_specialOf hT F.slot_range_reversed.lookup ?_)
 dsimp only
 refine wpAny_bind (wpAny_of_eq (F.slot_range_reversed.bind _) ?_)
 dsimp only
 rw [if_neg (show ¬ ((Value.builtin "range.__reversed__" == Value.none)=true) from Bool.false_ne_true)]
 refine wpAny_bind (wpAny_rule ?_)
 refine wpAny_bind (m:=runValue (.call (.builtin "range.__reversed__") ⟨[.ref r],[]⟩)) (show wpAny _ _ (call (.builtin "range.__reversed__") [.ref r]) _ _ _ from zeA hr h0 h1 ?_)
 first
 | exact wpAny_pure h
 | exact wpAny_bind (wpAny_pure (wpAny_pure h))
theorem zfq (hr:IsRange s.heap r 0 n 1 t u v) (h0:0<=n) (h1:n < 2 ^ 62)
  (h:Q (.ref s.heap.objs.size) { s with heap:=s.heap.push (ziN n) }):wpAny (model prog w) A (call (.type "reversed") [.ref r]) Q E s:=by
 refine callType_other (U := "range_iterator") (Q₁ := fun obj s₁ => obj = .ref s.heap.objs.size/\s₁ = { s with heap:=s.heap.push (ziN n) }) (by decide +kernel) F.create_reversed ⟨_,_,F.mro_reversed⟩ F.made_reversed F.sub_rit_reversed (F.typeCall_reversed_1 _) (zfp hr h0 h1 ⟨rfl,rfl⟩) ?_
 rintro obj s₁ ⟨rfl,rfl⟩
 exact ⟨⟨_,Heap.get?_push_size _ rfl,rfl⟩,h⟩
end
end PySem
namespace L2
open PySem PySem.Spec PyProof.Rows
section
variable {X:Cx} {tg:Expr}
theorem zqO:CallR X (.type "range") (fun xs H Q=>∃ n:Int,xs=[.int n]/\0<=n/\n < 2 ^ 62/\∀ p,H p=none->Q (.ref p) (upd H p (.rng 0 n))):=by
 intro pins s σ H xs us Q I r h
 obtain ⟨n,rfl,h0,h1,q⟩:=h
 obtain ⟨u,rfl,t,rfl⟩:=zcn r
 refine call_range_1 ?_
 exact ⟨.ref s.heap.objs.size,_,I.laid (o := .rng 0 n) (fun b o e=>Heap.get?_push_of_some _ e) (Nat.le_refl _) ⟨_,_,_,Heap.get?_push_size _ rfl⟩,rfl,q _ (I.hok.fresh (Nat.le_refl _))⟩
def iRev (te:TE):TI:=fun σ H R=>te σ H fun x H1=>∃ (p:Addr) (n:Int),[x]=[V.ref p]/\H1 p=some (.rng 0 n)/\0<=n/\n < 2 ^ 62/\R (Itf (fun i => .int (n - 1 - i)) n.toNat) H1
theorem pi_rev {e:Expr} {te:TE} {p pos:Pos} (hg:Gl X "reversed") (hm:X.mg "reversed" = none) (he:PE X e te)
  (hs:autoParam (starEach [e] X.env=[(false,eval e X.env)]) AutoP.a3._auto_1):PI X tg (.Call (.Name "reversed" p) [e] [] pos) (iRev te):=by
 intro pins s σ H R I h
 refine Call_ (zec I hg hm boot_reversed (PyProof.Rows.callWith_type1 (thn (zbO he zeT hs pos pins s σ H (fun xs H1=>∃ (p:Addr) (n:Int),xs=[.ref p]/\H1 p=some (.rng 0 n)/\0<=n/\n < 2 ^ 62/\R (Itf (fun i => .int (n - 1 - i)) n.toNat) H1) I ?_) fun us s1 ⟨vs,H1,I1,r1,q1⟩=>?_) hs rfl))
 ·exact h
 ·obtain ⟨r,n,rfl,hr,h0,h1,q⟩:=q1
  obtain ⟨u,rfl,ru⟩:=zcn r1
  cases ru
  obtain ⟨t,u,v,e⟩:=(show ObjOk X.prog X.w H1 s1.heap r (.rng 0 n) from I1.hok r _ hr)
  refine zfq e h0 h1 ?_
  refine wpAny_pyIter_rangeiter (x:=n - 1) (left:=n) (step := -1) (Heap.get?_push_size _ rfl) ?_
  have I2:Inv X pins σ H1 { s1 with heap:=s1.heap.push (ziN n) }:=I1.kept (t':=s1.toks) fun b o e=>Heap.get?_push_of_some _ e
  refine ⟨s1.heap.objs.size,[s1.heap.objs.size],_,_,H1,rfl,I2,zgb (nm := "range_iterator") (f:=fun i => .int (n - 1 - i)) (n:=n.toNat) (fun A hA=>Walks.range hA _ (n - 1) (-1) n.toNat) (fun i h st=>⟨_,_,st,rfl,rfl⟩) (fun i h h' st k=>k _ (by simp) _ st) (by decide) (fun i v hi hv=>?_) (fun A i s Q E st q=>wpAny_pyIter_rangeiter st q),?_,fun b hb=>?_,q⟩
  ·obtain ⟨t,rfl⟩:=hv
   exact ⟨t,by congr 1; omega⟩
  ·show IsRangeIter _ _ (n - 1+((0:Nat):Int) * (-1)) ((n.toNat:Int) - ((0:Nat):Int)) (-1)
   rw [show n - 1+((0:Nat):Int) * (-1)=n - 1 by omega,show (n.toNat:Int) - ((0:Nat):Int)=n by omega]
   exact Heap.get?_push_size _ rfl
  ·have e:b=s1.heap.objs.size:=by simpa using hb
   subst e
   exact I1.fpOk (Nat.le_refl _) (I1.hok.fresh (Nat.le_refl _))
end
end L2
namespace PySem
open Sem (wp)
open Builtin Builtin.Str
namespace F
end F
end PySem
namespace PySem
open Sem (wp)
open Builtin Builtin.Str
end PySem
namespace L2
open PySem PySem.Spec PyProof.Rows
variable {X:Cx} {pins:List (Addr × Obj)} {σ : St} {H:Hp} {s:Shared} {h':Heap} {t':Nat} {a b:Addr}
theorem Inv.turn2 (I:Inv X pins σ H s) (fa:zfR X pins H a) (fb:zfR X pins H b)
  (k:∀ c o,c≠a->c≠b->s.heap.get? c=some o->h'.get? c=some o):Inv X pins σ H { s with heap:=h',toks:=t' }:=by
 obtain ⟨a0,a1,a2,a3,a4,a5⟩:=fa
 obtain ⟨b0,b1,b2,b3,b4,b5⟩:=fb
 have na:∀ c u,H c=some u->c≠a:=fun c u e z=>by rw [z,a0] at e; cases e
 have nb:∀ c u,H c=some u->c≠b:=fun c u e z=>by rw [z,b0] at e; cases e
 refine I.step (g':=s.gens) (d':=s.drawn) (ch:=[a,b]) (fun c hc=>?_) (fun c o _ _ hc e _=>k c o (fun z=>hc (by simp [z])) (fun z=>hc (by simp [z])) e) (fun c o _ _ hc e _=>⟨o.slots,k c o (fun z=>hc (by simp [z])) (fun z=>hc (by simp [z])) e⟩)
  (fun _ _ _ _ n=>n) (fun c o hc e=>⟨o,k c o (fun z=>hc (by simp [z])) (fun z=>hc (by simp [z])) e⟩) (fun _ _ e=>e) (fun _ _ _ e=>e) (fun c ps e=>⟨#[],by rw [e]; simp⟩) (fun m hm=>?_) (fun c u e=>?_) I.bare
 ·have e:c=a∨c=b:=by simpa using hc
  rcases e with rfl | rfl
  ·exact ⟨a3,a1,a4,a5⟩
  ·exact ⟨b3,b1,b4,b5⟩
 ·obtain ⟨o,es,ep,ho,r⟩:=hm
  exact ⟨o,es,ep,k _ o (Ne.symm a1) (Ne.symm b1) ho,r⟩
 ·refine (I.hok c u e).stay (fun d v hd q=>?_) (fun _ q=>q) fun _ _ q=>q
  rcases hd with z | z
  ·rw [z] at q ⊢
   exact k c v (na c u e) (nb c u e) q
  ·exact k d v (na d _ z) (nb d _ z) q
theorem Inv.turn2l {T:Addr} {o':HO} (I:Inv X pins σ H s) (fa:zfR X pins H a) (fb:zfR X pins H b)
  (k:∀ c o,c≠a->c≠b->s.heap.get? c=some o->h'.get? c=some o) (hT:s.heap.objs.size<=T) (new:ObjOk X.prog X.w (upd H T o') h' T o'):Inv X pins σ (upd H T o') { s with heap:=h',toks:=t' }:=by
 have J:Inv X pins σ H { s with heap:=h',toks:=t' }:=I.turn2 fa fb k
 have hn:H T=none:=I.hok.fresh hT
 obtain ⟨a0,a1,a2,a3,a4,a5⟩:=fa
 obtain ⟨b0,b1,b2,b3,b4,b5⟩:=fb
 have nT:∀ c o,s.heap.get? c=some o->c≠T:=fun c o q=>Nat.ne_of_lt (Nat.lt_of_lt_of_le (Heap.lt_size q) hT)
 refine I.step (g':=s.gens) (d':=s.drawn) (ch:=[a,b]) (fun c hc=>?_) (fun c o _ _ hc e _=>k c o (fun z=>hc (by simp [z])) (fun z=>hc (by simp [z])) e) (fun c o _ _ hc e _=>⟨o.slots,k c o (fun z=>hc (by simp [z])) (fun z=>hc (by simp [z])) e⟩)
  (fun c o _ q n=>by rw [zav (nT c o q)]; exact n) (fun c o hc e=>⟨o,k c o (fun z=>hc (by simp [z])) (fun z=>hc (by simp [z])) e⟩) (fun c xs e=>by rw [zav (zaq e hn)]; exact e) (fun c u xs e=>by rw [zav (zaq e hn)]; exact e)
  (fun c ps e=>⟨#[],by rw [zav (zaq e hn),e]; simp⟩) (fun m hm=>?_) (zgE J.hok hn new) I.bare
 ·have e:c=a∨c=b:=by simpa using hc
  rcases e with rfl | rfl
  ·exact ⟨a3,a1,a4,a5⟩
  ·exact ⟨b3,b1,b4,b5⟩
 ·obtain ⟨o,es,ep,ho,r⟩:=hm
  exact ⟨o,es,ep,k _ o (Ne.symm a1) (Ne.symm b1) ho,r⟩
end L2
namespace PySem
open Sem (wp)
open Builtin
variable {prog:Program} {A:Around} {E:Value->Shared->Prop} {s:Shared} {it l:Addr} {i:Nat} {items:Array Value} {Q:Value->Shared->Prop}
section
variable {w:World}
theorem zgu {x:Value} (hit:s.heap.IsTupleIter it l i) (hl:s.heap.IsTuple l items) (hx:items[i]?=some x)
  (hQ:∀ h',h'.IsTupleIter it l (i+1)->Heap.SameBut it s.heap h'->Q x { s with heap:=h' }):wpAny (model prog w) A (SmallTypes.nextOf (.ref it)) Q E s:=by
 obtain ⟨o,ho,hc,hd⟩:=id hit
 obtain ⟨ol,hol,_,nl,hdl⟩:=hl
 have e0 : ¬ ((Value.ref l == Value.none)=true):=Bool.false_ne_true
 unfold SmallTypes.nextOf
 refine wpAny_bind (wpAny_callSpecial?_slot (name:=Str.ofString "__next__") hit.typeIs F.slot_tuple_iterator_next (wpAny_call_entry F.slot_tuple_iterator_next hit.typeIs F.entry_tuple_iterator_next ?_ (F.args_tuple_iterator_next_1 _)))
 refine wpAny_bind (m:=field (.ref it) 0) (wpAny_field ho hd (x := .ref l) rfl ?_)
 show wpAny _ _ (if (Value.ref l == Value.none)=true then _ else _) _ _ s
 rw [if_neg e0]
 refine wpAny_bind (m:=field (.ref it) 1) (wpAny_field ho hd (x := .int i 0) rfl ?_)
 refine wpAny_bind (m:=seqItems? (.ref l)) (wpAny_seqItems hol hdl ?_)
 simp only [Int.toNat_natCast,hx]
 refine wpAny_bind (wpAny_setField ho hd (by simp) (wpAny_pure ⟨x,rfl,wpAny_pure (hQ _ ⟨_,Heap.get?_update_self _ ho (Obj.isFreed_of_fields (Obj.data_mapFields hd _)),(Obj.cls_mapFields ..).trans hc,?_⟩ (Heap.SameBut.update ..))⟩))
 rw [Obj.data_mapFields hd]
 simp [rawInt]
theorem zhc (hh:A.handled=none) (hit:s.heap.IsTupleIter it l i) (hl:s.heap.IsTuple l items) (hx:items[i]?=none)
  (hE:∀ h' e,Heap.ExtBut it s.heap h'->(∃ o,h'.get? e=some o/\o.cls = .type "StopIteration")->E (.ref e) { s with heap:=h' }):wpAny (model prog w) A (SmallTypes.nextOf (.ref it)) Q E s:=by
 obtain ⟨o,ho,hc,hd⟩:=id hit
 obtain ⟨ol,hol,_,nl,hdl⟩:=hl
 have e0 : ¬ ((Value.ref l == Value.none)=true):=Bool.false_ne_true
 unfold SmallTypes.nextOf
 refine wpAny_bind (wpAny_callSpecial?_slot (name:=Str.ofString "__next__") hit.typeIs F.slot_tuple_iterator_next (wpAny_call_entry F.slot_tuple_iterator_next hit.typeIs F.entry_tuple_iterator_next ?_ (F.args_tuple_iterator_next_1 _)))
 refine wpAny_bind (m:=field (.ref it) 0) (wpAny_field ho hd (x := .ref l) rfl ?_)
 show wpAny _ _ (if (Value.ref l == Value.none)=true then _ else _) _ _ s
 rw [if_neg e0]
 refine wpAny_bind (m:=field (.ref it) 1) (wpAny_field ho hd (x := .int i 0) rfl ?_)
 refine wpAny_bind (m:=seqItems? (.ref l)) (wpAny_seqItems hol hdl ?_)
 simp only [Int.toNat_natCast,hx]
 refine wpAny_bind (wpAny_rule (wpAny_bind (wpAny_setField ho hd (by simp) ?_)))
 show wpAny _ _ (newExc (.type "StopIteration") [] >>= _) _ _ _
 refine wpAny_bind ?_
 simp only [newExc,newTuple]
 refine wpAny_bind (wpAny_newObj_type ?_ (by size_fits))
 refine wpAny_bind (m:=firstArgMember _ _) (wpAny_of_eq (a:=Value.none) (by first | rfl | (simp only [firstArgMember]; rfl)) (wpAny_newObj_type ?_ (by size_fits)))
 simp only [raiseNew]
 have hh1:A.in1.handled=none:=hh
 refine wpAny_bind (wpAny_handled ?_)
 rw [hh1]
 exact wpAny_bind (wpAny_pure (wpAny_throw (hE _ _ (((Heap.SameBut.update ..).extBut.push _).push _) ⟨_,Heap.get?_push_size _ rfl,rfl⟩)))
end
theorem Draws.tup {w:World} (hh:A.handled=none) (it l:Addr) (hne:l≠it) (items:Array Value) :
  Draws prog w A it [it,l] items.size (fun i v=>items[i]?=some v) (fun i h=>h.IsTupleIter it l i/\h.IsTuple l items) where
 live:=fun _ _ st=>let ⟨o,ho,_⟩:=st.1; ⟨o,ho⟩
 frame:=fun _ _ _ st hk=>⟨let ⟨o,ho,r⟩:=st.1; ⟨o,hk it (by simp) o ho,r⟩,let ⟨o,ho,r⟩:=st.2; ⟨o,hk l (by simp) o ho,r⟩⟩
 item:=fun i s Q E hi st hQ=>zgu st.1 st.2 (x:=items[i]) (by simp [hi]) fun h' hit' hs'=>hQ _ h' s.toks (by simp [hi]) ⟨hit',st.2.extBut hs'.extBut hne⟩ hs'
 done:=fun s Q E st hE=>zhc hh st.1 st.2 (by simp) hE
theorem zes (l:Addr) (items:Array Value) :
  Meets (Builtin.«enumerate.__new__» ⟨[.type "enumerate", .ref l],[]⟩) (fun _ R s=>s.heap.IsTuple l items ∧
   R (.ok (.ret (.ref (s.heap.push { cls := .type "tuple_iterator", data := .fields #[.ref l,.int 0 0] }).objs.size)))
    { s with heap:=(s.heap.push { cls := .type "tuple_iterator", data := .fields #[.ref l,.int 0 0] }).push { cls := .type "enumerate", data := .fields #[.none,.bool false,.ref s.heap.objs.size,rawInt 0,.none,.none] } }) :=
 .of_wp fun prog w A R s h=>by
  obtain ⟨hp,g,d,tk,os⟩:=s
  obtain ⟨hL,h⟩:=h
  have hsub:=sub_enumerate
  wp_walk
  refine wpAny_stack_any fun st=>wpAny_pure ?_
  split
  ·rename_i c _ _ _ _ _
   cases (c == Value.type "enumerate") <;> (wp_walk using wpAny_pyIter_tuple hL; exact ⟨_,rfl,h⟩)
  ·wp_walk using wpAny_pyIter_tuple hL
   exact ⟨_,rfl,h⟩
theorem ze5 {w:World} (hL:s.heap.IsTuple l items)
  (h:∀ h',IsEnum h' (s.heap.objs.size+1) s.heap.objs.size 0 .none->h'.IsTupleIter s.heap.objs.size l 0->(∀ b o,s.heap.get? b=some o->h'.get? b=some o)->Q (.ref (s.heap.objs.size+1)) { s with heap:=h' }) :
  wpAny (model prog w) A (call (.type "enumerate") [.ref l]) Q E s:=by
 refine callType_new F.called_enumerate (by decide) (F.typeCall_enumerate_1 _) (F.newCall_enumerate_1 _) (fun obj=>F.args_object_init_2 obj _) F.entry_enumerate_new (zes l items) ⟨hL,?_⟩
 have hz:(s.heap.push { cls := .type "tuple_iterator", data := .fields #[.ref l,.int 0 0] }).objs.size=s.heap.objs.size+1:=Heap.size_push ..
 show _/\_
 rw [hz]
 have he:IsEnum ((s.heap.push { cls := .type "tuple_iterator", data := .fields #[.ref l,.int 0 0] }).push { cls := .type "enumerate", data := .fields #[.none,.bool false,.ref s.heap.objs.size,rawInt 0,.none,.none] }) (s.heap.objs.size+1) s.heap.objs.size 0 .none:=by
  rw [<- hz]; exact Heap.get?_push_size _ rfl
 exact ⟨⟨_,he,rfl⟩,h _ he ⟨_,Heap.get?_push_of_some _ (Heap.get?_push_size _ rfl),rfl,rfl⟩ fun b o e=>Heap.get?_push_of_some _ (Heap.get?_push_of_some _ e)⟩
end PySem
namespace L2
open PySem PySem.Spec PyProof.Rows
structure SeqKind (c:List V->HO) (IsS:Heap->Addr->Array Value->Prop) (IsI:Heap->Addr->Addr->Nat->Prop):Prop where
 obj:∀ h it l i,IsI h it l i->∃ o,h.get? it=some o/\∀ v,o.data ≠ .cell v
 kp:∀ (h h':Heap) it l i,IsI h it l i->(∀ o,h.get? it=some o->h'.get? it=some o)->IsI h' it l i
 seq:∀ (X:Cx) (pins:List (Addr × Obj)) (σ : St) (H:Hp) (s:Shared) (l:Addr) (xs:List V),Inv X pins σ H s->H l=some (c xs)->∃ its:List Value,Vals xs its/\IsS s.heap l its.toArray
 dr:∀ (P:Program) (w:World) (A:Around),A.handled=none->∀ (it l:Addr),l≠it->∀ items:Array Value,Draws P w A it [it,l] items.size (fun i v=>items[i]?=some v) (fun i h=>IsI h it l i/\IsS h l items)
 inj:∀ a b,c a=c b->a=b
theorem seq_lst:SeqKind HO.lst Heap.IsList Heap.IsListIter where
 obj:=fun h it l i st=>by obtain ⟨o,e,_,d⟩:=st; exact ⟨o,e,fun v z=>by rw [d] at z; cases z⟩
 kp:=fun h h' it l i st k=>let ⟨o,e,r⟩:=st; ⟨o,k o e,r⟩
 seq:=fun X pins σ H s l xs I e=>by
  obtain ⟨its,r,p,_⟩:=I.list (SqL.of e)
  exact ⟨its,r,p.isList⟩
 dr:=fun P w A hh it l hne items=>Draws.list hh it l hne items
 inj:=fun a b e=>by cases e; rfl
theorem seq_tup:SeqKind HO.tup Heap.IsTuple Heap.IsTupleIter where
 obj:=fun h it l i st=>by obtain ⟨o,e,_,d⟩:=st; exact ⟨o,e,fun v z=>by rw [d] at z; cases z⟩
 kp:=fun h h' it l i st k=>let ⟨o,e,r⟩:=st; ⟨o,k o e,r⟩
 seq:=fun X pins σ H s l xs I e=>by
  obtain ⟨its,r,p,_⟩:=I.tuple (SqT.of e)
  exact ⟨its,r,p⟩
 dr:=fun P w A hh it l hne items=>Draws.tup hh it l hne items
 inj:=fun a b e=>by cases e; rfl
theorem zen (ns:List Int):∀ j,j<=ns.length->preSum (fun i=>ns.getD i 0) j=(ns.take j).sum
 | 0,_=>by simp [preSum]
 | j+1,h=>by
  have h2:=zen ns j (by omega)
  rw [preSum,h2,List.take_add_one,List.getElem?_eq_getElem (by omega),List.sum_append]
  have hj:j < ns.length:=by omega
  simp [hj]
theorem ziG (B:Int) (hB:0<=B):∀ ns:List Int,(∀ a,a∈ns->0<=a/\a<=B)->0<=ns.sum/\ns.sum<=ns.length * B
 | [],_=>by simp
 | a::r,h=>by
  have h1:=ziG B hB r fun b hb=>h b (List.mem_cons_of_mem _ hb)
  have h2:=h a (by simp)
  rw [List.sum_cons,List.length_cons]
  push_cast
  rw [Int.add_mul]
  omega
theorem zjF {X:Cx} (hc:X.calm=true):CallR X (.builtin "sum") (fun xs H Q=>∃ (l:Addr) (ns:List Int),xs=[.ref l]/\SqL X.K H l (ns.map V.int)/\(∀ a,a∈ns->0<=a/\a<=2 ^ 50)/\ns.length<=1000/\Q (.int ns.sum) H):=by
 intro pins s σ H xs us Q I r h
 obtain ⟨l,ns,rfl,hq,hb,hn,q⟩:=h
 obtain ⟨u,rfl,rx⟩:=zcn r
 cases rx
 obtain ⟨its,r',pl,hz⟩:=I.list hq
 have hl:=pl.isList
 have hlt:l < s.heap.objs.size:=by obtain ⟨_,e,_⟩:=hl; exact Heap.lt_size e
 have hlen:ns.length=its.length:=by rw [<- r'.length,List.length_map]
 have hsum:∀ j,j<=ns.length->0<=preSum (fun i=>ns.getD i 0) j/\preSum (fun i=>ns.getD i 0) j<=1000 * 2 ^ 50:=fun j hj=>by
  rw [zen ns j hj]
  have h1:=ziG (2 ^ 50) (by decide) (ns.take j) fun a ha=>hb a (List.mem_of_mem_take ha)
  have h2:((ns.take j).length:Int)<=1000:=by rw [List.length_take]; omega
  have h3:((ns.take j).length:Int) * 2 ^ 50<=1000 * 2 ^ 50:=Int.mul_le_mul_of_nonneg_right h2 (by decide)
  omega
 refine call_sum_walk (wpAny_pyIter_list hl ?_)
 refine ⟨s.heap.objs.size,_,_,its.toArray.size,_,_,fun i=>ns.getD i 0,rfl,Walks.list (A:=X.A.in1) (I.ok.hd hc) _ l (Nat.ne_of_lt hlt) its.toArray,⟨⟨_,Heap.get?_push_size _ rfl,rfl,rfl⟩,hl.push _⟩,fun b hbm=>?_,fun i v e=>zmT r' e,fun j hj=>?_,fun h' tk t' hk=>?_⟩
 ·have e:b=s.heap.objs.size∨b=l:=by simpa using hbm
  have z:(s.heap.push { cls := .type "list_iterator", data := .fields #[.ref l,.int 0 0] }).objs.size=s.heap.objs.size+1:=Heap.size_push ..
  show b < (s.heap.push { cls := .type "list_iterator", data := .fields #[.ref l,.int 0 0] }).objs.size
  rw [z]
  rcases e with rfl | rfl
  ·exact Nat.lt_succ_self _
  ·exact Nat.lt_succ_of_lt hlt
 ·rw [List.size_toArray,<- hlen] at hj
  have h1:=hsum (j+1) hj
  have h2:=hb (ns.getD j 0) (by rw [zoS hj]; exact List.getElem_mem hj)
  refine ⟨⟨?_,?_⟩,⟨by omega,by omega⟩⟩
  ·show -(2 ^ 63)<=ns.getD j 0
   omega
  ·show ns.getD j 0 < 2 ^ 63
   omega
 ·rw [List.size_toArray,<- hlen,zen ns _ (Nat.le_refl _),List.take_length]
  exact ⟨.int ns.sum,H,I.kept fun b o e=>hk b o (fun z=>Nat.ne_of_lt (Heap.lt_size e) (List.mem_singleton.mp z)) (Heap.get?_push_of_some _ e),⟨t',rfl⟩,q⟩
end L2
namespace PySem
open Sem (wp)
open Builtin
open AutoSeq1 (wpAny_loadPart')
theorem zhP (l:Addr) (items:Array Value) (n:Nat) (dd:Option Addr) (sl:Array (Option Value)) (x:Value) (e:Value->Bool) (j:Nat) (hj:j < items.size) (hit:e items[j]=true) (hno:∀ m (hm:m < items.size),m < j->e items[m]=false) :
  Meets (Builtin.«tuple.index» ⟨[.ref l,x],[]⟩)
   (fun A R s=>s.heap.get? l=some { cls := .type "tuple", dict:=dd,data := .seq items n,slots:=sl }/\(∀ y,y∈items->SeqAt.EqAt A.in1 s y x (e y))/\R (.ok (.ret (.int j s.toks))) { s with toks:=s.toks+1 }) :=
 .of_wp fun prog w A R s h=>by
  obtain ⟨hp,g,d,tk,os⟩:=s
  obtain ⟨hl,he,h⟩:=h
  unfold Builtin.«tuple.index»
  refine wpAny_bind (wpAny_of_eq (a:=(Value.ref l,[x])) rfl ?_)
  refine wpAny_bind (wpAny_tupleItemsOf hl rfl ?_)
  dsimp only
  refine wpAny_bind (wpAny_pure ?_)
  refine wpAny_bind (wpAny_pure ?_)
  rw [Nat.min_self,Std.Legacy.Range.forIn_eq_forIn_range']
  have hz:List.range' ([:items.size]).start ([:items.size]).size ([:items.size]).step=List.range' 0 items.size 1:=by
   simp [Std.Legacy.Range.size]
  rw [hz]
  refine wpAny_bind (wpAny_forIn_list _ (fun rest b s'=>b=(none,())/\s'=⟨hp,g,d,tk,os⟩/\∃ i,i<=j/\rest=List.range' i (items.size - i) 1) _ ?_ ?_ _ _ ⟨rfl,rfl,0,Nat.zero_le _,by simp⟩)
  ·rintro i rest b s' ⟨rfl,rfl,k,hk,hr⟩
   have hks:k < items.size:=by omega
   rw [show items.size - k=(items.size - (k+1))+1 by omega,List.range'_succ] at hr
   obtain ⟨rfl,rfl⟩:=List.cons.inj hr
   have hi:items[i]?=some items[i]:=by simp [hks]
   rw [hi]
   dsimp only
   refine wpAny_bind (he _ (Array.getElem_mem hks) prog w _ _ ?_)
   by_cases hij:i=j
   ·subst hij
    rw [hit,if_pos rfl]
    refine wpAny_bind (wpAny_bind (wpAny_mkInt (wpAny_pure ?_)))
    exact wpAny_pure (wpAny_pure ⟨_,rfl,h⟩)
   ·rw [hno i hks (by omega),if_neg Bool.false_ne_true]
    exact wpAny_pure ⟨rfl,rfl,i+1,by omega,rfl⟩
  ·rintro b s' ⟨rfl,rfl,k,hk,hr⟩
   have:=congrArg List.length hr
   simp at this
   omega
end PySem
namespace L2
open PySem PySem.Spec PyProof.Rows
variable {o:Option V} {y:V} {u:Value}
section
variable {κ : Type} [DecidableEq κ]
def zjX (kvs:List (κ × V)) (k : κ):Option V:=(kvs.find? fun kv=>decide (kv.1=k)).map (·.2)
def zgm (kvs:List (κ × V)) (k : κ) (v:V):List (κ × V) :=
 if (kvs.any fun kv=>decide (kv.1=k))=true then kvs.map (fun kv=>if kv.1=k then (kv.1,v) else kv) else kvs++[(k,v)]
theorem zfS {p : κ × V} {r:List (κ × V)} {k : κ} (e:p.1=k):zjX (p::r) k=some p.2:=by simp [zjX,List.find?_cons,e]
theorem zfT {p : κ × V} {r:List (κ × V)} {k : κ} (e : ¬ p.1=k):zjX (p::r) k=zjX r k:=by simp [zjX,List.find?_cons,e]
theorem zkS (k : κ):∀ kvs:List (κ × V),(kvs.any fun kv=>decide (kv.1=k))=(zjX kvs k).isSome
 | []=>rfl
 | p::r=>by
  rw [List.any_cons]
  by_cases e:p.1=k
  ·simp only [zfS e,decide_eq_true e,Bool.true_or,Option.isSome_some]
  ·rw [zfT e,decide_eq_false e,Bool.false_or]; exact zkS k r
theorem zet (kvs:List (κ × V)) (k : κ) (v:V):(zgm kvs k v).length<=kvs.length+1:=by
 unfold zgm
 split
 ·rw [List.length_map]; omega
 ·rw [List.length_append,List.length_cons,List.length_nil]; omega
theorem RelO.isSome_eq {u:Option Value} (r:RelO o u):o.isSome=u.isSome:=by
 cases o with
 | none=>cases u with
  | none=>rfl
  | some _=>exact (show False from r).elim
 | some _=>cases u with
  | none=>exact (show False from r).elim
  | some _=>rfl
theorem KV.val {kvs:List (κ × V)} {vs:List (κ × Value)} (r:KV kvs vs) (k : κ):RelO (zjX kvs k) (valueAt vs k):=by
 unfold KV at r
 induction r with
 | nil=>exact True.intro
 | @cons p q ps qs h t ih =>
  obtain ⟨h1,h2⟩:=h
  by_cases e:p.1=k
  ·have e':q.1=k:=h1.symm.trans e
   have b:valueAt (q::qs) k=some q.2:=by simp [valueAt,List.find?_cons,e']
   rw [zfS e,b]; exact h2
  ·have e' : ¬ q.1=k:=fun z=>e (h1.trans z)
   have b:valueAt (q::qs) k=valueAt qs k:=by simp [valueAt,List.find?_cons,e']
   rw [zfT e,b]; exact ih
theorem KV.any {kvs:List (κ × V)} {vs:List (κ × Value)} (r:KV kvs vs) (k : κ):(kvs.any fun kv=>decide (kv.1=k))=vs.any fun kv=>decide (kv.1=k):=by
 unfold KV at r
 induction r with
 | nil=>rfl
 | cons h t ih=>rw [List.any_cons,List.any_cons,ih,h.1]
theorem KV.repl {kvs:List (κ × V)} {vs:List (κ × Value)} (r:KV kvs vs) (k : κ) (ry:RelV y u) :
  KV (kvs.map fun kv=>if kv.1=k then (kv.1,y) else kv) (vs.map fun kv=>if kv.1=k then (kv.1,u) else kv):=by
 unfold KV at r ⊢
 induction r with
 | nil=>exact .nil
 | @cons p q ps qs h t ih =>
  rw [List.map_cons,List.map_cons]
  refine .cons ?_ ih
  obtain ⟨h1,h2⟩:=h
  by_cases e:p.1=k
  ·rw [if_pos e,if_pos (h1.symm.trans e)]; exact ⟨h1,ry⟩
  ·rw [if_neg e,if_neg (fun z=>e (h1.trans z))]; exact ⟨h1,h2⟩
theorem KV.put {kvs:List (κ × V)} {vs:List (κ × Value)} (r:KV kvs vs) (k : κ) (ry:RelV y u):KV (zgm kvs k y) (stored vs k u):=by
 unfold zgm stored
 rw [r.any k]
 by_cases e:(vs.any fun kv=>decide (kv.1=k))=true
 ·rw [if_pos e,if_pos e]; exact r.repl k ry
 ·rw [if_neg e,if_neg e]; exact Paired.snoc r ⟨rfl,ry⟩
theorem KV.length {kvs:List (κ × V)} {vs:List (κ × Value)} (r:KV kvs vs):kvs.length=vs.length:=Paired.length r
end
variable {P:Program}
theorem zmt {w:World} {k:Key} (r:RelV (kV k) u):(zbA P w).is k u=true:=by
 cases k with
 | inl i=>obtain ⟨t,e⟩:=(show ∃ t,u=Value.int i t from r); subst e; exact zks P w i t
 | inr x=>obtain ⟨t,e⟩:=(show ∃ t,u=Value.str x t from r); subst e; exact zkr P w x t
theorem zje {P:Program} {w:World}:∀ {ks:List Key} {us:List Value},Vals (ks.map kV) us->ItemsAre (zbA P w) ks us
 | [],_,r=>by rw [List.map_nil] at r; cases r; exact .nil
 | k::ks,_,r=>by
  rw [List.map_cons] at r
  cases r with
  | cons h t=>exact .cons (zmt h) (zje t)
abbrev KT (H:Hp):List (List Key × V)->List (List Key × Addr × Value)->Prop:=Paired fun p q=>p.1=q.1/\H q.2.1=some (.tup (p.1.map kV))/\RelV p.2 q.2.2
variable {kvs:List (List Key × V)} {H:Hp} {xs:List (List Key × Addr × Value)}
theorem KT.val (r:KT H kvs xs) (k:List Key):RelO (zjX kvs k) ((atKey xs k).map (·.2)):=by
 induction r with
 | nil=>exact True.intro
 | @cons p q ps qs h t ih =>
  obtain ⟨h1,_,h2⟩:=h
  by_cases e:p.1=k
  ·have e':q.1=k:=h1.symm.trans e
   have b:atKey (q::qs) k=some q.2:=by simp [atKey,List.find?_cons,e']
   rw [zfS e,b]; exact h2
  ·have e' : ¬ q.1=k:=fun z=>e (h1.trans z)
   have b:atKey (q::qs) k=atKey qs k:=by simp [atKey,List.find?_cons,e']
   rw [zfT e,b]; exact ih
theorem KT.repl (r:KT H kvs xs) (k:List Key) (ry:RelV y u) :
  KT H (kvs.map fun kv=>if kv.1=k then (kv.1,y) else kv) (xs.map (putAt k u)):=by
 induction r with
 | nil=>exact .nil
 | @cons p q ps qs h t ih =>
  rw [List.map_cons,List.map_cons]
  refine .cons ?_ ih
  obtain ⟨h1,h2,h3⟩:=h
  unfold putAt
  by_cases e:p.1=k
  ·rw [if_pos e,if_pos (h1.symm.trans e)]; exact ⟨h1,h2,ry⟩
  ·rw [if_neg e,if_neg (fun z=>e (h1.trans z))]; exact ⟨h1,h2,h3⟩
theorem KT.put (r:KT H kvs xs) (k:List Key) {b:Addr} (hb:H b=some (.tup (k.map kV))) (ry:RelV y u) :
  KT H (zgm kvs k y) (storedH xs k b u):=by
 have e:(kvs.any fun kv=>decide (kv.1=k))=(atKey xs k).isSome:=by
  rw [zkS,(r.val k).isSome_eq,Option.isSome_map]
 unfold zgm storedH
 rw [e]
 by_cases q:(atKey xs k).isSome=true
 ·rw [if_pos q,if_pos q]; exact r.repl k ry
 ·rw [if_neg q,if_neg q]; exact Paired.snoc r ⟨rfl,hb,ry⟩
variable {H':Hp}
theorem KT.keeps (r:KT H kvs xs) (ht:∀ b ys,H b=some (.tup ys)->H' b=some (.tup ys)):KT H' kvs xs :=
 Paired.mapP r fun _ _ z=>⟨z.1,ht _ _ z.2.1,z.2.2⟩
variable {a:Addr}
section
variable {w:World} {h:Heap}
theorem rd_of {u:HO} (ok:HOk P w H h) (e:Rd H a u):ObjOk P w H h a u:=e.ok ok
theorem zmE {kvs:List (Key × V)} (ok:HOk P w H h) (e:Rd H a (.dK kvs)):kvs.length<=sizeLine/\(a == sysModules)=false/\∃ vs,KV kvs vs/\h.DictOf (zbA P w) a vs :=
 show ObjOk P w H h a (.dK kvs) from rd_of ok e
theorem dk_of {kvs:List (Key × V)} (ok:HOk P w H h) (e:H a=some (.dK kvs)):kvs.length<=sizeLine/\(a == sysModules)=false/\∃ vs,KV kvs vs/\h.DictOf (zbA P w) a vs:=zmE ok (.inl e)
theorem zja {ks:List Key} (ok:HOk P w H h) (e:H a=some (.tup (ks.map kV))):(tupleKind (zbA P w)).is h ks a:=by
 obtain ⟨_,its,r,⟨o,h1,h2,n,h3⟩,_⟩:=(show ObjOk P w H h a (.tup (ks.map kV)) from ok a _ e)
 exact ⟨o,its.toArray,n,h1,h2,h3,by simpa using zje r⟩
theorem zo4 (ok:HOk P w H h) (e:Rd H a (.dT kvs)):kvs.length<=sizeLine/\(a == sysModules)=false ∧
  ∃ xs,KT H kvs xs/\h.DictOfH (tupleKind (zbA P w)) a xs:=by
 obtain ⟨z,y,xs,r,o,es,ep,h1,h2,h3,h4,h5⟩:=(show ObjOk P w H h a (.dT kvs) from rd_of ok e)
 refine ⟨z,y,xs,r,o,es,ep,h1,h2,h3,h4,fun x hx=>?_,h5⟩
 have all:∀ {l:List (List Key × V)} {m:List (List Key × Addr × Value)},KT H l m->∀ x∈m,(tupleKind (zbA P w)).is h x.1 x.2.1:=by
  intro l m q
  induction q with
  | nil=>intro x hx; exact nomatch hx
  | @cons p q ps qs hq t ih =>
   intro x hx
   rcases List.mem_cons.mp hx with e | hx
   ·subst e
    exact zja ok (by rw [<- hq.1]; exact hq.2.1)
   ·exact ih x hx
 exact all r x hx
theorem dt_of (ok:HOk P w H h) (e:H a=some (.dT kvs)):kvs.length<=sizeLine/\(a == sysModules)=false ∧
  ∃ xs,KT H kvs xs/\h.DictOfH (tupleKind (zbA P w)) a xs:=zo4 ok (.inl e)
end
def DGet (H:Hp) (a:Addr) (y:V) (r:Option V):Prop :=
 (∃ kvs k,Rd H a (.dK kvs)/\y=kV k/\r=zjX kvs k)∨∃ kvs k b,Rd H a (.dT kvs)/\y = .ref b/\H b=some (.tup (k.map kV))/\r=zjX kvs k
def DPut (H:Hp) (a:Addr) (y v:V) (H':Hp):Prop :=
 (∃ kvs k,H a=some (.dK kvs)/\y=kV k/\kvs.length < sizeLine/\H'=upd H a (.dK (zgm kvs k v))) ∨
 ∃ kvs k b,H a=some (.dT kvs)/\y = .ref b/\H b=some (.tup (k.map kV))/\kvs.length < sizeLine/\H'=upd H a (.dT (zgm kvs k v))
theorem DGet.k {kvs:List (Key × V)} {k:Key} (e:H a=some (.dK kvs)):DGet H a (kV k) (zjX kvs k) := .inl ⟨kvs,k,.inl e,rfl,rfl⟩
variable {v:V}
theorem DPut.k {kvs:List (Key × V)} {k:Key} (e:H a=some (.dK kvs)) (hl:kvs.length < sizeLine):DPut H a (kV k) v (upd H a (.dK (zgm kvs k v))) := .inl ⟨kvs,k,e,rfl,hl,rfl⟩
variable {X:Cx} {pins:List (Addr × Obj)} {σ : St} {s:Shared} {A:Around} {E Q:Value->Shared->Prop} {h':Heap}
section
variable {r:Value}
theorem Inv.big (I:Inv X pins σ H s):sysModules < s.heap.objs.size:=by
 have h:mainGlobals < s.heap.objs.size:=(I.mod.glob.keeps I.bk).lt
 exact Nat.lt_trans (by decide) h
theorem zpc (hu:A.units+1 < cLine) (I:Inv X pins σ H s) (g:DGet H a y (some v)) (ry:RelV y u) (h:∀ w' s',Inv X pins σ H s'->RelV v w'->Q w' s') :
  wpAny (model X.prog X.w) A (getItem (.ref a) u) Q E s:=by
 rcases g with ⟨kvs,k,e,ey,l⟩ | ⟨kvs,k,b,e,ey,eb,l⟩
 ·subst ey
  obtain ⟨z,hd,vs,rel,dd⟩:=zmE I.hok e
  obtain ⟨w',hw,rw'⟩:=RelO.some_of (v:=v) (o:=valueAt vs k) (by rw [l]; exact rel.val k)
  exact wpAny_getItem_of (zmt ry) dd.mapOf hw (h w' _ (I.tok _) rw')
 ·subst ey
  cases (show u=Value.ref b from ry)
  obtain ⟨z,hd,xs,rel,dd⟩:=zo4 I.hok e
  obtain ⟨w',hw,rw'⟩:=RelO.some_of (v:=v) (o:=(atKey xs k).map (·.2)) (by rw [l]; exact rel.val k)
  obtain ⟨p,hp,hp2⟩:=Option.map_eq_some_iff.mp hw
  refine wpAny_getItem_heap (tupleKind_room_in1 hu) (zja I.hok eb) dd hp ?_
  rw [hp2]
  exact h w' _ (I.tok _) rw'
theorem d_in (hu:A.units+1 < cLine) (I:Inv X pins σ H s) (g:DGet H a y o) (ry:RelV y u) (h:∀ s',Inv X pins σ H s'->Q (.bool o.isSome) s') :
  wpAny (model X.prog X.w) A (compareOp .In u (.ref a)) Q E s:=by
 rcases g with ⟨kvs,k,e,ey,l⟩ | ⟨kvs,k,b,e,ey,eb,l⟩
 ·subst ey
  obtain ⟨z,hd,vs,rel,dd⟩:=zmE I.hok e
  refine wpAny_in_of (zmt ry) hd dd.mapOf ?_
  rw [<- (rel.val k).isSome_eq,<- l]
  exact h _ (I.tok _)
 ·subst ey
  cases (show u=Value.ref b from ry)
  obtain ⟨z,hd,xs,rel,dd⟩:=zo4 I.hok e
  refine wpAny_in_heap (tupleKind_room_in1 hu) (zja I.hok eb) hd dd ?_
  have q:=(rel.val k).isSome_eq
  rw [Option.isSome_map] at q
  rw [<- q,<- l]
  exact h _ (I.tok _)
theorem zs9 (hu:A.units+1 < cLine) (I:Inv X pins σ H s) (g:DGet H a y o) (ry:RelV y u) (h:∀ s',Inv X pins σ H s'->Q (.bool (!o.isSome)) s') :
  wpAny (model X.prog X.w) A (compareOp .NotIn u (.ref a)) Q E s:=by
 rcases g with ⟨kvs,k,e,ey,l⟩ | ⟨kvs,k,b,e,ey,eb,l⟩
 ·subst ey
  obtain ⟨z,hd,vs,rel,dd⟩:=zmE I.hok e
  refine wpAny_notIn_of (zmt ry) hd dd.mapOf ?_
  rw [<- (rel.val k).isSome_eq,<- l]
  exact h _ (I.tok _)
 ·subst ey
  cases (show u=Value.ref b from ry)
  obtain ⟨z,hd,xs,rel,dd⟩:=zo4 I.hok e
  refine wpAny_notIn_heap (tupleKind_room_in1 hu) (zja I.hok eb) hd dd ?_
  have q:=(rel.val k).isSome_eq
  rw [Option.isSome_map] at q
  rw [<- q,<- l]
  exact h _ (I.tok _)
theorem zkE {t':Nat} {ob:HO} (I:Inv X pins σ H s) (mu:Mut (H a)) (hs:Heap.SameBut a s.heap h') (he:∃ q,h'.get? a=some q) (new:ObjOk X.prog X.w (upd H a ob) h' a ob) :
  Inv X pins σ (upd H a ob) { s with heap:=h',toks:=t' } :=
 I.write (x:=a) (e:=a) mu (.inl rfl) (fun b q hb z=>(hs.2 b hb).trans z) he new
theorem zrj {w:World} {kvs:List (Key × V)} {vs:List (Key × Value)} (z:kvs.length<=sizeLine) (hd:(a == sysModules)=false) (rel:KV kvs vs) (dd:h'.DictOf (zbA P w) a vs) :
  ObjOk P w H' h' a (.dK kvs):=⟨z,hd,vs,rel,dd⟩
theorem zpb {Q:Unit->Shared->Prop} (hu:A.units+1 < cLine) (I:Inv X pins σ H s) (g:DPut H a y v H') (ry:RelV y u) (rv:RelV v r) (h:∀ s',Inv X pins σ H' s'->Q () s') :
  wpAny (model X.prog X.w) A (setItem (.ref a) u r) Q E s:=by
 rcases g with ⟨kvs,k,e,ey,l,eH⟩ | ⟨kvs,k,b,e,ey,eb,l,eH⟩
 ·subst ey eH
  obtain ⟨z,hd,vs,rel,dd⟩:=dk_of I.hok e
  have hz:vs.length<=sizeLine:=by rw [<- rel.length]; exact z
  have hl:(zgm kvs k v).length<=sizeLine:=by have:=zet kvs k v; omega
  refine wpAny_setItem_pairs (hsz:=hz) (zmt ry) dd fun h' dd' hs=>h _ ?_
  have he:∃ q,h'.get? a=some q:=let ⟨q,_,_,hq,_⟩:=dd'; ⟨q,hq⟩
  exact zkE I (by rw [e]; exact True.intro) hs he (zrj hl hd (rel.put k rv) dd')
 ·subst ey eH
  cases (show u=Value.ref b from ry)
  obtain ⟨z,hd,xs,rel,dd⟩:=dt_of I.hok e
  have hz:xs.length<=sizeLine:=by rw [<- Paired.length rel]; exact z
  have hl:(zgm kvs k v).length<=sizeLine:=by have:=zet kvs k v; omega
  refine wpAny_setItem_heap (hsz:=hz) (tupleKind_room_in1 hu) (zja I.hok eb) dd fun h' dd' hs=>h _ ?_
  obtain ⟨q,es,ep,hq,h2,h3,h4,_,h5⟩:=dd'
  refine zkE I (by rw [e]; exact True.intro) hs ⟨q,hq⟩ ⟨hl,hd,_,(rel.put k eb rv).keeps fun c ys ec=>?_,q,es,ep,hq,h2,h3,h4,h5⟩
  rw [zav (ne_of ec e (fun z=>nomatch z))]
  exact ec
end
section
variable {kvs:List (Key × V)} {k:Key}
theorem d_len (I:Inv X pins σ H s) (e:Rd H a (.dK kvs)) (h:∀ t s',Inv X pins σ H s'->Q (.int kvs.length t) s'):wpAny (model X.prog X.w) A (call (.builtin "len") [.ref a]) Q E s:=by
 obtain ⟨z,hd,vs,rel,dd⟩:=zmE I.hok e
 refine call_len_dict hd dd (by rw [<- rel.length]; rw [sizeLine_eq] at z; omega) ?_
 rw [<- rel.length]
 exact h _ _ (I.tok _)
end
theorem zkD (I:Inv X pins σ H s) (g:DGet H a y o):s.TypeIs (.ref a) "dict" := by
 rcases g with ⟨kvs,k,e,_,_⟩ | ⟨kvs,k,b,e,_,_,_⟩
 ·obtain ⟨_,_,vs,_,dd⟩:=zmE I.hok e
  exact dd.typeIs
 ·obtain ⟨_,_,xs,_,dd⟩:=zo4 I.hok e
  exact dd.typeIs
def sDPut (td ty tv:TE):TS:=fun D σ H=>tv σ H fun v H1=>td σ H1 fun x H2=>ty σ H2 fun y H3=>∃ a H4,x = .ref a/\DPut H3 a y v H4/\D.nx σ H4
variable {pos:Pos} {tv:TE}
section
variable {o i e value:Expr} {pos' tpos:Pos} {td ty:TE}
theorem zse (hu:X.A.units+1 < cLine) (ho:PE X o td) (hi:PE X i ty) (hv:PE X value tv) (hs:swapsWith value (some (.Subscript o i pos')) pos.line X.env=pure false) :
  PS X (.Assign [.Subscript o i pos'] value pos) (sDPut td ty tv):=by
 intro pins s σ H D I h
 refine wpAny_Assign_Subscript (thn (hv pins s σ H _ I h) fun r s1 ⟨v,H1,I1,rv,q1⟩=>thn (ho pins s1 σ H1 _ I1 q1) fun u s2 ⟨x,H2,I2,rx,q2⟩=>thn (hi pins s2 σ H2 _ I2 q2) fun iv s3 ⟨y,H3,I3,ry,a,H4,ex,g,q3⟩=>?_) hs
 subst ex
 obtain rfl:u=Value.ref a:=rx
 exact zpb hu I3 g ry rv fun s4 I4=>⟨σ,H4,I4,q3⟩
end
theorem zlD {w:World} (h:Heap) (hb:sysModules < h.objs.size):ObjOk P w H (h.push { cls := .type "dict", data := .dict #[] }) h.objs.size (.dK []) :=
 ⟨Nat.zero_le _,beq_eq_false_iff_ne.mpr (Ne.symm (Nat.ne_of_lt hb)),[],.nil,Heap.DictOf.new h⟩
def tDNewK:TE:=fun _ H Q=>∀ p,H p=none->Q (.ref p) (upd H p (.dK []))
section
theorem zqe:PE X (.Dict [] [] pos) tDNewK:=fun pins s σ H Q I h =>
 wpAny_Dict_empty ⟨.ref s.heap.objs.size,_,I.laid (a:=s.heap.objs.size) (o := .dK []) (t':=s.toks) (fun _ _ q=>Heap.get?_push_of_some _ q) (Nat.le_refl _) (zlD s.heap I.big),rfl,h _ (I.hok.fresh (Nat.le_refl _))⟩
end
def zkW:List (TE × TE)->St->Hp->(List (V × V)->Hp->Prop)->Prop
 | [],_,H,Q=>Q [] H
 | (tk,tv)::r,σ,H,Q=>tk σ H fun x H1=>tv σ H1 fun y H2=>zkW r σ H2 fun ps H3=>Q ((x,y)::ps) H3
abbrev VV:List (V × V)->List (Value × Value)->Prop:=Paired fun p q=>RelV p.1 q.1/\RelV p.2 q.2
def PPs (X:Cx) (pos:Pos) (keys:List (Option Expr)) (values:List Expr) (trs:List (TE × TE)):Prop :=
 ∀ (pins:List (Addr × Obj)) (s:Shared) (σ : St) (H:Hp) (Q:List (V × V)->Hp->Prop),Inv X pins σ H s->zkW trs σ H Q →
  wpAny (model X.prog X.w) X.A (evalPairs (pairTrees keys values X.env pos)) (fun vs s'=>∃ ps H',Inv X pins σ H' s'/\VV ps vs/\Q ps H') X.xe s
theorem zsf:PPs X pos [] [] []:=fun pins s σ H Q I h=>pairTrees_nil_walk ⟨[],H,I,.nil,h⟩
variable {trs:List (TE × TE)}
theorem zp8 {k v:Expr} {ks:List (Option Expr)} {vs:List Expr} {tk:TE} (hk:PE X k tk) (hv:PE X v tv) (hr:PPs X pos ks vs trs) :
  PPs X pos (some k::ks) (v::vs) ((tk,tv)::trs):=fun pins s σ H Q I h =>
 pairTrees_cons_walk (thn (hk pins s σ H _ I h) fun u s1 ⟨x,H1,I1,rx,q1⟩=>thn (hv pins s1 σ H1 _ I1 q1) fun w2 s2 ⟨y,H2,I2,ry,q2⟩ =>
  thn (hr pins s2 σ H2 _ I2 q2) fun ws s3 ⟨ps,H3,I3,rel,q3⟩=>⟨(x,y)::ps,H3,I3,.cons ⟨rx,ry⟩ rel,q3⟩)
def zdE (kvs more:List (Key × V)):List (Key × V):=more.foldl (fun acc kv=>zgm acc kv.1 kv.2) kvs
theorem KV.merge:∀ {more:List (Key × V)} {rs:List (Key × Value)} {kvs:List (Key × V)} {vs:List (Key × Value)},KV more rs->KV kvs vs->KV (zdE kvs more) (merged vs rs):=by
 intro more rs kvs vs r
 unfold KV at r
 induction r generalizing kvs vs with
 | nil=>intro q; exact q
 | @cons p q ps qs h t ih =>
  intro r0
  have e:KV (zgm kvs p.1 p.2) (stored vs q.1 q.2):=by
   have:=r0.put p.1 h.2
   rw [<- h.1]; exact this
  exact ih e
theorem zeX:∀ (more kvs:List (Key × V)),(zdE kvs more).length<=kvs.length+more.length
 | [],kvs=>by show kvs.length<=kvs.length+0; omega
 | p::r,kvs=>by
  have h1:=zeX r (zgm kvs p.1 p.2)
  have h2:=zet kvs p.1 p.2
  show (zdE (zgm kvs p.1 p.2) r).length<=_
  rw [List.length_cons]; omega
theorem zhF {P:Program} {w:World}:∀ {kvs:List (Key × V)} {ws:List (Value × Value)},VV (kvs.map fun kv=>(kV kv.1,kv.2)) ws->∃ rs,Carries (zbA P w) ws rs/\KV kvs rs
 | [],_,r=>by rw [List.map_nil] at r; cases r; exact ⟨[],True.intro,.nil⟩
 | p::kvs,_,r=>by
  rw [List.map_cons] at r
  cases r with
  | @cons a b as bs h t =>
   obtain ⟨rs,c,q⟩:=zhF (P:=P) (w:=w) t
   obtain ⟨b1,b2⟩:=b
   exact ⟨(p.1,b2)::rs,⟨zmt h.1,rfl,c⟩,.cons ⟨rfl,h.2⟩ q⟩
def tDisp (trs:List (TE × TE)):TE:=fun σ H Q=>∀ p,H p=none->zkW trs σ (upd H p (.dK [])) fun ps H2=>H2 p=some (.dK [])/\∃ kvs:List (Key × V),ps=kvs.map (fun kv=>(kV kv.1,kv.2))/\kvs.length<=15/\Q (.ref p) (upd H2 p (.dK (zdE [] kvs)))
theorem zsr {keys:List (Option Expr)} {values:List Expr} (h:PPs X pos keys values trs) (hall:keys.all (·.isSome)=true) (hl:keys.length=values.length) (h0:keys≠[])
  (h15:keys.length<=15):PE X (.Dict keys values pos) (tDisp trs):=by
 intro pins s σ H Q I q
 have hn:=I.hok.fresh (Nat.le_refl s.heap.objs.size)
 have I1:=I.laid (a:=s.heap.objs.size) (o := .dK []) (h':=s.heap.push { cls := .type "dict", data := .dict #[] }) (t':=s.toks) (fun _ _ q=>Heap.get?_push_of_some _ q) (Nat.le_refl _) (zlD s.heap I.big)
 refine wpAny_Dict_walk (knd:=zbA X.prog X.w) hall hl h0 h15 (thn (h pins _ σ _ _ I1 (q _ hn)) fun ws s2 ⟨ps,H2,I2,rel,e,kvs,ep,lk,q2⟩=>?_)
 subst ep
 obtain ⟨rs,c,rk⟩:=zhF (P:=X.prog) (w:=X.w) rel
 obtain ⟨z,hd,vs0,r0,dd⟩:=dk_of I2.hok e
 cases r0
 refine ⟨rs,c,dd,fun h' dd' hs=>⟨.ref s.heap.objs.size,_,?_,rfl,q2⟩⟩
 have hz:(zdE [] kvs).length<=sizeLine:=by
  have h1:=zeX kvs []
  rw [List.length_nil] at h1
  rw [sizeLine_eq]; omega
 have he:∃ q,h'.get? s.heap.objs.size=some q:=let ⟨q,_,_,hq,_⟩:=dd'; ⟨q,hq⟩
 exact zkE I2 (by rw [e]; exact True.intro) hs he (zrj hz hd (rk.merge .nil) dd')
section
theorem op_isT:OpR X (compareOp .Is) (fun x y H Q=>∃ b c,x = .bl b/\y = .bl c/\Q (.bl (b == c)) H):=by
 intro pins s σ H x y v u Q I rx ry h
 obtain ⟨b,c,rfl,rfl,q⟩:=h
 cases rx
 cases ry
 exact is_bool ⟨.bl (b == c),H,I,rfl,q⟩
theorem zqi:OpR X (compareOp .IsNot) (fun x y H Q=>∃ b c,x = .bl b/\y = .bl c/\Q (.bl (b != c)) H):=by
 intro pins s σ H x y v u Q I rx ry h
 obtain ⟨b,c,rfl,rfl,q⟩:=h
 cases rx
 cases ry
 exact isnot_bool ⟨.bl (b != c),H,I,rfl,q⟩
end
end L2
namespace PySem
open Sem (wp)
open Builtin
variable {prog:Program} {A:Around} {E:Value->Shared->Prop} {s:Shared} {a b:Value} {z i1 i2:Addr} {fp1 fp2:List Addr} {n1 n2:Nat} {P1 P2:Nat->Value->Prop} {S1 S2:Nat->Heap->Prop} {Q:Value->Shared->Prop}
section
variable {w:World}
theorem zgg {h h':Heap} {c T:Addr} (hs:Heap.SameBut c h h') (n:T≠c) (e:IsPair h T a b):IsPair h' T a b:=(hs.2 T n).trans e
theorem zg0 {TI TO:Addr} {k:Nat}
  (D1:Draws prog w A i1 fp1 n1 P1 S1) (D2:Draws prog w A i2 fp2 n2 P2 S2) (hz:IsZip s.heap z TI TO .none) (hTI:IsPair s.heap TI (.ref i1) (.ref i2)) (hTO:IsPair s.heap TO a b)
  (h1:S1 k s.heap) (h2:S2 k s.heap) (k1:k < n1) (k2:k < n2) (nTO:TO≠z) (nTI:TI≠z) (n1z:i1≠z) (n2z:i2≠z) (n1T:i1≠TO) (n2T:i2≠TO)
  (f1z:z ∉ fp1) (f1T:TO ∉ fp1) (f12:i2 ∉ fp1) (f2z:z ∉ fp2) (f2T:TO ∉ fp2) (f21:i1 ∉ fp2)
  (hQ:∀ x y h' tk,P1 k x->P2 k y->IsZip h' z TI TO (rawInt s.heap.objs.size)->IsPair h' TO x y->S1 (k+1) h'->S2 (k+1) h'->IsPair h' s.heap.objs.size x y->h'.objs.size=s.heap.objs.size+1 →
   (∀ c o,c≠z->c≠TO->c≠i1->c≠i2->s.heap.get? c=some o->h'.get? c=some o)->Q (.ref s.heap.objs.size) { s with heap:=h',toks:=tk }) :
  wpAny (model prog w) A (Builtin.«zip.__next__» ⟨[.ref z],[]⟩) (fun fin s'=>∃ v,fin = .done (.ret v)/\Q v s') E s:=by
 show wpAny _ _ (field (.ref z) 2 >>= _) _ _ s
 refine wpAny_bind (wpAny_field hz rfl (x := .bool false) rfl ?_)
 refine wpAny_bind (wpAny_field hz rfl (x := .ref TI) rfl ?_)
 refine wpAny_bind (wpAny_seqItems hTI rfl ?_)
 refine wpAny_bind (m:=SmallTypes.ownedTupleIsFree (.ref z)) (wpAny_bind (wpAny_field hz rfl (x := .none) rfl (wpAny_pure ?_)))
 show wpAny _ _ (if true=true then _ else _) _ _ s
 rw [if_pos rfl]
 refine wpAny_bind (wpAny_rule ?_)
 refine wpAny_bind (wpAny_field hz rfl (x := .ref TO) rfl ?_)
 refine wpAny_bind (wpAny_setField_rec hz (by simp) fun g1 hz1 hs1=>?_)
 have st1:S1 k g1:=D1.frame k _ _ h1 fun c hc o e=>(hs1.2 c fun q=>f1z (q ▸ hc)).trans e
 have st2:S2 k g1:=D2.frame k _ _ h2 fun c hc o e=>(hs1.2 c fun q=>f2z (q ▸ hc)).trans e
 have hTO1:=zgg hs1 nTO hTO
 refine wpAny_bind ?_
 show wpAny _ _ (forIn [(Value.ref i1,0),(Value.ref i2,1)] _ _) _ _ _
 rw [List.forIn_cons]
 refine wpAny_bind (wpAny_bind (wpAny_onRaise ?_))
 refine wpAny_bind (m:=SmallTypes.nextOf (.ref i1)) (D1.item k { s with heap:=g1 } _ _ k1 st1 fun x g2 tk2 px st1' hs2=>wpAny_pure ?_)
 have hTO2:=zgg hs2 (Ne.symm n1T) hTO1
 refine wpAny_bind (wpAny_seqItems hTO2 rfl ?_)
 refine wpAny_bind (wpAny_updateSeq_pair hTO2 fun g3 hTO3 hs3=>?_)
 refine wpAny_bind (wpAny_letGo (wpAny_pure ?_))
 have hTO3:IsPair g3 TO x b:=hTO3
 have st2':S2 k g3:=D2.frame k _ _ st2 fun c hc o e=>(hs3.2 c fun q=>f2T (q ▸ hc)).trans ((hs2.2 c fun q=>f21 (q ▸ hc)).trans e)
 show wpAny _ _ (forIn [(Value.ref i2,1)] _ _) _ _ _
 rw [List.forIn_cons]
 refine wpAny_bind (wpAny_bind (wpAny_onRaise ?_))
 refine wpAny_bind (m:=SmallTypes.nextOf (.ref i2)) (D2.item k { s with heap:=g3,toks:=tk2 } _ _ k2 st2' fun y g4 tk4 py st2'' hs4=>wpAny_pure ?_)
 have hTO4:=zgg hs4 (Ne.symm n2T) hTO3
 refine wpAny_bind (wpAny_seqItems hTO4 rfl ?_)
 refine wpAny_bind (wpAny_updateSeq_pair hTO4 fun g5 hTO5 hs5=>?_)
 refine wpAny_bind (wpAny_letGo (wpAny_pure ?_))
 have hTO5:IsPair g5 TO x y:=hTO5
 show wpAny _ _ (forIn [] _ _) _ _ _
 rw [List.forIn_nil]
 refine wpAny_pure ?_
 refine wpAny_bind (wpAny_seqItems hTO5 rfl ?_)
 refine wpAny_bind (wpAny_newTuple ?_)
 have hz5:IsZip g5 z TI TO .ellipsis:=(hs5.2 z (Ne.symm nTO)).trans ((hs4.2 z (Ne.symm n2z)).trans ((hs3.2 z (Ne.symm nTO)).trans ((hs2.2 z (Ne.symm n1z)).trans hz1)))
 have sz5:g5.objs.size=s.heap.objs.size:=by rw [hs5.1,hs4.1,hs3.1,hs2.1,hs1.1]
 have hz6:=Heap.get?_push_of_some { cls:=Value.type "tuple", data:=Data.seq #[x,y] } hz5
 refine wpAny_bind (m:=SmallTypes.ownedTupleHandOut _ _) ?_
 refine wpAny_bind (m:=setField _ 0 _) (wpAny_setField_rec hz6 (by simp) fun g7 hz7 hs7=>?_)
 refine wpAny_setField_rec hz7 (by simp) fun g8 hz8 hs8=>?_
 have lt:∀ {c:Addr} {o:Obj},s.heap.get? c=some o->c < g5.objs.size:=fun e=>by rw [sz5]; exact Heap.lt_size e
 have nw:g5.objs.size≠z:=Nat.ne_of_gt (Heap.lt_size hz5)
 have fr:∀ c o,c≠z->g5.get? c=some o->g8.get? c=some o:=fun c o n e=>(hs8.2 c n).trans ((hs7.2 c n).trans (Heap.get?_push_of_some _ e))
 have up:∀ c o,c≠z->c≠TO->c≠i2->g2.get? c=some o->g8.get? c=some o:=fun c o c1 c2 c3 e=>fr c o c1 ((hs5.2 c c2).trans ((hs4.2 c c3).trans ((hs3.2 c c2).trans e)))
 have hnew:g8.get? g5.objs.size=some { cls:=Value.type "tuple", data:=Data.seq #[x,y] }:=(hs8.2 _ nw).trans ((hs7.2 _ nw).trans (Heap.get?_push_size _ rfl))
 have sz8:g8.objs.size=s.heap.objs.size+1:=by
  rw [hs8.1]
  show g7.objs.size=_
  rw [hs7.1]
  show (g5.push _).objs.size=_
  rw [Heap.size_push,sz5]
 have hz8':IsZip g8 z TI TO (rawInt s.heap.objs.size):=by
  rw [<- sz5]
  exact hz8
 refine wpAny_pure ⟨_,rfl,?_⟩
 show Q (Value.ref g5.objs.size) { s with heap:=g8,toks:=tk4 }
 rw [sz5] at hnew ⊢
 refine hQ x y g8 tk4 px py hz8' (fr _ _ nTO hTO5) (D1.frame _ _ _ st1' fun c hc o e=>up c o (fun q=>f1z (q ▸ hc)) (fun q=>f1T (q ▸ hc)) (fun q=>f12 (q ▸ hc)) e) (D2.frame _ _ _ st2'' fun c hc o e=>fr c o (fun q=>f2z (q ▸ hc)) ((hs5.2 c fun q=>f2T (q ▸ hc)).trans e)) hnew sz8 fun c o c1 c2 c3 c4 e=>up c o c1 c2 c4 ((hs2.2 c c3).trans ((hs1.2 c c1).trans e))
theorem zhI {TI TO:Addr}
  (D1:Draws prog w A i1 fp1 n1 P1 S1) (hz:IsZip s.heap z TI TO .none) (hTI:IsPair s.heap TI (.ref i1) (.ref i2)) (hTO:IsPair s.heap TO a b)
  (h1:S1 n1 s.heap) (nTO:TO≠z) (n1z:i1≠z) (f1z:z ∉ fp1)
  (hE:∀ h' e,(∃ o,h'.get? e=some o/\o.cls = .type "StopIteration")->(∀ c o,c≠z->c≠TO->c≠i1->c≠i2->s.heap.get? c=some o->h'.get? c=some o)->E (.ref e) { s with heap:=h' }) :
  wpAny (model prog w) A (Builtin.«zip.__next__» ⟨[.ref z],[]⟩) (fun fin s'=>∃ v,fin = .done (.ret v)/\Q v s') E s:=by
 show wpAny _ _ (field (.ref z) 2 >>= _) _ _ s
 refine wpAny_bind (wpAny_field hz rfl (x := .bool false) rfl ?_)
 refine wpAny_bind (wpAny_field hz rfl (x := .ref TI) rfl ?_)
 refine wpAny_bind (wpAny_seqItems hTI rfl ?_)
 refine wpAny_bind (m:=SmallTypes.ownedTupleIsFree (.ref z)) (wpAny_bind (wpAny_field hz rfl (x := .none) rfl (wpAny_pure ?_)))
 show wpAny _ _ (if true=true then _ else _) _ _ s
 rw [if_pos rfl]
 refine wpAny_bind (wpAny_rule ?_)
 refine wpAny_bind (wpAny_field hz rfl (x := .ref TO) rfl ?_)
 refine wpAny_bind (wpAny_setField_rec hz (by simp) fun g1 hz1 hs1=>?_)
 have st1:S1 n1 g1:=D1.frame n1 _ _ h1 fun c hc o e=>(hs1.2 c fun q=>f1z (q ▸ hc)).trans e
 refine wpAny_bind ?_
 show wpAny _ _ (forIn [(Value.ref i1,0),(Value.ref i2,1)] _ _) _ _ _
 rw [List.forIn_cons]
 refine wpAny_bind (wpAny_bind (wpAny_onRaise ?_))
 refine wpAny_bind (m:=SmallTypes.nextOf (.ref i1)) (D1.done { s with heap:=g1 } _ _ st1 fun g2 e hs2 he=>?_)
 have hz2:g2.get? z=some _:=hs2 z _ (Ne.symm n1z) hz1
 refine wpAny_setField_rec hz2 (by simp) fun g3 hz3 hs3=>?_
 obtain ⟨oe,e1,e2⟩:=he
 have ez:e≠z:=fun q=>by
  rw [q,hz2] at e1
  cases e1
  exact absurd (Value.type.inj e2) (by decide)
 exact hE g3 e ⟨oe,(hs3.2 e ez).trans e1,e2⟩ fun c o c1 c2 c3 c4 q=>(hs3.2 c c1).trans (hs2 c o c3 ((hs1.2 c c1).trans q))
theorem zdw {TI TO:Addr} {k:Nat} {Q:Option Value->Shared->Prop}
  (D1:Draws prog w A.in1 i1 fp1 n1 P1 S1) (D2:Draws prog w A.in1 i2 fp2 n2 P2 S2) (hz:IsZip s.heap z TI TO .none) (hTI:IsPair s.heap TI (.ref i1) (.ref i2)) (hTO:IsPair s.heap TO a b)
  (h1:S1 k s.heap) (h2:S2 k s.heap) (k1:k < n1) (k2:k < n2) (nTO:TO≠z) (nTI:TI≠z) (n1z:i1≠z) (n2z:i2≠z) (n1T:i1≠TO) (n2T:i2≠TO)
  (f1z:z ∉ fp1) (f1T:TO ∉ fp1) (f12:i2 ∉ fp1) (f2z:z ∉ fp2) (f2T:TO ∉ fp2) (f21:i1 ∉ fp2)
  (hQ:∀ x y h' tk,P1 k x->P2 k y->IsZip h' z TI TO (rawInt s.heap.objs.size)->IsPair h' TO x y->S1 (k+1) h'->S2 (k+1) h'->IsPair h' s.heap.objs.size x y->h'.objs.size=s.heap.objs.size+1 →
   (∀ c o,c≠z->c≠TO->c≠i1->c≠i2->s.heap.get? c=some o->h'.get? c=some o)->Q (some (.ref s.heap.objs.size)) { s with heap:=h',toks:=tk }) :
  wpAny (model prog w) A (pyNext (.ref z)) Q E s:=by
 have hT:s.TypeIs (.ref z) "zip" := ⟨_,hz,rfl⟩
 exact wpAny_bind (wpAny_attempt (wpAny_callSpecial?_slot hT F.slot_zip_next (wpAny_call_entry F.slot_zip_next hT F.entry_zip_next
  (zg0 D1 D2 hz hTI hTO h1 h2 k1 k2 nTO nTI n1z n2z n1T n2T f1z f1T f12 f2z f2T f21 fun x y h' tk a0 b0 a1 a2 a3 a4 a5 a6 a7=>wpAny_pure (hQ x y h' tk a0 b0 a1 a2 a3 a4 a5 a6 a7)) (F.args_zip_next_1 (Value.ref z)))))
theorem zdy {TI TO:Addr} {Q:Option Value->Shared->Prop}
  (D1:Draws prog w A.in1 i1 fp1 n1 P1 S1) (hz:IsZip s.heap z TI TO .none) (hTI:IsPair s.heap TI (.ref i1) (.ref i2)) (hTO:IsPair s.heap TO a b)
  (h1:S1 n1 s.heap) (nTO:TO≠z) (n1z:i1≠z) (f1z:z ∉ fp1)
  (hQ:∀ h',(∀ c o,c≠z->c≠TO->c≠i1->c≠i2->s.heap.get? c=some o->h'.get? c=some o)->Q none { s with heap:=h' }) :
  wpAny (model prog w) A (pyNext (.ref z)) Q E s:=by
 have hT:s.TypeIs (.ref z) "zip" := ⟨_,hz,rfl⟩
 exact wpAny_bind (wpAny_attempt (wpAny_callSpecial?_slot hT F.slot_zip_next (wpAny_call_entry F.slot_zip_next hT F.entry_zip_next
  (zhI D1 hz hTI hTO h1 nTO n1z f1z fun h' e he k=>let ⟨o,ho,hc⟩:=he; wpAny_bind (wpAny_isInstance ⟨o,ho,hc⟩ isSubtype_stop (wpAny_pure (hQ h' k)))) (F.args_zip_next_1 (Value.ref z)))))
end
def zpH (h:Heap) (o1 o2:Obj):Heap :=
 ((((h.push o1).push o2).push { cls := .type "tuple", data := .seq #[.ref h.objs.size,.ref (h.push o1).objs.size] }).push { cls := .type "tuple", data := .seq #[.none,.none] }).push
  { cls := .type "zip", data := .fields #[.none,.bool false,.bool false,.ref ((h.push o1).push o2).objs.size,.ref (((h.push o1).push o2).push { cls := .type "tuple", data := .seq #[.ref h.objs.size,.ref (h.push o1).objs.size] }).objs.size] }
abbrev tIt (l:Addr):Obj:={ cls := .type "tuple_iterator", data := .fields #[.ref l,.int 0 0] }
abbrev lIt (l:Addr):Obj:={ cls := .type "list_iterator", data := .fields #[.ref l,.int 0 0] }
theorem zi7 (l1 l2:Addr) (xs ys:Array Value) :
  Meets (Builtin.«zip.__new__» ⟨[.type "zip", .ref l1,.ref l2],[]⟩) (fun _ R s=>s.heap.IsTuple l1 xs/\s.heap.IsList l2 ys ∧
   R (.ok (.ret (.ref ((((s.heap.push (tIt l1)).push (lIt l2)).push { cls := .type "tuple", data := .seq #[.ref s.heap.objs.size,.ref (s.heap.push (tIt l1)).objs.size] }).push { cls := .type "tuple", data := .seq #[.none,.none] }).objs.size)))
    { s with heap:=zpH s.heap (tIt l1) (lIt l2) }) :=
 .of_wp fun prog w A R s h=>by
  obtain ⟨hp,g,d,tk,os⟩:=s
  obtain ⟨hl1,hl2,h⟩:=h
  have hsub:=sub_zip
  have hL1:=hl1
  have hL2:=Heap.IsList.push hl2 (tIt l1)
  wp_walk using wpAny_pyIter_tuple hL1,wpAny_pyIter_list hL2
  exact ⟨_,rfl,h⟩
variable {l2:Addr} {xs:Array Value}
theorem zkH {w:World} {l1:Addr} {ys:Array Value} (h1:s.heap.IsTuple l1 xs) (h2:s.heap.IsList l2 ys)
  (h:∀ h',IsZip h' (s.heap.objs.size+4) (s.heap.objs.size+2) (s.heap.objs.size+3) .none->IsPair h' (s.heap.objs.size+2) (.ref s.heap.objs.size) (.ref (s.heap.objs.size+1))->IsPair h' (s.heap.objs.size+3) .none .none →
   h'.IsTupleIter s.heap.objs.size l1 0->h'.IsListIter (s.heap.objs.size+1) l2 0->(∀ b o,s.heap.get? b=some o->h'.get? b=some o)->Q (.ref (s.heap.objs.size+4)) { s with heap:=h' }) :
  wpAny (model prog w) A (call (.type "zip") [.ref l1,.ref l2]) Q E s:=by
 refine callType_new F.called_zip (by decide) (F.typeCall_zip_2 _ _) (F.newCall_zip_2 _ _) (fun obj=>F.args_object_init_3 obj _ _) F.entry_zip_new (zi7 l1 l2 xs ys) ⟨h1,h2,?_⟩
 have z1:(s.heap.push (tIt l1)).objs.size=s.heap.objs.size+1:=Heap.size_push ..
 have z2:((s.heap.push (tIt l1)).push (lIt l2)).objs.size=s.heap.objs.size+2:=by rw [Heap.size_push,z1]
 have z3:(((s.heap.push (tIt l1)).push (lIt l2)).push { cls := .type "tuple", data := .seq #[.ref s.heap.objs.size,.ref (s.heap.push (tIt l1)).objs.size] }).objs.size=s.heap.objs.size+3:=by rw [Heap.size_push,z2]
 have z4:((((s.heap.push (tIt l1)).push (lIt l2)).push { cls := .type "tuple", data := .seq #[.ref s.heap.objs.size,.ref (s.heap.push (tIt l1)).objs.size] }).push { cls := .type "tuple", data := .seq #[.none,.none] }).objs.size=s.heap.objs.size+4:=by rw [Heap.size_push,z3]
 have g5:IsZip (zpH s.heap (tIt l1) (lIt l2)) (s.heap.objs.size+4) (s.heap.objs.size+2) (s.heap.objs.size+3) .none:=by
  rw [<- z4,<- z3,<- z2]
  exact Heap.get?_push_size _ rfl
 have g4:IsPair (zpH s.heap (tIt l1) (lIt l2)) (s.heap.objs.size+3) .none .none:=by
  rw [<- z3]
  exact Heap.get?_push_of_some _ (Heap.get?_push_size _ rfl)
 have g3:IsPair (zpH s.heap (tIt l1) (lIt l2)) (s.heap.objs.size+2) (.ref s.heap.objs.size) (.ref (s.heap.objs.size+1)):=by
  rw [<- z2,<- z1]
  exact Heap.get?_push_of_some _ (Heap.get?_push_of_some _ (Heap.get?_push_size _ rfl))
 have g2:(zpH s.heap (tIt l1) (lIt l2)).get? (s.heap.objs.size+1)=some (lIt l2):=by
  rw [<- z1]
  exact Heap.get?_push_of_some _ (Heap.get?_push_of_some _ (Heap.get?_push_of_some _ (Heap.get?_push_size _ rfl)))
 have g1:(zpH s.heap (tIt l1) (lIt l2)).get? s.heap.objs.size=some (tIt l1):=Heap.get?_push_of_some _ (Heap.get?_push_of_some _ (Heap.get?_push_of_some _ (Heap.get?_push_of_some _ (Heap.get?_push_size _ rfl))))
 show _/\_
 rw [z4]
 exact ⟨⟨_,g5,rfl⟩,h _ g5 g3 g4 ⟨_,g1,rfl,rfl⟩ ⟨_,g2,rfl,rfl⟩ fun b o e=>Heap.get?_push_of_some _ (Heap.get?_push_of_some _ (Heap.get?_push_of_some _ (Heap.get?_push_of_some _ (Heap.get?_push_of_some _ e))))⟩
theorem zi6 (l1 l2:Addr) (xs ys:Array Value) :
  Meets (Builtin.«zip.__new__» ⟨[.type "zip", .ref l1,.ref l2],[]⟩) (fun _ R s=>s.heap.IsTuple l1 xs/\s.heap.IsTuple l2 ys ∧
   R (.ok (.ret (.ref ((((s.heap.push (tIt l1)).push (tIt l2)).push { cls := .type "tuple", data := .seq #[.ref s.heap.objs.size,.ref (s.heap.push (tIt l1)).objs.size] }).push { cls := .type "tuple", data := .seq #[.none,.none] }).objs.size)))
    { s with heap:=zpH s.heap (tIt l1) (tIt l2) }) :=
 .of_wp fun prog w A R s h=>by
  obtain ⟨hp,g,d,tk,os⟩:=s
  obtain ⟨hl1,hl2,h⟩:=h
  have hsub:=sub_zip
  have hL1:=hl1
  have hL2:=Heap.IsTuple.push hl2 (tIt l1)
  wp_walk using wpAny_pyIter_tuple hL1,wpAny_pyIter_tuple hL2
  exact ⟨_,rfl,h⟩
theorem zkG {w:World} {l1:Addr} {ys:Array Value} (h1:s.heap.IsTuple l1 xs) (h2:s.heap.IsTuple l2 ys)
  (h:∀ h',IsZip h' (s.heap.objs.size+4) (s.heap.objs.size+2) (s.heap.objs.size+3) .none->IsPair h' (s.heap.objs.size+2) (.ref s.heap.objs.size) (.ref (s.heap.objs.size+1))->IsPair h' (s.heap.objs.size+3) .none .none →
   h'.IsTupleIter s.heap.objs.size l1 0->h'.IsTupleIter (s.heap.objs.size+1) l2 0->(∀ b o,s.heap.get? b=some o->h'.get? b=some o)->Q (.ref (s.heap.objs.size+4)) { s with heap:=h' }) :
  wpAny (model prog w) A (call (.type "zip") [.ref l1,.ref l2]) Q E s:=by
 refine callType_new F.called_zip (by decide) (F.typeCall_zip_2 _ _) (F.newCall_zip_2 _ _) (fun obj=>F.args_object_init_3 obj _ _) F.entry_zip_new (zi6 l1 l2 xs ys) ⟨h1,h2,?_⟩
 have z1:(s.heap.push (tIt l1)).objs.size=s.heap.objs.size+1:=Heap.size_push ..
 have z2:((s.heap.push (tIt l1)).push (tIt l2)).objs.size=s.heap.objs.size+2:=by rw [Heap.size_push,z1]
 have z3:(((s.heap.push (tIt l1)).push (tIt l2)).push { cls := .type "tuple", data := .seq #[.ref s.heap.objs.size,.ref (s.heap.push (tIt l1)).objs.size] }).objs.size=s.heap.objs.size+3:=by rw [Heap.size_push,z2]
 have z4:((((s.heap.push (tIt l1)).push (tIt l2)).push { cls := .type "tuple", data := .seq #[.ref s.heap.objs.size,.ref (s.heap.push (tIt l1)).objs.size] }).push { cls := .type "tuple", data := .seq #[.none,.none] }).objs.size=s.heap.objs.size+4:=by rw [Heap.size_push,z3]
 have g5:IsZip (zpH s.heap (tIt l1) (tIt l2)) (s.heap.objs.size+4) (s.heap.objs.size+2) (s.heap.objs.size+3) .none:=by
  rw [<- z4,<- z3,<- z2]
  exact Heap.get?_push_size _ rfl
 have g4:IsPair (zpH s.heap (tIt l1) (tIt l2)) (s.heap.objs.size+3) .none .none:=by
  rw [<- z3]
  exact Heap.get?_push_of_some _ (Heap.get?_push_size _ rfl)
 have g3:IsPair (zpH s.heap (tIt l1) (tIt l2)) (s.heap.objs.size+2) (.ref s.heap.objs.size) (.ref (s.heap.objs.size+1)):=by
  rw [<- z2,<- z1]
  exact Heap.get?_push_of_some _ (Heap.get?_push_of_some _ (Heap.get?_push_size _ rfl))
 have g2:(zpH s.heap (tIt l1) (tIt l2)).get? (s.heap.objs.size+1)=some (tIt l2):=by
  rw [<- z1]
  exact Heap.get?_push_of_some _ (Heap.get?_push_of_some _ (Heap.get?_push_of_some _ (Heap.get?_push_size _ rfl)))
 have g1:(zpH s.heap (tIt l1) (tIt l2)).get? s.heap.objs.size=some (tIt l1):=Heap.get?_push_of_some _ (Heap.get?_push_of_some _ (Heap.get?_push_of_some _ (Heap.get?_push_of_some _ (Heap.get?_push_size _ rfl))))
 show _/\_
 rw [z4]
 exact ⟨⟨_,g5,rfl⟩,h _ g5 g3 g4 ⟨_,g1,rfl,rfl⟩ ⟨_,g2,rfl,rfl⟩ fun b o e=>Heap.get?_push_of_some _ (Heap.get?_push_of_some _ (Heap.get?_push_of_some _ (Heap.get?_push_of_some _ (Heap.get?_push_of_some _ e))))⟩
end PySem
namespace L2
open PySem PySem.Spec PyProof.Rows
variable {X:Cx} {pins:List (Addr × Obj)} {σ : St} {H:Hp} {s:Shared} {h':Heap} {t':Nat} {ch:List Addr}
theorem Inv.turnN (I:Inv X pins σ H s) (fa:∀ b∈ch,zfR X pins H b)
  (k:∀ c o,c ∉ ch->s.heap.get? c=some o->h'.get? c=some o):Inv X pins σ H { s with heap:=h',toks:=t' }:=by
 have na:∀ c u,H c=some u->c ∉ ch:=fun c u e z=>by have:=(fa c z).1; rw [e] at this; cases this
 refine I.step (g':=s.gens) (d':=s.drawn) (ch:=ch) (fun c hc=>?_) (fun c o _ _ hc e _=>k c o hc e) (fun c o _ _ hc e _=>⟨o.slots,k c o hc e⟩)
  (fun _ _ _ _ n=>n) (fun c o hc e=>⟨o,k c o hc e⟩) (fun _ _ e=>e) (fun _ _ _ e=>e) (fun c ps e=>⟨#[],by rw [e]; simp⟩) (fun m hm=>?_) (fun c u e=>?_) I.bare
 ·obtain ⟨a0,a1,a2,a3,a4,a5⟩:=fa c hc
  exact ⟨a3,a1,a4,a5⟩
 ·obtain ⟨o,es,ep,ho,r⟩:=hm
  exact ⟨o,es,ep,k _ o (fun z=>(fa _ z).2.1 rfl) ho,r⟩
 ·refine (I.hok c u e).stay (fun d v hd q=>?_) (fun _ q=>q) fun _ _ q=>q
  rcases hd with z | z
  ·rw [z] at q ⊢
   exact k c v (na c u e) q
  ·exact k d v (na d _ z) q
theorem Inv.turnNl {T:Addr} {o':HO} (I:Inv X pins σ H s) (fa:∀ b∈ch,zfR X pins H b)
  (k:∀ c o,c ∉ ch->s.heap.get? c=some o->h'.get? c=some o) (hT:s.heap.objs.size<=T) (new:ObjOk X.prog X.w (upd H T o') h' T o'):Inv X pins σ (upd H T o') { s with heap:=h',toks:=t' }:=by
 have J:Inv X pins σ H { s with heap:=h',toks:=t' }:=I.turnN fa k
 have hn:H T=none:=I.hok.fresh hT
 have nT:∀ c o,s.heap.get? c=some o->c≠T:=fun c o q=>Nat.ne_of_lt (Nat.lt_of_lt_of_le (Heap.lt_size q) hT)
 refine I.step (g':=s.gens) (d':=s.drawn) (ch:=ch) (fun c hc=>?_) (fun c o _ _ hc e _=>k c o hc e) (fun c o _ _ hc e _=>⟨o.slots,k c o hc e⟩)
  (fun c o _ q n=>by rw [zav (nT c o q)]; exact n) (fun c o hc e=>⟨o,k c o hc e⟩) (fun c xs e=>by rw [zav (zaq e hn)]; exact e) (fun c u xs e=>by rw [zav (zaq e hn)]; exact e)
  (fun c ps e=>⟨#[],by rw [zav (zaq e hn),e]; simp⟩) (fun m hm=>?_) (zgE J.hok hn new) I.bare
 ·obtain ⟨a0,a1,a2,a3,a4,a5⟩:=fa c hc
  exact ⟨a3,a1,a4,a5⟩
 ·obtain ⟨o,es,ep,ho,r⟩:=hm
  exact ⟨o,es,ep,k _ o (fun z=>(fa _ z).2.1 rfl) ho,r⟩
end L2
namespace PySem
open Sem (wp)
open Builtin
theorem zji (a:Int) (t:Tok) (l:Addr) (items:Array Value) (n:Nat) (dd:Option Addr) (sl:Array (Option Value)) :
  Meets (Builtin.«int.__rmul__» ⟨[.int a t,.ref l],[]⟩) (fun _ R s=>s.heap.get? l=some ⟨.type "tuple", dd,.seq items n,sl⟩/\R (.ok (.ret .notImplemented)) s) :=
 .of_wp fun prog w A R s h=>by
  obtain ⟨hp,g,d,tk,os⟩:=s
  obtain ⟨hl,h⟩:=h
  wp_walk
  exact ⟨_,rfl,h⟩
theorem zfN:fillsNumberSlot (Value.type "tuple") "mul" = pure false:=PySem.fillsNumberSlot_seq F.slot_tuple_mul.lookup (by first | rfl | decide) F.slot_tuple_rmul.lookup (by first | rfl | decide)
theorem ziO:seqRepeat? (Value.type "tuple")=pure (some (Value.builtin "tuple.__mul__")):=by
 unfold seqRepeat?
 have h1:seqSlot? (Value.type "tuple") (Str.ofString "__mul__")=_:=PySem.seqSlot_of F.slot_tuple_mul.lookup (by first | rfl | decide)
 have h2:seqSlot? (Value.type "tuple") (Str.ofString "__rmul__")=_:=PySem.seqSlot_of F.slot_tuple_rmul.lookup (by first | rfl | decide)
 rw [h1,h2]
 rfl
theorem zpF (l:Addr) (v:Value) (t:Tok) (n:Nat) (dd:Option Addr) (sl:Array (Option Value)) :
  Meets (Builtin.«tuple.__mul__» ⟨[.ref l,.int 1 t],[]⟩) (fun _ R s=>s.heap.get? l=some ⟨.type "tuple", dd,.seq #[v] n,sl⟩/\R (.ok (.ret (.ref l))) s) :=
 .of_wp fun prog w A R s h=>by
  obtain ⟨hp,g,d,tk,os⟩:=s
  obtain ⟨hl,h⟩:=h
  unfold Builtin.«tuple.__mul__»
  wp_walk
  exact ⟨_,rfl,h⟩
theorem zfF (v:Value):∀ (n:Nat) (a:Array Value),List.foldl (fun x1 x2=>x1++x2) a (List.replicate n #[v])=a++(List.replicate n v).toArray
 | 0,a=>by simp
 | n+1,a=>by
  rw [List.replicate_succ,List.foldl_cons,zfF v n,List.replicate_succ]
  apply Array.ext'
  simp
theorem zlx (v:Value) (n:Nat):List.foldl (fun x1 x2=>x1++x2) #[] (List.replicate n #[v])=(List.replicate n v).toArray:=by rw [zfF]; simp
theorem zpE (l:Addr) (v:Value) (x:Int) (t:Tok) (n:Nat) (dd:Option Addr) (sl:Array (Option Value)) (h2:2<=x) (h3:x<=1000) :
  Meets (Builtin.«tuple.__mul__» ⟨[.ref l,.int x t],[]⟩) (fun _ R s=>s.heap.get? l=some ⟨.type "tuple", dd,.seq #[v] n,sl⟩ ∧
   R (.ok (.ret (.ref s.heap.objs.size))) { s with heap:=s.heap.push { cls := .type "tuple", data := .seq (List.foldl (fun x1 x2=>x1++x2) #[] (List.replicate x.toNat #[v])) } }) :=
 .of_wp fun prog w A R s h=>by
  obtain ⟨hp,g,d,tk,os⟩:=s
  obtain ⟨hl,h⟩:=h
  have e1:(decide (x < -2 ^ 63) || decide (x ≥ 2 ^ 63))=false:=by simp; omega
  have e2:((#[v]:Array Value).isEmpty || x == 1)=false:=by simp; omega
  have e3:(decide (x<=0) || (#[v]:Array Value).isEmpty)=false:=by simp; omega
  have e4 : ¬ (((#[v]:Array Value).size:Int) * x>(2 ^ 63 - 1) / 8):=by simp; omega
  have e5:Builtin.Tuple.tupleTooMany (((#[v]:Array Value).size:Int) * x)=false:=by
   unfold Builtin.Tuple.tupleTooMany
   have:(sizeLine:Int)=16777216:=by decide
   rw [this]
   simp
   omega
  unfold Builtin.«tuple.__mul__»
  wp_walk
  rw [e1,if_neg Bool.false_ne_true]
  refine wpAny_bind (m:=Builtin.Tuple.tupleItemsOf _) (wpAny_bind (wpAny_seqItems hl rfl (wpAny_pure ?_)))
  show wpAny _ _ (if ((#[v]:Array Value).isEmpty || x == 1)=true then _ else _) _ _ _
  rw [e2,if_neg Bool.false_ne_true]
  show wpAny _ _ (if (decide (x<=0) || (#[v]:Array Value).isEmpty)=true then _ else _) _ _ _
  rw [e3,if_neg Bool.false_ne_true]
  show wpAny _ _ (if (((#[v]:Array Value).size:Int) * x>(2 ^ 63 - 1) / 8) then _ else _) _ _ _
  rw [if_neg e4]
  show wpAny _ _ (if Builtin.Tuple.tupleTooMany (((#[v]:Array Value).size:Int) * x)=true then _ else _) _ _ _
  rw [e5,if_neg Bool.false_ne_true]
  refine wpAny_bind (m:=Builtin.Tuple.tupleExact _) (wpAny_newObj_type (wpAny_pure ⟨_,rfl,h⟩) ?_)
  rw [zlx]
  show (List.replicate x.toNat v).toArray.size<=sizeLine
  rw [List.size_toArray,List.length_replicate]
  have:sizeLine=16777216:=by decide
  omega
end PySem
namespace L2
open PySem PySem.Spec PyProof.Rows
section
variable {X:Cx}
theorem zkR {v:V} {u:Value} (r:RelV v u):∀ n:Nat,Vals (List.replicate n v) (List.replicate n u)
 | 0 => .nil
 | n+1 => .cons r (zkR r n)
end
end L2
namespace Mth
open PySem PyProof.Rows
theorem zqK (xs:Array Nat) (a n:Nat) (h:a+n<=xs.size):List.filterMap (fun i=>xs[i]?) ((List.range n).map fun k=>a+k)=(xs.toList.drop a).take n:=by
 induction n with
 | zero=>simp
 | succ n ih =>
  rw [List.range_succ,List.map_append,List.filterMap_append,ih (by omega),List.take_add_one]
  have h1:a+n < xs.size:=by omega
  simp [h1]
theorem slice_mid (z:Str) (a b:Nat) (h1:a<=b) (h2:b<=z.cps.size):(Txt.slice z (some (a:Int)) (some (b:Int))).cps.toList=(z.cps.toList.drop a).take (b - a):=by
 unfold Txt.slice
 have hl:z.length=z.cps.size:=rfl
 rw [hl,StrLaws.strSliceIndices_plain h1 h2,List.length_map,List.length_range]
 split
 ·rename_i h
  have h3:b - a=z.cps.size:=by simpa using h
  have ha:a=0:=by omega
  subst ha
  rw [List.drop_zero,List.take_of_length_le (by simp; omega)]
 ·exact zqK z.cps a (b - a) (by omega)
end Mth
namespace L2
open PySem PySem.Spec PyProof.Rows
variable {X:Cx}
end L2
namespace PySem
open Sem (wp)
open Builtin
end PySem
namespace L2
open PySem PySem.Spec PyProof.Rows
end L2
set_option autoImplicit false
namespace MD
open PySem PySem.Spec PyProof.Rows L2
inductive D where
 | non | bl (b:Bool) | int (i:Int) | str (x:Str) | flt (b:UInt64) | byt (b:Array UInt8) | ob (k:Nat) | tup (xs:List D) | lst (xs:List D) | scr (xs:List D)
 | exn (c:Str) (ds:List D)
inductive MO where
 | lst (xs:List D) | dct (kvs:List (L2.Key × D)) | ins (c:Str) (fs:List (Str × D))
 | hid
abbrev Sto:=List MO
abbrev En:=List (Option D)
structure Exc where
 cls:Str
 args:List D
inductive Res (α : Type) where
 | ok (a:α) (m:Sto) | exc (c:Exc) (m:Sto) | bad
def Res.bind {α β : Type} (r:Res α) (k:α -> Sto->Res β):Res β := match r with
 | .ok a m=>k a m
 | .exc c m => .exc c m
 | .bad => .bad
def Post {α : Type} (r:Res α) (Q:α -> Sto->Prop) (E:Exc->Sto->Prop):Prop:=match r with
 | .ok a m=>Q a m
 | .exc c m=>E c m
 | .bad=>False
def TupAt (K:PySem.W.Frag) (H:Hp) (a:Addr) (xs:List V):Prop :=
 H a=some (.tup xs)∨∃ (o:Obj) (its:Array Value) (n:Nat),K.lookup a=some o/\o.cls = .type "tuple" /\ o.dict=none/\o.data = .seq its n/\its.size<=sizeLine/\Vals xs its.toList
variable {K:PySem.W.Frag} {H:Hp} {a:Addr} {xs:List V}
theorem TupAt.sq (h:TupAt K H a xs):SqT K H a xs:=by
 rcases h with h | ⟨o,its,n,h1,h2,_,h3,h4,h5⟩
 ·exact .inl (.inl h)
 ·exact .inr ⟨o,its,n,h1,h2,h3,h4,h5⟩
def KL (K:PySem.W.Frag) (a:Addr) (xs:List V):Prop:=∃ (o:Obj) (its:Array Value) (n:Nat),K.lookup a=some o/\o.cls = .type "list" /\ o.dict=none/\o.data = .seq its n/\its.size<=sizeLine/\Vals xs its.toList
def LstAt (K:PySem.W.Frag) (α : List Addr) (H:Hp) (a:Addr) (xs:List V):Prop:=(a ∉ α /\ Rd H a (.lst xs))∨KL K a xs
variable {α : List Addr}
theorem LstAt.sq (h:LstAt K α H a xs):SqL K H a xs:=by
 rcases h with h | h
 ·exact .inl h.2
 ·exact .inr h
def zro (C:Value) (dd:Option Addr) (e:Addr):Heap->Prop:=fun h=>∃ o vs,h.get? e=some o/\o.cls=C/\o.dict=dd/\o.data = .fields vs
def XdAt (H:Hp) (dd:Option Addr) (xs:List V):Prop:=(dd=none/\xs=[])∨∃ dx x,dd=some dx/\xs=[x]/\H dx=some (.xd [("row", x)])
mutual
def Rep (K:PySem.W.Frag) (α : List Addr) (H:Hp):D->V->Prop
 | .non,v=>v = .non
 | .bl b,v=>v = .bl b
 | .int i,v=>v = .int i
 | .str x,v=>v = .str x
 | .flt x,v=>v = .flt x
 | .byt x,v=>v = .byt x
 | .ob k,v=>∃ a,α[k]?=some a/\v = .ref a
 | .tup ds,v=>∃ a xs,v = .ref a/\TupAt K H a xs/\RepL K α H ds xs
 | .lst ds,v=>∃ a xs,v = .ref a/\a ∉ α /\ Rd H a (.lst xs)/\RepL K α H ds xs
 | .scr ds,v=>∃ a xs,v = .ref a/\LstAt K α H a xs/\RepL K α H ds xs
 | .exn c ds,v=>∃ a C dd xs,v = .ref a/\PySem.W.nsIn K mainGlobals c=some (some (.ref C))/\H a=some (.ext (zro (.ref C) dd a))/\XdAt H dd xs/\RepL K α H ds xs
def RepL (K:PySem.W.Frag) (α : List Addr) (H:Hp):List D->List V->Prop
 | [],vs=>vs=[]
 | d::ds,vs=>∃ v r,vs=v::r/\Rep K α H d v/\RepL K α H ds r
end
def RepKV (K:PySem.W.Frag) (α : List Addr) (H:Hp):List (L2.Key × D)->List (L2.Key × V)->Prop
 | [],vs=>vs=[]
 | d::ds,vs=>∃ v r,vs=(d.1,v)::r/\Rep K α H d.2 v/\RepKV K α H ds r
def RepF (K:PySem.W.Frag) (α : List Addr) (H:Hp):List (Str × D)->List (Str × V)->Prop
 | [],vs=>vs=[]
 | d::ds,vs=>∃ v r,vs=(d.1,v)::r/\Rep K α H d.2 v/\RepF K α H ds r
def MoRep (K:PySem.W.Frag) (cl:Str->Addr) (α : List Addr) (H:Hp) (a:Addr):MO->Prop
 | .lst ds=>∃ xs,H a=some (.lst xs)/\RepL K α H ds xs
 | .dct ds=>∃ xs,H a=some (.dK xs)/\RepKV K α H ds xs
 | .ins c ds=>∃ dx xs,H a=some (.ins (cl c) dx xs)/\RepF K α H ds xs
 | .hid=>∃ o xs,H a=some (.frz o (.dK xs))
structure Wd (K:PySem.W.Frag) (cl:Str->Addr) (α : List Addr) (m:Sto) (H:Hp):Prop where
 len:α.length=m.length
 nd:α.Nodup
 at':∀ (k:Nat) (a:Addr) (o:MO),α[k]?=some a->m[k]?=some o->MoRep K cl α H a o
structure Ext (α : List Addr) (H:Hp) (α':List Addr) (H':Hp):Prop where
 pre:∃ β,α'=α ++ β /\ ∀ b ∈ β,H b=none
 keep:∀ a o,H a=some o->a ∉ α -> H' a=some o
 there:∀ a∈α,H' a≠none
 frzs:∀ a o u,H a=some (.frz o u)->H' a=some (.frz o u)
variable {cl:Str->Addr} {α' α2:List Addr} {m m':Sto} {H' H2:Hp} {u:HO} {d:D} {v:V} {ds:List D} {vs:List V} {o:MO} {p:Addr}
section
theorem Wd.is (W:Wd K cl α m H) (ha:a∈α):(∃ xs,H a=some (.lst xs))∨(∃ xs,H a=some (.dK xs))∨(∃ c dx xs,H a=some (.ins c dx xs))∨∃ o xs,H a=some (.frz o (.dK xs)):=by
 obtain ⟨k,hk,rfl⟩:=List.mem_iff_getElem.mp ha
 have hm:k < m.length:=by rw [<- W.len]; exact hk
 have h:=W.at' k α[k] m[k] (by simp [hk]) (by simp [hm])
 cases e:m[k] with
 | lst ds=>rw [e] at h; obtain ⟨xs,h,_⟩:=h; exact .inl ⟨xs,h⟩
 | dct ds=>rw [e] at h; obtain ⟨xs,h,_⟩:=h; exact .inr (.inl ⟨xs,h⟩)
 | ins c ds=>rw [e] at h; obtain ⟨dx,xs,h,_⟩:=h; exact .inr (.inr (.inl ⟨_,dx,xs,h⟩))
 | hid=>rw [e] at h; obtain ⟨o,xs,h⟩:=h; exact .inr (.inr (.inr ⟨o,xs,h⟩))
theorem Wd.has (W:Wd K cl α m H) (ha:a∈α):H a≠none:=by
 rcases W.is ha with ⟨_,h⟩ | ⟨_,h⟩ | ⟨_,_,_,h⟩ | ⟨_,_,h⟩ <;> rw [h] <;> exact fun z=>nomatch z
theorem Wd.notup (W:Wd K cl α m H) (h:Rd H a (.tup xs)):a ∉ α := fun ha=>by
 rcases h with h | ⟨o,h⟩ <;> rcases W.is ha with ⟨_,e⟩ | ⟨_,e⟩ | ⟨_,_,_,e⟩ | ⟨_,_,e⟩ <;> rw [h] at e <;> cases e
theorem Wd.noext (W:Wd K cl α m H) {φ : Heap->Prop} (h:H a=some (.ext φ)):a ∉ α := fun ha=>by
 rcases W.is ha with ⟨_,e⟩ | ⟨_,e⟩ | ⟨_,_,_,e⟩ | ⟨_,_,e⟩ <;> rw [h] at e <;> cases e
theorem Wd.noxd (W:Wd K cl α m H) {fs:List (Str × V)} (h:H a=some (.xd fs)):a ∉ α := fun ha=>by
 rcases W.is ha with ⟨_,e⟩ | ⟨_,e⟩ | ⟨_,_,_,e⟩ | ⟨_,_,e⟩ <;> rw [h] at e <;> cases e
theorem Ext.rd (E:Ext α H α' H') (h:Rd H a u) (n:a ∉ α):Rd H' a u:=by
 rcases h with h | ⟨o,h⟩
 ·exact .inl (E.keep a _ h n)
 ·exact .inr ⟨o,E.keep a _ h n⟩
theorem Rd.ne (h:Rd H a u):H a≠none:=by
 rcases h with h | ⟨o,h⟩ <;> rw [h] <;> exact fun z=>nomatch z
theorem Ext.sqt (E:Ext α H α' H') (W:Wd K cl α m H) (h:SqT K H a xs):SqT K H' a xs:=by
 rcases h with h | h
 ·exact .inl (E.rd h (W.notup h))
 ·exact .inr h
structure Kp (α : List Addr) (H:Hp) (α':List Addr) (H':Hp):Prop where
 pre:∃ β,α'=α ++ β
 tup:∀ a xs,H a=some (.tup xs)->H' a=some (.tup xs)
 lst:∀ a xs,a ∉ α -> Rd H a (.lst xs)->a ∉ α'/\Rd H' a (.lst xs)
 ext:∀ a φ,H a=some (.ext φ)->H' a=some (.ext φ)
 xd:∀ a fs,H a=some (.xd fs)->H' a=some (.xd fs)
theorem Ext.kp (E:Ext α H α' H') (W:Wd K cl α m H):Kp α H α' H':=⟨let ⟨β,e,_⟩:=E.pre; ⟨β,e⟩,fun a xs h=>E.keep a _ h (W.notup (.inl h)),fun a xs n h=>⟨fun z=>by
  obtain ⟨β,rfl,hb⟩:=E.pre
  rcases List.mem_append.mp z with z | z
  ·exact n z
  ·exact Rd.ne h (hb a z),E.rd h n⟩,(fun a φ h=>E.keep a _ h (W.noext h)),(fun a fs h=>E.keep a _ h (W.noxd h))⟩
theorem Kp.xdAt (E:Kp α H α' H') {dd:Option Addr} (h:XdAt H dd xs):XdAt H' dd xs:=by
 rcases h with h | ⟨dx,x,h1,h2,h3⟩
 ·exact .inl h
 ·exact .inr ⟨dx,x,h1,h2,E.xd _ _ h3⟩
theorem Kp.lstAt (E:Kp α H α' H') (h:LstAt K α H a xs):LstAt K α' H' a xs:=by
 rcases h with h | h
 ·exact .inl (E.lst a xs h.1 h.2)
 ·exact .inr h
mutual
theorem Rep.kp (E:Kp α H α' H'):∀ {d:D} {v:V},Rep K α H d v->Rep K α' H' d v
 | .non,_,h=>by simpa [Rep] using h
 | .bl _,_,h=>by simpa [Rep] using h
 | .int _,_,h=>by simpa [Rep] using h
 | .str _,_,h=>by simpa [Rep] using h
 | .flt _,_,h=>by simpa [Rep] using h
 | .byt _,_,h=>by simpa [Rep] using h
 | .ob k,_,h=>by
  rw [Rep] at h ⊢
  obtain ⟨a,h1,h2⟩:=h
  obtain ⟨β,rfl⟩:=E.pre
  exact ⟨a,by rw [List.getElem?_append_left (List.getElem?_eq_some_iff.mp h1).1]; exact h1,h2⟩
 | .tup ds,_,h=>by
  rw [Rep] at h ⊢
  obtain ⟨a,xs,e,h1,h2⟩:=h
  refine ⟨a,xs,e,?_,RepL.kp E h2⟩
  rcases h1 with h1 | h1
  ·exact .inl (E.tup a xs h1)
  ·exact .inr h1
 | .lst ds,_,h=>by
  rw [Rep] at h ⊢
  obtain ⟨a,xs,e,n,h1,h2⟩:=h
  exact ⟨a,xs,e,(E.lst a xs n h1).1,(E.lst a xs n h1).2,RepL.kp E h2⟩
 | .scr ds,_,h=>by
  rw [Rep] at h ⊢
  obtain ⟨a,xs,e,h1,h2⟩:=h
  exact ⟨a,xs,e,E.lstAt h1,RepL.kp E h2⟩
 | .exn c ds,_,h=>by
  rw [Rep] at h ⊢
  obtain ⟨a,C,dd,xs,e,n,h1,h2,h3⟩:=h
  exact ⟨a,C,dd,xs,e,n,E.ext _ _ h1,E.xdAt h2,RepL.kp E h3⟩
theorem RepL.kp (E:Kp α H α' H'):∀ {ds:List D} {vs:List V},RepL K α H ds vs->RepL K α' H' ds vs
 | [],_,h=>by rw [RepL] at h ⊢; exact h
 | _::_,_,h=>by
  rw [RepL] at h ⊢
  obtain ⟨v,r,e,h1,h2⟩:=h
  exact ⟨v,r,e,Rep.kp E h1,RepL.kp E h2⟩
end
theorem Rep.mono (W:Wd K cl α m H) (E:Ext α H α' H') (h:Rep K α H d v):Rep K α' H' d v:=h.kp (E.kp W)
theorem RepL.mono (W:Wd K cl α m H) (E:Ext α H α' H') (h:RepL K α H ds vs):RepL K α' H' ds vs:=h.kp (E.kp W)
theorem Ext.refl (W:Wd K cl α m H):Ext α H α H:=⟨⟨[],by simp,fun _ h=>nomatch h⟩,fun _ _ h _=>h,fun _ h=>W.has h,fun _ _ _ h=>h⟩
theorem Ext.trans (a:Ext α H α' H') (b:Ext α' H' α2 H2):Ext α H α2 H2:=by
 obtain ⟨β,rfl,hb⟩:=a.pre
 obtain ⟨γ,rfl,hc⟩:=b.pre
 refine ⟨⟨β ++ γ,by simp,fun c h=>?_⟩,fun x o h n=>b.keep x o (a.keep x o h n) fun z=>?_,fun x h=>b.there x (List.mem_append_left _ h),fun x o u h=>b.frzs x o u (a.frzs x o u h)⟩
 ·rcases List.mem_append.mp h with h | h
  ·exact hb c h
  ·cases e:H c with
   | none=>rfl
   | some o =>
    by_cases hm:c∈α
    ·exact absurd (hc c h) (a.there c hm)
    ·have:=a.keep c o e hm
     rw [hc c h] at this
     cases this
 ·rcases List.mem_append.mp z with z | z
  ·exact n z
  ·rw [hb x z] at h
   cases h
theorem Ext.of_same (W:Wd K cl α m H) (s:Same H H'):Ext α H α H':=by
 refine ⟨⟨[],by simp,fun _ h=>nomatch h⟩,fun a o h _=>s a o h,fun a ha z=>?_,fun a o u h=>s a _ h⟩
 cases e:H a with
 | none=>exact W.has ha e
 | some o=>rw [s a o e] at z; cases z
theorem RepKV.kp (E:Kp α H α' H'):∀ {ds:List (L2.Key × D)} {vs:List (L2.Key × V)},RepKV K α H ds vs->RepKV K α' H' ds vs
 | [],_,h=>h
 | _::_,_,⟨v,r,e,h1,h2⟩=>⟨v,r,e,Rep.kp E h1,RepKV.kp E h2⟩
theorem RepF.kp (E:Kp α H α' H'):∀ {ds:List (Str × D)} {vs:List (Str × V)},RepF K α H ds vs->RepF K α' H' ds vs
 | [],_,h=>h
 | _::_,_,⟨v,r,e,h1,h2⟩=>⟨v,r,e,Rep.kp E h1,RepF.kp E h2⟩
theorem RepKV.mono (W:Wd K cl α m H) (E:Ext α H α' H') {ds:List (L2.Key × D)} {vs:List (L2.Key × V)} (h:RepKV K α H ds vs):RepKV K α' H' ds vs:=h.kp (E.kp W)
theorem RepF.mono (W:Wd K cl α m H) (E:Ext α H α' H') {ds:List (Str × D)} {vs:List (Str × V)} (h:RepF K α H ds vs):RepF K α' H' ds vs:=h.kp (E.kp W)
theorem MoRep.kp (E:Kp α H α' H') (s:∀ o,H a=some o->H' a=some o):∀ {o:MO},MoRep K cl α H a o->MoRep K cl α' H' a o
 | .lst _,⟨xs,h1,h2⟩=>⟨xs,s _ h1,h2.kp E⟩
 | .dct _,⟨xs,h1,h2⟩=>⟨xs,s _ h1,h2.kp E⟩
 | .ins _ _,⟨dx,xs,h1,h2⟩=>⟨dx,xs,s _ h1,h2.kp E⟩
 | .hid,⟨o,xs,h1⟩=>⟨o,xs,s _ h1⟩
theorem MoRep.mono (W:Wd K cl α m H) (E:Ext α H α' H') (s:∀ o,H a=some o->H' a=some o) (h:MoRep K cl α H a o):MoRep K cl α' H' a o:=h.kp (E.kp W) s
theorem Wd.same (W:Wd K cl α m H) (s:Same H H'):Wd K cl α m H':=⟨W.len,W.nd,fun k a o h1 h2=>(W.at' k a o h1 h2).mono W (Ext.of_same W s) fun o h=>s a o h⟩
theorem Wd.join (W:Wd K cl α m H) (hn:p ∉ α) (kp:Kp α H (α ++ [p]) (upd H p u)) (h:MoRep K cl (α ++ [p]) (upd H p u) p o):Wd K cl (α ++ [p]) (m++[o]) (upd H p u):=by
 refine ⟨by rw [List.length_append,List.length_append,W.len]; rfl,?_,fun k a o' h1 h2=>?_⟩
 ·rw [List.nodup_append]
  exact ⟨W.nd,by simp,fun a ha b hb e=>hn (by rw [<- List.mem_singleton.mp hb,<- e]; exact ha)⟩
 ·by_cases hk:k < α.length
  ·rw [List.getElem?_append_left hk] at h1
   rw [List.getElem?_append_left (by rw [<- W.len]; exact hk)] at h2
   exact (W.at' k a o' h1 h2).kp kp fun o h=>by rw [zav (fun z=>hn (by rw [<- z]; exact List.mem_of_getElem? h1))]; exact h
  ·have hk2:k=α.length:=by
    have:=(List.getElem?_eq_some_iff.mp h1).1
    rw [List.length_append] at this
    have:[p].length=1:=rfl
    omega
   subst hk2
   rw [List.getElem?_append_right (Nat.le_refl _)] at h1
   rw [W.len,List.getElem?_append_right (Nat.le_refl _)] at h2
   simp at h1 h2
   subst h1 h2
   exact h
theorem Wd.new (W:Wd K cl α m H) (hp:H p=none) (h:MoRep K cl (α ++ [p]) (upd H p u) p o):Wd K cl (α ++ [p]) (m++[o]) (upd H p u)/\Ext α H (α ++ [p]) (upd H p u):=by
 have s:Same H (upd H p u):=fun b o e=>by rw [zav (zaq e hp)]; exact e
 have E:Ext α H (α ++ [p]) (upd H p u):=⟨⟨[p],rfl,fun b hb=>by rw [List.mem_singleton.mp hb]; exact hp⟩,fun a o h _=>s a o h,(Ext.of_same W s).there,fun a o u h=>s a _ h⟩
 exact ⟨W.join (fun z=>W.has z hp) (E.kp W) h,E⟩
end
theorem ex3 {A B C:Type} {P Q R:A->B->C->Prop} {G:Prop} (h:∃ a b c,P a b c/\Q a b c/\R a b c) (k:∀ a b c,P a b c->Q a b c->R a b c->G):G:=h.elim fun a h=>h.elim fun b h=>h.elim fun c h=>k a b c h.1 h.2.1 h.2.2
abbrev XD:=Exc->List Addr->Sto->Hp->Prop
abbrev RD (τ : Type) := τ -> List Addr->Sto->Hp->Prop
variable {τ : Type}
def PQ (K:PySem.W.Frag) (cl:Str->Addr) (ex:XD) (r:Res τ) (α : List Addr) (H:Hp) (R:RD τ):Prop :=
 Post r (fun d m'=>∀ α' H',Ext α H α' H'->Wd K cl α' m' H'->R d α' m' H') fun c m'=>∀ α' H',Ext α H α' H'->Wd K cl α' m' H'->ex c α' m' H'
structure RepE (K:PySem.W.Frag) (α : List Addr) (H:Hp) (ρ : En) (σ : L2.St):Prop where
 len:ρ.length=σ.length
 at':∀ (i:Nat) (d:D),ρ[i]?=some (some d)->∃ v,σ[i]?=some (some v)/\Rep K α H d v
variable {ex:XD} {i:Nat} {R:RD τ} {Q:VK}
section
variable {ρ ρ':En} {σ σ':L2.St} {υ : Type}
theorem RepE.mono (W:Wd K cl α m H) (E:Ext α H α' H') (h:RepE K α H ρ σ):RepE K α' H' ρ σ := ⟨h.len,fun i d e=>let ⟨v,a,b⟩:=h.at' i d e; ⟨v,a,b.mono W E⟩⟩
theorem RepE.set (h:RepE K α H ρ σ) (r:Rep K α H d v):RepE K α H (ρ.set i (some d)) (σ.set i (some v)):=by
 refine ⟨by rw [List.length_set,List.length_set,h.len],fun j e hj=>?_⟩
 by_cases hij:i=j
 ·subst hij
  have hl:i < ρ.length:=by
   have:=(List.getElem?_eq_some_iff.mp hj).1
   rwa [List.length_set] at this
  rw [List.getElem?_set_self hl] at hj
  cases hj
  exact ⟨v,List.getElem?_set_self (by rw [<- h.len]; exact hl),r⟩
 ·rw [List.getElem?_set_ne hij] at hj ⊢
  exact h.at' j e hj
theorem RepE.more (h:RepE K α H ρ σ) (n:Nat):RepE K α H (ρ ++ List.replicate n none) (σ ++ List.replicate n none):=by
 refine ⟨by simp [h.len],fun j e hj=>?_⟩
 by_cases hl:j < ρ.length
 ·rw [List.getElem?_append_left hl] at hj
  rw [List.getElem?_append_left (by rw [<- h.len]; exact hl)]
  exact h.at' j e hj
 ·rw [List.getElem?_append_right (by omega),List.getElem?_replicate] at hj
  split at hj <;> cases hj
theorem PQ.mono {r:Res τ} {R':RD τ} (E:Ext α H α' H') (h:PQ K cl ex r α H R) (hR:∀ d α2 m2 H2,Ext α' H' α2 H2->Wd K cl α2 m2 H2->R d α2 m2 H2->R' d α2 m2 H2):PQ K cl ex r α' H' R':=by
 cases r with
 | ok d m2=>exact fun α2 H2 E2 W2=>hR d α2 m2 H2 E2 W2 (h α2 H2 (E.trans E2) W2)
 | exc c m2=>exact fun α2 H2 E2 W2=>h α2 H2 (E.trans E2) W2
 | bad=>exact h
theorem PQ.bind {r:Res τ} {k : τ -> Sto->Res υ} {R:RD υ} (h:PQ K cl ex (r.bind k) α H R):PQ K cl ex r α H fun d α1 m1 H1=>PQ K cl ex (k d m1) α1 H1 R:=by
 cases r with
 | ok d m1=>exact fun α1 H1 E1 _=>PQ.mono E1 h fun _ _ _ _ _ _ q=>q
 | exc c m1=>exact h
 | bad=>exact h
theorem PQ.ok {d : τ} (W:Wd K cl α m H) (h:PQ K cl ex (.ok d m) α H R):R d α m H:=h α H (Ext.refl W) W
theorem PQ.okS {d : τ} (W:Wd K cl α m H) (s:Same H H') (h:PQ K cl ex (.ok d m) α H R):R d α m H':=h α H' (Ext.of_same W s) (W.same s)
def tD (K:PySem.W.Frag) (cl:Str->Addr) (ex:XD) (f:En->Sto->Res D):TE:=fun σ H Q=>∃ α ρ m,Wd K cl α m H/\RepE K α H ρ σ /\ PQ K cl ex (f ρ m) α H fun d α' _ H'=>∀ v,Rep K α' H' d v->Q v H'
def tDT (K:PySem.W.Frag) (cl:Str->Addr) (ex:XD) (f:En->Sto->Res Bool):TT:=fun σ H Q=>∃ α ρ m,Wd K cl α m H/\RepE K α H ρ σ /\ PQ K cl ex (f ρ m) α H fun d _ _ H'=>Q d H'
def tDA (K:PySem.W.Frag) (cl:Str->Addr) (ex:XD) (f:En->Sto->Res (List D)):TA:=fun σ H Q=>∃ α ρ m,Wd K cl α m H/\RepE K α H ρ σ /\ PQ K cl ex (f ρ m) α H fun d α' _ H'=>∀ v,RepL K α' H' d v->Q v H'
theorem tD.use {f:En->Sto->Res D} {k:D->Sto->Res τ} (W:Wd K cl α m H) (hr:RepE K α H ρ σ) (h:PQ K cl ex ((f ρ m).bind k) α H R)
  (hQ:∀ α1 m1 H1 d v,Ext α H α1 H1->Wd K cl α1 m1 H1->RepE K α1 H1 ρ σ -> Rep K α1 H1 d v->PQ K cl ex (k d m1) α1 H1 R->Q v H1):tD K cl ex f σ H Q :=
 ⟨α,ρ,m,W,hr,PQ.mono (Ext.refl W) h.bind fun d α1 m1 H1 E1 W1 q v rv=>hQ α1 m1 H1 d v E1 W1 (hr.mono W E1) rv q⟩
theorem tDT.use {f:En->Sto->Res Bool} {k:Bool->Sto->Res τ} {Q:Bool->Hp->Prop} (W:Wd K cl α m H) (hr:RepE K α H ρ σ) (h:PQ K cl ex ((f ρ m).bind k) α H R)
  (hQ:∀ α1 m1 H1 d,Ext α H α1 H1->Wd K cl α1 m1 H1->RepE K α1 H1 ρ σ -> PQ K cl ex (k d m1) α1 H1 R->Q d H1):tDT K cl ex f σ H Q :=
 ⟨α,ρ,m,W,hr,PQ.mono (Ext.refl W) h.bind fun d α1 m1 H1 E1 W1 q=>hQ α1 m1 H1 d E1 W1 (hr.mono W E1) q⟩
theorem tDA.use {f:En->Sto->Res (List D)} {k:List D->Sto->Res τ} {Q:List V->Hp->Prop} (W:Wd K cl α m H) (hr:RepE K α H ρ σ) (h:PQ K cl ex ((f ρ m).bind k) α H R)
  (hQ:∀ α1 m1 H1 d v,Ext α H α1 H1->Wd K cl α1 m1 H1->RepE K α1 H1 ρ σ -> RepL K α1 H1 d v->PQ K cl ex (k d m1) α1 H1 R->Q v H1):tDA K cl ex f σ H Q :=
 ⟨α,ρ,m,W,hr,PQ.mono (Ext.refl W) h.bind fun d α1 m1 H1 E1 W1 q v rv=>hQ α1 m1 H1 d v E1 W1 (hr.mono W E1) rv q⟩
end
section
variable (X:Cx) (cl:Str->Addr) (ex:XD)
abbrev EV:=En->Sto->Res D
abbrev TV:=En->Sto->Res Bool
abbrev AV:=En->Sto->Res (List D)
structure QE (e:Expr) (f:EV):Prop where
 out:PE X e (tD X.K cl ex f)
structure QT (e:Expr) (f:TV):Prop where
 out:PT X e (tDT X.K cl ex f)
structure QW (e:Expr) (f:TV):Prop where
 out:PW X e (tDT X.K cl ex f)
structure QA (es:List Expr) (f:AV):Prop where
 out:PA X es (tDA X.K cl ex f)
end
variable {X:Cx} {t:TE}
theorem PE.weak {e:Expr} {t':TE} (h:PE X e t) (w:∀ σ H Q,t' σ H Q->t σ H Q):PE X e t':=fun pins s σ H Q I q=>h pins s σ H Q I (w σ H Q q)
variable {t':TT}
theorem PT.weak {e:Expr} {t:TT} (h:PT X e t) (w:∀ σ H Q,t' σ H Q->t σ H Q):PT X e t':=fun pins s σ H Q I q=>h pins s σ H Q I (w σ H Q q)
theorem PW.weak {e:Expr} {t:TT} (h:PW X e t) (w:∀ σ H Q,t' σ H Q->t σ H Q):PW X e t':=fun wh pins s σ H Q I q=>h wh pins s σ H Q I (w σ H Q q)
theorem PA.weak {e:List Expr} {t t':TA} (h:PA X e t) (w:∀ σ H Q,t' σ H Q->t σ H Q):PA X e t':=fun p pins s σ H Q I q=>h p pins s σ H Q I (w σ H Q q)
theorem PS.weak {e:Stmt} {t t':TS} (h:PS X e t) (w:∀ D σ H,t' D σ H->t D σ H):PS X e t':=fun pins s σ H D I q=>h pins s σ H D I (w D σ H q)
theorem PSs.weak {e:List Stmt} {t t':TS} (h:PSs X e t) (w:∀ D σ H,t' D σ H->t D σ H):PSs X e t':=fun pins s σ H D I q=>h pins s σ H D I (w D σ H q)
def zaf (i:Nat):EV:=fun ρ m=>match ρ[i]? with
 | some (some d) => .ok d m
 | _ => .bad
def eC (d:D):EV:=fun _ m => .ok d m
def eOp (g:D->D->Sto->Res D) (fa fb:EV):EV:=fun ρ m=>(fa ρ m).bind fun x m1=>(fb ρ m1).bind fun y m2=>g x y m2
def eUn (g:D->Sto->Res D) (fa:EV):EV:=fun ρ m=>(fa ρ m).bind g
def eIf (c:TV) (fa fb:EV):EV:=fun ρ m=>(c ρ m).bind fun b m1=>if b=true then fa ρ m1 else fb ρ m1
def zaj:AV:=fun _ m => .ok [] m
def zac (fa:EV) (fr:AV):AV:=fun ρ m=>(fa ρ m).bind fun x m1=>(fr ρ m1).bind fun xs m2 => .ok (x::xs) m2
def eFn (g:List D->Sto->Res D) (fa:AV):EV:=fun ρ m=>(fa ρ m).bind g
def asB (d:D) (m:Sto):Res Bool:=match d with
 | .bl b => .ok b m
 | _ => .bad
def tV (fa:EV):TV:=fun ρ m=>(fa ρ m).bind asB
def zej (a b:TV):TV:=fun ρ m=>(a ρ m).bind fun c m1=>if c=true then b ρ m1 else .ok false m1
def tOrM (a b:TV):TV:=fun ρ m=>(a ρ m).bind fun c m1=>if c=true then .ok true m1 else b ρ m1
def ze9 (a:TV):TV:=fun ρ m=>(a ρ m).bind fun c m1 => .ok (!c) m1
def zrg (a b:EV):EV:=fun ρ m=>(a ρ m).bind fun c m1=>(asB c m1).bind fun c m1=>if c=true then b ρ m1 else .ok (.bl false) m1
def eOr (a b:EV):EV:=fun ρ m=>(a ρ m).bind fun c m1=>(asB c m1).bind fun c m1=>if c=true then .ok (.bl true) m1 else b ρ m1
def eNot (a:EV):EV:=fun ρ m=>(a ρ m).bind fun c m1=>(asB c m1).bind fun c m1 => .ok (.bl (!c)) m1
def OpD (K:PySem.W.Frag) (cl:Str->Addr) (ex:XD) (r:R2) (g:D->D->Sto->Res D):Prop :=
 ∀ (α : List Addr) (m:Sto) (H:Hp) (x y:D) (vx vy:V) (Q:VK),Wd K cl α m H->Rep K α H x vx->Rep K α H y vy->PQ K cl ex (g x y m) α H (fun d α' _ H'=>∀ v,Rep K α' H' d v->Q v H')->r vx vy H Q
def UnD (K:PySem.W.Frag) (cl:Str->Addr) (ex:XD) (r:V->Hp->VK->Prop) (g:D->Sto->Res D):Prop :=
 ∀ (α : List Addr) (m:Sto) (H:Hp) (x:D) (vx:V) (Q:VK),Wd K cl α m H->Rep K α H x vx->PQ K cl ex (g x m) α H (fun d α' _ H'=>∀ v,Rep K α' H' d v->Q v H')->r vx H Q
def FnD (K:PySem.W.Frag) (cl:Str->Addr) (ex:XD) (r:List V->Hp->VK->Prop) (g:List D->Sto->Res D):Prop :=
 ∀ (α : List Addr) (m:Sto) (H:Hp) (x:List D) (vx:List V) (Q:VK),Wd K cl α m H->RepL K α H x vx->PQ K cl ex (g x m) α H (fun d α' _ H'=>∀ v,Rep K α' H' d v->Q v H')->r vx H Q
variable {r:List V->Hp->VK->Prop} {b c:Expr} {es:List Expr} {fa fb:EV} {ta tb:TV} {pos:Pos} {x:Str} {g:D->D->Sto->Res D} {op:CmpOp} {r':R2} {g':D->D->Sto->Res D} {fc:EV}
section
variable {a e:Expr} {rest:List Expr} {fr:AV}
theorem zab (i:Nat) (hN:autoParam (X.N[i]?=some x) AutoP.a3._auto_1) (hv:Vis X.env.scope x:=by first | exact Or.inl rfl | exact Or.inr (Or.inl rfl) | exact Or.inr (Or.inr rfl)) (hd:autoParam ((x == ("__debug__" : Str))=false) AutoP.a1._auto_1) (hcd:autoParam ((x == ("__classdict__" : Str))=false) AutoP.a1._auto_1):QE X cl ex (.Name x pos) (zaf i) :=
 ⟨PE.weak (pe_var hN hv hd hcd) fun σ H Q hh=>ex3 hh fun α ρ m W hr h=>by
  unfold zaf at h
  split at h
  ·rename_i d e
   obtain ⟨v,e1,r⟩:=hr.at' i d e
   exact ⟨v,e1,PQ.ok W h v r⟩
  ·exact h.elim⟩
theorem qe_c (h:PE X e (tC v)) (r:∀ α H,Rep X.K α H d v):QE X cl ex e (eC d) :=
 ⟨PE.weak h fun σ H Q hh=>ex3 hh fun α ρ m W hr h=>PQ.ok W h v (r α H)⟩
theorem zad {i:Int} {j}:QE X cl ex (.Constant (.int i) j pos) (eC (.int i)):=qe_c pe_int fun α H=>by rw [Rep]
theorem zeQ {i:Bool} {j}:QE X cl ex (.Constant (.bool i) j pos) (eC (.bl i)):=qe_c pe_bl fun α H=>by rw [Rep]
theorem zbr {j}:QE X cl ex (.Constant .none j pos) (eC .non):=qe_c pe_non fun α H=>by rw [Rep]
theorem zan {i:Str} {j}:QE X cl ex (.Constant (.str i) j pos) (eC (.str i)):=qe_c zq2 fun α H=>by rw [Rep]
theorem zkX {r:R2} (hd:OpD X.K cl ex r g):∀ σ H Q,tD X.K cl ex (eOp g fa fb) σ H Q->tOp r (tD X.K cl ex fa) (tD X.K cl ex fb) σ H Q:=fun σ H Q hh=>ex3 hh fun α ρ m W hr h =>
 tD.use W hr h fun α1 m1 H1 d v E1 W1 hr1 rv h1=>tD.use W1 hr1 h1 fun α2 m2 H2 d2 v2 E2 W2 hr2 rv2 h2=>hd α2 m2 H2 d d2 v v2 Q W2 (rv.mono W1 E2) rv2 h2
theorem zam {op:Operator} {r:R2} (ho:OpR X (binaryOp op) r) (hd:OpD X.K cl ex r g) (ha:QE X cl ex a fa) (hb:QE X cl ex b fb):QE X cl ex (.BinOp a op b pos) (eOp g fa fb) :=
 ⟨PE.weak (pe_op ho ha.out hb.out) (zkX hd)⟩
theorem zl3 {op:UnaryOp} {r:V->Hp->VK->Prop} {g:D->Sto->Res D} (ho:UnR X (unaryOp op) r) (hd:UnD X.K cl ex r g) (ha:QE X cl ex a fa):QE X cl ex (.UnaryOp op a pos) (eUn g fa) :=
 ⟨PE.weak (pe_un ho ha.out) fun σ H Q hh=>ex3 hh fun α ρ m W hr h=>tD.use W hr h fun α1 m1 H1 d v E1 W1 hr1 rv h1=>hd α1 m1 H1 d v Q W1 rv h1⟩
theorem qe_ix {r:R2} (ho:IxR X r) (hd:OpD X.K cl ex r g) (ha:QE X cl ex a fa) (hb:QE X cl ex b fb) (hs:zkM b):QE X cl ex (.Subscript a b pos) (eOp g fa fb) :=
 ⟨PE.weak (pe_ix ho ha.out hb.out hs) (zkX hd)⟩
theorem zhp {r:R2} (ho:OpR X (compareOp op) r) (hd:OpD X.K cl ex r g) (ha:QE X cl ex a fa) (hb:QE X cl ex b fb) (hm:behindInMarks op b=false):QE X cl ex (.Compare a [op] [b] pos) (eOp g fa fb) :=
 ⟨PE.weak (zss ho ha.out hb.out hm) (zkX hd)⟩
theorem zkV (h:∀ σ H Q,tD X.K cl ex fa σ H Q->t σ H Q):∀ σ H Q,tDT X.K cl ex (tV fa) σ H Q->tTest t σ H Q:=fun σ H Q hh=>ex3 hh fun α ρ m W hr q =>
 h σ H _ (tD.use W hr q fun α1 m1 H1 d v E1 W1 hr1 rv h1=>by
  cases d with
  | bl b=>rw [Rep] at rv; exact ⟨b,rv,PQ.ok W1 h1⟩
  | _=>exact h1.elim)
theorem zaA {r:R2} (ho:OpR X (compareOp op) r) (hd:OpD X.K cl ex r g) (ha:QE X cl ex a fa) (hb:QE X cl ex b fb) (hm:behindInMarks op b=false):QT X cl ex (.Compare a [op] [b] pos) (tV (eOp g fa fb)) :=
 ⟨PT.weak (zr9 ho ha.out hb.out hm) (zkV (zkX hd))⟩
theorem zdC (hq:QE X cl ex e fa) (he:autoParam (∀ whole,isTrue e X.env whole=(do let v <- whole; standAt e.pos; holding [v] (truthy v))) AutoP.a2._auto_1):QT X cl ex e (tV fa) :=
 ⟨PT.weak (pt_val hq.out he) (zkV fun _ _ _ h=>h)⟩
def zjz (g g':D->D->Sto->Res D) (fa fb fc:EV):EV:=fun ρ m=>(fa ρ m).bind fun x m1=>(fb ρ m1).bind fun y m2=>(g x y m2).bind fun z m3=>(asB z m3).bind fun k m3=>if k=true then (fc ρ m3).bind fun w m4=>g' y w m4 else .ok (.bl false) m3
theorem OpD.go {r:R2} (hd:OpD K cl ex r g) {x y:D} {vx vy:V} {k:D->Sto->Res τ} (W:Wd K cl α m H) (rx:Rep K α H x vx) (ry:Rep K α H y vy)
  (h:PQ K cl ex ((g x y m).bind k) α H R) (hQ:∀ α1 m1 H1 d v,Ext α H α1 H1->Wd K cl α1 m1 H1->Rep K α1 H1 d v->PQ K cl ex (k d m1) α1 H1 R->Q v H1):r vx vy H Q :=
 hd α m H x y vx vy Q W rx ry (PQ.mono (Ext.refl W) h.bind fun d α1 m1 H1 E1 W1 q v rv=>hQ α1 m1 H1 d v E1 W1 rv q)
theorem zm2 {r:R2} (hd:OpD X.K cl ex r g) (hd':OpD X.K cl ex r' g'):∀ σ H Q,tD X.K cl ex (zjz g g' fa fb fc) σ H Q->zqX r r' (tD X.K cl ex fa) (tD X.K cl ex fb) (tD X.K cl ex fc) σ H Q:=fun σ H Q hh=>ex3 hh fun α ρ m W hr h =>
 tD.use W hr h fun α1 m1 H1 d v E1 W1 hr1 rv h1=>tD.use W1 hr1 h1 fun α2 m2 H2 d2 v2 E2 W2 hr2 rv2 h2=>hd.go W2 (rv.mono W1 E2) rv2 h2 fun α3 m3 H3 d3 v3 E3 W3 rv3 h3=>by
  cases d3 with
  | bl k =>
   rw [Rep] at rv3
   refine ⟨k,rv3,?_⟩
   cases k with
   | true=>exact tD.use W3 (hr2.mono W2 E3) h3 fun α4 m4 H4 d4 v4 E4 W4 hr4 rv4 h4=>hd' α4 m4 H4 d2 d4 v2 v4 Q W4 ((rv2.mono W2 E3).mono W3 E4) rv4 h4
   | false=>exact PQ.ok W3 h3 _ (by rw [Rep])
  | _=>exact h3.elim
theorem zk8 {op':CmpOp} {r:R2} (ho:OpR X (compareOp op) r) (hd:OpD X.K cl ex r g) (ho':OpR X (compareOp op') r') (hd':OpD X.K cl ex r' g') (ha:QE X cl ex a fa) (hb:QE X cl ex b fb) (hc:QE X cl ex c fc)
  (hm:autoParam (lastMarks [op,op'] [b,c]=false) AutoP.a4._auto_1):QE X cl ex (.Compare a [op,op'] [b,c] pos) (zjz g g' fa fb fc) :=
 ⟨PE.weak (zqf ho ho' ha.out hb.out hc.out hm) (zm2 hd hd')⟩
theorem zek (ha:QT X cl ex a ta):QW X cl ex (.BoolOp .And [a] pos) ta:=⟨zr6 ha.out⟩
theorem znv (ha:QT X cl ex a ta):QW X cl ex (.BoolOp .Or [a] pos) ta:=⟨pw_or1 ha.out⟩
theorem zgj (ha:QT X cl ex a ta) (hb:QW X cl ex (.BoolOp .And (b::rest) pos) tb):QW X cl ex (.BoolOp .And (a::b::rest) pos) (zej ta tb) :=
 ⟨PW.weak (pw_and ha.out hb.out) fun σ H Q hh=>ex3 hh fun α ρ m W hr h=>tDT.use W hr h fun α1 m1 H1 d E1 W1 hr1 h1=>by
  cases d with
  | true=>exact ⟨α1,ρ,m1,W1,hr1,h1⟩
  | false=>exact PQ.ok W1 h1⟩
theorem zrV (ha:QT X cl ex a ta) (hb:QW X cl ex (.BoolOp .Or (b::rest) pos) tb):QW X cl ex (.BoolOp .Or (a::b::rest) pos) (tOrM ta tb) :=
 ⟨PW.weak (pw_or ha.out hb.out) fun σ H Q hh=>ex3 hh fun α ρ m W hr h=>tDT.use W hr h fun α1 m1 H1 d E1 W1 hr1 h1=>by
  cases d with
  | false=>exact ⟨α1,ρ,m1,W1,hr1,h1⟩
  | true=>exact PQ.ok W1 h1⟩
theorem zcT (hq:QW X cl ex a ta):QT X cl ex a ta:=⟨PW.pt hq.out⟩
theorem zgk (ha:QT X cl ex a ta):QT X cl ex (.UnaryOp .Not a pos) (ze9 ta) :=
 ⟨PT.weak (pt_not ha.out) fun σ H Q hh=>ex3 hh fun α ρ m W hr h=>tDT.use W hr h fun α1 m1 H1 d E1 W1 hr1 h1=>PQ.ok W1 h1⟩
theorem ziV {op} (ha:QE X cl ex a fa):QE X cl ex (.BoolOp op [a] pos) fa:=⟨pe_one ha.out⟩
theorem asB.use {k:Bool->Sto->Res τ} (W:Wd X.K cl α m H) (rv:Rep X.K α H d v) (h:PQ X.K cl ex ((asB d m).bind k) α H R):∃ b,v = .bl b/\PQ X.K cl ex (k b m) α H R:=by
 cases d with
 | bl b=>rw [Rep] at rv; exact ⟨b,rv,h⟩
 | _=>exact h.elim
theorem zhq (ha:QE X cl ex a fa) (hb:QE X cl ex (.BoolOp .And (b::rest) pos) fb):QE X cl ex (.BoolOp .And (a::b::rest) pos) (zrg fa fb) :=
 ⟨PE.weak (pe_and ha.out hb.out) fun σ H Q hh=>ex3 hh fun α ρ m W hr h=>tD.use W hr h fun α1 m1 H1 d v E1 W1 hr1 rv h1=>by
  obtain ⟨c,e,h2⟩:=asB.use W1 rv h1
  refine ⟨c,e,?_⟩
  cases c with
  | true=>exact ⟨α1,ρ,m1,W1,hr1,h2⟩
  | false=>exact PQ.ok W1 h2 _ (by rw [Rep])⟩
theorem qe_not (ha:QE X cl ex a fa):QE X cl ex (.UnaryOp .Not a pos) (eNot fa) :=
 ⟨PE.weak (pe_not ha.out) fun σ H Q hh=>ex3 hh fun α ρ m W hr h=>tD.use W hr h fun α1 m1 H1 d v E1 W1 hr1 rv h1=>by
  obtain ⟨c,e,h2⟩:=asB.use W1 rv h1
  exact ⟨c,e,PQ.ok W1 h2 _ (by rw [Rep])⟩⟩
theorem zp3 (hc:QT X cl ex c ta) (ha:QE X cl ex a fa) (hb:QE X cl ex b fb):QE X cl ex (.IfExp c a b pos) (eIf ta fa fb) :=
 ⟨PE.weak (zqd hc.out ha.out hb.out) fun σ H Q hh=>ex3 hh fun α ρ m W hr h=>tDT.use W hr h fun α1 m1 H1 d E1 W1 hr1 h1=>by
  cases d with
  | true=>exact ⟨α1,ρ,m1,W1,hr1,h1⟩
  | false=>exact ⟨α1,ρ,m1,W1,hr1,h1⟩⟩
theorem zae:QA X cl ex [] zaj:=⟨PA.weak zeT fun σ H Q hh=>ex3 hh fun α ρ m W hr h=>PQ.ok W h _ (by rw [RepL])⟩
theorem zaa (ha:QE X cl ex e fa) (hrq:QA X cl ex es fr) (hs:autoParam (starEach (e::es) X.env=(false,eval e X.env)::starEach es X.env) AutoP.a3._auto_1):QA X cl ex (e::es) (zac fa fr) :=
 ⟨PA.weak (zbO ha.out hrq.out hs) fun σ H Q hh=>ex3 hh fun α ρ m W hr h=>tD.use W hr h fun α1 m1 H1 d v E1 W1 hr1 rv h1=>tDA.use W1 hr1 h1 fun α2 m2 H2 d2 v2 E2 W2 hr2 rv2 h2=>PQ.ok W2 h2 _ (by rw [RepL]; exact ⟨v,v2,rfl,rv.mono W1 E2,rv2⟩)⟩
theorem RepL.length {K:PySem.W.Frag} {α : List Addr} {H:Hp}:∀ {ds:List D} {vs:List V},RepL K α H ds vs->ds.length=vs.length
 | [],_,h=>by rw [RepL] at h; rw [h]; rfl
 | _::_,_,h=>by
  rw [RepL] at h
  obtain ⟨v,r,rfl,_,h2⟩:=h
  rw [List.length_cons,List.length_cons,RepL.length h2]
def zbn:List D->Sto->Res D:=fun ds m=>if ds.length<=sizeLine then .ok (.tup ds) m else .bad
def zcW:List D->Sto->Res D:=fun ds m=>if ds.length<=sizeLine then .ok (.lst ds) m else .bad
def zis:List D->Sto->Res D:=fun ds m=>if ds.length<=sizeLine then .ok (.ob m.length) (m++[.lst ds]) else .bad
theorem PQ.if {c:Prop} [Decidable c] {r:Res τ} (h:PQ K cl ex (if c then r else .bad) α H R):c/\PQ K cl ex r α H R:=by
 by_cases hc:c
 ·rw [if_pos hc] at h; exact ⟨hc,h⟩
 ·rw [if_neg hc] at h; exact h.elim
theorem Same.new {o:HO} (hp:H p=none):Same H (upd H p o):=fun b u e=>by rw [zav (zaq e hp)]; exact e
theorem zaB {x1} (hq:QA X cl ex es fr):QE X cl ex (.Tuple es x1 pos) (eFn zbn fr) :=
 ⟨PE.weak (pe_tup hq.out) fun σ H Q hh=>ex3 hh fun α ρ m W hr h=>tDA.use W hr h fun α1 m1 H1 d v E1 W1 hr1 rv h1=>by
  obtain ⟨hl,h2⟩:=h1.if
  refine ⟨by rw [<- rv.length]; exact hl,fun p hp=>?_⟩
  have s:=Same.new (o := .tup v) hp
  exact PQ.okS W1 s h2 _ (by rw [Rep]; exact ⟨p,v,rfl,.inl zaI,rv.mono W1 (Ext.of_same W1 s)⟩)⟩
theorem Wd.nin (W:Wd K cl α m H) (hp:H p=none):p ∉ α := fun z=>W.has z hp
theorem zca (W:Wd K cl α m H) (hp:H p=none) (r:RepL K α H ds vs):Rep K α (upd H p (.lst vs)) (.lst ds) (.ref p):=by
 rw [Rep]
 exact ⟨p,vs,rfl,W.nin hp,.inl zaI,r.mono W (Ext.of_same W (Same.new hp))⟩
theorem za0 (hq:QA X cl ex es fr):QE X cl ex (.List es pos) (eFn zcW fr) :=
 ⟨PE.weak (zq3 hq.out) fun σ H Q hh=>ex3 hh fun α ρ m W hr h=>tDA.use W hr h fun α1 m1 H1 d v E1 W1 hr1 rv h1=>by
  obtain ⟨hl,h2⟩:=h1.if
  exact ⟨by rw [<- rv.length]; exact hl,fun p hp=>PQ.okS W1 (Same.new hp) h2 _ (zca W1 hp rv)⟩⟩
theorem zsH {R:RD D} (W:Wd K cl α m H) (hp:H p=none) (r:RepL K α H ds vs) (h:PQ K cl ex (.ok (.ob m.length) (m++[.lst ds])) α H R):∃ α' m',R (.ob m.length) α' m' (upd H p (.lst vs))/\Rep K α' (upd H p (.lst vs)) (.ob m.length) (.ref p):=by
 have E0:Ext α H (α ++ [p]) (upd H p (.lst vs)):=⟨⟨[p],rfl,fun b hb=>by rw [List.mem_singleton.mp hb]; exact hp⟩,fun a o h _=>Same.new hp a o h,(Ext.of_same W (Same.new hp)).there,fun a o u h=>Same.new hp a _ h⟩
 obtain ⟨W2,E2⟩:=W.new (u := .lst vs) (o := .lst ds) hp ⟨vs,zaI,r.mono W E0⟩
 refine ⟨_,_,h _ _ E2 W2,?_⟩
 rw [Rep]
 refine ⟨p,?_,rfl⟩
 rw [<- W.len,List.getElem?_append_right (Nat.le_refl _)]
 simp
theorem zfb (hq:QA X cl ex es fr):QE X cl ex (.List es pos) (eFn zis fr) :=
 ⟨PE.weak (zq3 hq.out) fun σ H Q hh=>ex3 hh fun α ρ m W hr h=>tDA.use W hr h fun α1 m1 H1 d v E1 W1 hr1 rv h1=>by
  obtain ⟨hl,h2⟩:=h1.if
  refine ⟨by rw [<- rv.length]; exact hl,fun p hp=>?_⟩
  obtain ⟨_,_,q,r⟩:=zsH W1 hp rv h2
  exact q _ r⟩
theorem zqY {g:List D->Sto->Res D} (hd:FnD X.K cl ex r g):∀ σ H Q,tD X.K cl ex (eFn g fr) σ H Q->tCB r (tDA X.K cl ex fr) σ H Q:=fun σ H Q hh=>ex3 hh fun α ρ m W hr h =>
 tDA.use W hr h fun α1 m1 H1 d v E1 W1 hr1 rv h1=>hd α1 m1 H1 d v Q W1 rv h1
theorem zaH {id:String} {p:Pos} {g:List D->Sto->Res D} (hc:CallR X (.builtin id) r) (hd:FnD X.K cl ex r g) (hg:Gl X x) (hm:X.mg x=none) (hv:bootBuiltins x=some (.builtin id)) (ha:QA X cl ex (e::es) fr) (hn:autoParam (x ≠ "__name__") AutoP.a1._auto_1) (hdb:autoParam ((x == ("__debug__" : Str))=false) AutoP.a1._auto_1)
  (he:autoParam (starEach (e::es) X.env=(false,eval e X.env)::starEach es X.env) AutoP.a3._auto_1) (hpl:autoParam ((backTo pos (starEach es X.env)).any (·.1)=false) AutoP.a3._auto_1):QE X cl ex (.Call (.Name x p) (e::es) [] pos) (eFn g fr) :=
 ⟨PE.weak (zf6 hc hg hm hv ha.out hn hdb he hpl) (zqY hd)⟩
theorem zbs {T:String} {p:Pos} {g:List D->Sto->Res D} (hc:CallR X (.type T) r) (hd:FnD X.K cl ex r g) (hg:Gl X x) (hm:X.mg x=none) (hv:bootBuiltins x=some (.type T)) (ha:QA X cl ex (e::es) fr) (hn:autoParam (x ≠ "__name__") AutoP.a1._auto_1) (hdb:autoParam ((x == ("__debug__" : Str))=false) AutoP.a1._auto_1)
  (he:autoParam (starEach (e::es) X.env=(false,eval e X.env)::starEach es X.env) AutoP.a3._auto_1) (hpl:autoParam ((backTo pos (starEach es X.env)).any (·.1)=false) AutoP.a3._auto_1):QE X cl ex (.Call (.Name x p) (e::es) [] pos) (eFn g fr) :=
 ⟨PE.weak (ziX hc hg hm hv ha.out hn hdb he hpl) (zqY hd)⟩
end
inductive Fl where
 | nx (ρ : En) | rt (d:D) | bk (ρ : En) | ct (ρ : En)
abbrev SV:=En->Sto->Res Fl
def zdO (K:PySem.W.Frag) (D:Ends) (fl:Fl) (α : List Addr) (H:Hp):Prop:=match fl with
 | .nx ρ => ∀ σ,RepE K α H ρ σ -> D.nx σ H
 | .rt d=>∀ v,Rep K α H d v->D.rt v H
 | .bk ρ => ∀ σ,RepE K α H ρ σ -> D.bk σ H
 | .ct ρ => ∀ σ,RepE K α H ρ σ -> D.ct σ H
def tDS (K:PySem.W.Frag) (cl:Str->Addr) (ex:XD) (f:SV):TS:=fun D σ H=>∃ α ρ m,Wd K cl α m H/\RepE K α H ρ σ /\ PQ K cl ex (f ρ m) α H fun fl α' _ H'=>zdO K D fl α' H'
abbrev GV:=D->En->Sto->Res En
def tDG (K:PySem.W.Frag) (cl:Str->Addr) (ex:XD) (f:GV):TG:=fun v σ H Q=>∃ α ρ m d,Wd K cl α m H/\RepE K α H ρ σ /\ Rep K α H d v/\PQ K cl ex (f d ρ m) α H fun ρ' α' _ H'=>∀ σ',RepE K α' H' ρ' σ'->Q σ' H'
def tDGs (K:PySem.W.Frag) (cl:Str->Addr) (ex:XD) (f:List D->En->Sto->Res En):TGs:=fun v σ H Q=>∃ α ρ m d,Wd K cl α m H/\RepE K α H ρ σ /\ RepL K α H d v/\PQ K cl ex (f d ρ m) α H fun ρ' α' _ H'=>∀ σ',RepE K α' H' ρ' σ'->Q σ' H'
def ItD (K:PySem.W.Frag) (cl:Str->Addr) (α : List Addr) (H:Hp) (J:It) (ds:List D):Prop :=
 ∀ (i:Nat) (α1:List Addr) (m1:Sto) (H1:Hp),Ext α H α1 H1->Wd K cl α1 m1 H1->(∀ d,ds[i]?=some d->J.go i H1/\∀ x H2,J.yld i H1 x H2->Same H1 H2/\Rep K α1 H2 d x)/\(i=ds.length->J.stop i H1)
def tDI (K:PySem.W.Frag) (cl:Str->Addr) (ex:XD) (f:AV):TI:=fun σ H R=>∃ α ρ m,Wd K cl α m H/\RepE K α H ρ σ /\ PQ K cl ex (f ρ m) α H fun ds α' _ H'=>∀ J,ItD K cl α' H' J ds->R J H'
section
variable (X:Cx) (cl:Str->Addr) (ex:XD)
structure QS (st:Stmt) (f:SV):Prop where
 out:PS X st (tDS X.K cl ex f)
structure QSs (st:List Stmt) (f:SV):Prop where
 out:PSs X st (tDS X.K cl ex f)
structure QG (tg:Expr) (f:GV):Prop where
 out:PG X tg (tDG X.K cl ex f)
structure QGs (tg:List Expr) (f:List D->En->Sto->Res En):Prop where
 out:PGs X tg (tDGs X.K cl ex f)
structure QI (tg it:Expr) (f:AV):Prop where
 out:PI X tg it (tDI X.K cl ex f)
end
theorem PG.weak {e:Expr} {t t':TG} (h:PG X e t) (w:∀ v σ H Q,t' v σ H Q->t v σ H Q):PG X e t':=fun pins s σ H v u Q I r q=>h pins s σ H v u Q I r (w v σ H Q q)
theorem PGs.weak {e:List Expr} {t t':TGs} (h:PGs X e t) (w:∀ v σ H Q,t' v σ H Q->t v σ H Q):PGs X e t':=fun pins s σ H v u Q I r q=>h pins s σ H v u Q I r (w v σ H Q q)
variable {tg:Expr}
theorem PI.weak {e:Expr} {t t':TI} (h:PI X tg e t) (w:∀ σ H Q,t' σ H Q->t σ H Q):PI X tg e t':=fun pins s σ H Q I q=>h pins s σ H Q I (w σ H Q q)
def zaw (f g:SV):SV:=fun ρ m=>(f ρ m).bind fun fl m1=>match fl with
 | .nx ρ1=>g ρ1 m1
 | fl => .ok fl m1
def zbL:SV:=fun ρ m => .ok (.nx ρ) m
def sBad:SV:=fun _ _ => .bad
def zaL (f:EV):SV:=fun ρ m=>(f ρ m).bind fun d m1 => .ok (.rt d) m1
def sRetN:SV:=fun _ m => .ok (.rt .non) m
def zbi (f:EV):SV:=fun ρ m=>(f ρ m).bind fun _ m1 => .ok (.nx ρ) m1
def sIf (c:TV) (f g:SV):SV:=fun ρ m=>(c ρ m).bind fun b m1=>if b=true then f ρ m1 else g ρ m1
def zaK (f:EV) (g:GV):SV:=fun ρ m=>(f ρ m).bind fun d m1=>(g d ρ m1).bind fun ρ1 m2 => .ok (.nx ρ1) m2
def gN (i:Nat):GV:=fun d ρ m => .ok (ρ.set i (some d)) m
def zdI:List D->En->Sto->Res En:=fun ds ρ m=>match ds with
 | [] => .ok ρ m
 | _::_ => .bad
def zaN (g:GV) (gs:List D->En->Sto->Res En):List D->En->Sto->Res En:=fun ds ρ m=>match ds with
 | [] => .bad
 | d::r=>(g d ρ m).bind fun ρ1 m1=>gs r ρ1 m1
def gT (n:Nat) (gs:List D->En->Sto->Res En):GV:=fun d ρ m=>match d with
 | .tup ds=>if ds.length=n then gs ds ρ m else .bad
 | _ => .bad
def sPar (i j:Nat) (fa:AV):SV:=fun ρ m=>(fa ρ m).bind fun ds m1=>match ds with
 | [x,y] => .ok (.nx ((ρ.set i (some x)).set j (some y))) m1
 | _ => .bad
def sPar3 (i j k:Nat) (fa:AV):SV:=fun ρ m=>(fa ρ m).bind fun ds m1=>match ds with
 | [x,y,z] => .ok (.nx (((ρ.set i (some x)).set j (some y)).set k (some z))) m1
 | _ => .bad
def zd4 (g:GV) (body:SV):List D->En->Sto->Res Fl
 | [],ρ,m => .ok (.nx ρ) m
 | d::r,ρ,m=>(g d ρ m).bind fun ρ1 m1=>(body ρ1 m1).bind fun fl m2=>match fl with
  | .nx ρ2=>zd4 g body r ρ2 m2
  | .ct ρ2=>zd4 g body r ρ2 m2
  | .bk ρ2 => .ok (.nx ρ2) m2
  | .rt d => .ok (.rt d) m2
def zh6 (it:AV) (g:GV) (body:SV):SV:=fun ρ m=>(it ρ m).bind fun ds m1=>zd4 g body ds ρ m1
def zfg (c:TV) (body:SV):Nat->En->Sto->Res Fl
 | 0,_,_ => .bad
 | n+1,ρ,m=>(c ρ m).bind fun b m1=>if b=true then (body ρ m1).bind fun fl m2=>match fl with
  | .nx ρ2=>zfg c body n ρ2 m2
  | .ct ρ2=>zfg c body n ρ2 m2
  | .bk ρ2 => .ok (.nx ρ2) m2
  | .rt d => .ok (.rt d) m2 else .ok (.nx ρ) m1
def zgh (n:Nat) (c:TV) (body:SV):SV:=fun ρ m=>zfg c body n ρ m
def zez (g:GV) (c:TV) (el:EV) (ρ : En):List D->Sto->Res (List D)
 | [],m => .ok [] m
 | d::r,m=>(g d ρ m).bind fun ρ1 m1=>(c ρ1 m1).bind fun b m2=>if b=true then (el ρ1 m2).bind fun x m3=>(zez g c el ρ r m3).bind fun xs m4 => .ok (x::xs) m4 else zez g c el ρ r m2
def zbR (n:Nat) (it:AV) (g:GV) (c:TV) (el:EV):AV:=fun ρ m=>(it ρ m).bind fun ds m1=>if ds.length<=1000000 then zez g c el (ρ ++ List.replicate n none) ds m1 else .bad
def zbV:TV:=fun _ m => .ok true m
variable {gs:List D->En->Sto->Res En} {n:Nat}
section
variable {a e it:Expr} {fr:AV} {st:Stmt} {sts sts':List Stmt} {f g:SV} {gt:GV}
theorem zaC:QSs X cl ex [] zbL:=⟨PSs.weak zsb fun D σ H hh=>ex3 hh fun α ρ m W hr h=>PQ.ok W h σ hr⟩
theorem zai (hq:QS X cl ex st f):QSs X cl ex [st] f:=⟨zsa hq.out⟩
theorem zag (h1:QS X cl ex st f) (h2:QSs X cl ex sts g):QSs X cl ex (st::sts) (zaw f g) :=
 ⟨PSs.weak (zp5 h1.out h2.out) fun D σ H hh=>ex3 hh fun α ρ m W hr h=>⟨α,ρ,m,W,hr,PQ.mono (Ext.refl W) h.bind fun fl α1 m1 H1 E1 W1 q=>by
  cases fl with
  | nx ρ1=>exact fun σ1 hr1=>⟨α1,ρ1,m1,W1,hr1,q⟩
  | rt d=>exact PQ.ok W1 q
  | bk ρ1=>exact PQ.ok W1 q
  | ct ρ1=>exact PQ.ok W1 q⟩⟩
theorem zal (he:QE X cl ex e fa):QS X cl ex (.Return (some e) pos) (zaL fa) :=
 ⟨PS.weak (ps_ret he.out) fun D σ H hh=>ex3 hh fun α ρ m W hr h=>tD.use W hr h fun α1 m1 H1 d v E1 W1 hr1 rv h1=>PQ.ok W1 h1 v rv⟩
theorem zdn (he:QE X cl ex e fa) (hs:autoParam (swapsWith e none pos.line X.env=pure false) AutoP.a3._auto_1):QS X cl ex (.Expr e pos) (zbi fa) :=
 ⟨PS.weak (zsd he.out hs) fun D σ H hh=>ex3 hh fun α ρ m W hr h=>tD.use W hr h fun α1 m1 H1 d v E1 W1 hr1 rv h1=>PQ.ok W1 h1 _ hr1⟩
theorem zaZ (hc:QT X cl ex c ta) (ha:QSs X cl ex sts f) (hb:QSs X cl ex sts' g):QS X cl ex (.If c sts sts' pos) (sIf ta f g) :=
 ⟨PS.weak (ps_if hc.out ha.out hb.out) fun D σ H hh=>ex3 hh fun α ρ m W hr h=>tDT.use W hr h fun α1 m1 H1 d E1 W1 hr1 h1=>by
  cases d with
  | true=>exact ⟨α1,ρ,m1,W1,hr1,h1⟩
  | false=>exact ⟨α1,ρ,m1,W1,hr1,h1⟩⟩
theorem zat (hN:X.N.Nodup) (hi:X.N[i]?=some x) (hx:Loc X.env.scope x) (hf:autoParam (X.fn x=true∨X.env.scope.names.lookup x=some .local) AutoP.a0._auto_1):QG X cl ex (.Name x pos) (gN i) :=
 ⟨PG.weak (znK hN hi hx hf) fun v σ H Q ⟨α,ρ,m,d,W,hr,rv,h⟩=>PQ.ok W h _ (hr.set rv)⟩
theorem zbN:QGs X cl ex [] zdI:=⟨PGs.weak zso fun v σ H Q ⟨α,ρ,m,d,W,hr,rv,h⟩=>by
 cases d with
 | nil=>rw [RepL] at rv; exact ⟨rv,PQ.ok W h _ hr⟩
 | cons d r=>exact h.elim⟩
theorem zaE (h1:QG X cl ex e gt) (h2:QGs X cl ex es gs) (hs:autoParam ((assignEach (e::es) X.env).map (·.2)=assign e X.env::(assignEach es X.env).map (·.2)) AutoP.a3._auto_1):QGs X cl ex (e::es) (zaN gt gs) :=
 ⟨PGs.weak (zqb h1.out h2.out hs) fun v σ H Q ⟨α,ρ,m,d,W,hr,rv,h⟩=>by
  cases d with
  | nil=>exact h.elim
  | cons d r =>
   rw [RepL] at rv
   obtain ⟨v0,vr,rfl,r0,rr⟩:=rv
   refine ⟨v0,vr,rfl,α,ρ,m,d,W,hr,r0,PQ.mono (Ext.refl W) (show PQ X.K cl ex ((gt d ρ m).bind fun ρ1 m1=>gs r ρ1 m1) α H _ from h).bind fun ρ1 α1 m1 H1 E1 W1 q σ1 hr1=>?_⟩
   exact ⟨α1,ρ1,m1,r,W1,hr1,rr.mono W E1,q⟩⟩
theorem zcL {k:Nat} (hc:X.calm=true) (hq:QGs X cl ex es gs) (hn:autoParam ((assignEach es X.env).length=n) AutoP.a3._auto_1) (hst:autoParam ((assignEach es X.env).findIdx? (·.1)=none) AutoP.a3._auto_1):QG X cl ex (.Tuple es k pos) (gT n gs) :=
 ⟨PG.weak (pg_tup hc hq.out hn hst) fun v σ H Q ⟨α,ρ,m,d,W,hr,rv,h⟩=>by
  cases d with
  | tup ds =>
   rw [Rep] at rv
   obtain ⟨a,xs,e,h1,h2⟩:=rv
   obtain ⟨hl,h3⟩:=PQ.if h
   exact ⟨a,xs,e,h1.sq,by rw [<- h2.length]; exact hl,α,ρ,m,ds,W,hr,h2,h3⟩
  | _=>exact h.elim⟩
theorem zm3 {u:TG} (h1:∀ σ H Q,tD X.K cl ex fa σ H Q->t σ H Q) (h2:∀ v σ H Q,tDG X.K cl ex gt v σ H Q->u v σ H Q):∀ D σ H,tDS X.K cl ex (zaK fa gt) D σ H->tAsg t u D σ H:=fun D σ H hh=>ex3 hh fun α ρ m W hr h =>
 h1 σ H _ (tD.use W hr h fun α1 m1 H1 d v E1 W1 hr1 rv q=>h2 v σ H1 _ ⟨α1,ρ,m1,d,W1,hr1,rv,PQ.mono (Ext.refl W1) q.bind fun ρ2 α2 m2 H2 E2 W2 q2=>PQ.ok W2 q2⟩)
theorem zao {pos':Pos} (hN:X.N.Nodup) (hi:X.N[i]?=some x) (hx:Loc X.env.scope x) (he:QE X cl ex e fa) (hs:autoParam (swapsWith e (some (.Name x pos')) pos.line X.env=pure false) AutoP.a3._auto_1) (hf:autoParam (X.fn x=true∨X.env.scope.names.lookup x=some .local) AutoP.a0._auto_1) :
  QS X cl ex (.Assign [.Name x pos'] e pos) (zaK fa (gN i)) :=
 ⟨PS.weak (ps_set hN hi hx he.out hs hf) (zm3 (fun _ _ _ h=>h) fun v σ H Q ⟨α,ρ,m,d,W,hr,rv,h⟩=>PQ.ok W h _ (hr.set rv))⟩
theorem zho (he:QE X cl ex e fa) (hg:QG X cl ex tg gt) (hs:autoParam (swapsWithSole [tg] e pos.line X.env=pure false) AutoP.a3._auto_1) (hw:autoParam (swappedStores [tg] e X.env=pure none) AutoP.a3._auto_1)
  (h1:autoParam ((assignEach [tg] X.env).map (·.2)=[assign tg X.env]) AutoP.a3._auto_1):QS X cl ex (.Assign [tg] e pos) (zaK fa gt) :=
 ⟨PS.weak (ps_asg he.out hg.out hs hw h1) (zm3 (fun _ _ _ h=>h) fun _ _ _ _ h=>h)⟩
theorem znw {j:Nat} {y:Str} {px py pt:Pos} {kt k2 pt2} (hc:X.calm=true) (hN:X.N.Nodup) (hi:X.N[i]?=some x) (hj:X.N[j]?=some y) (hij:i≠j)
  (hx:X.env.scope.names.lookup x=some .local) (hy:X.env.scope.names.lookup y=some .local) (ha:QA X cl ex [a,b] fr)
  (hw:swappedStores [.Tuple [.Name x px,.Name y py] kt pt] (.Tuple [a,b] k2 pt2) X.env=pure (some [x,y]))
  (hs:autoParam (swapsWithSole [.Tuple [.Name x px,.Name y py] kt pt] (.Tuple [a,b] k2 pt2) pos.line X.env=pure false) AutoP.a3._auto_1) :
  QS X cl ex (.Assign [.Tuple [.Name x px,.Name y py] kt pt] (.Tuple [a,b] k2 pt2) pos) (sPar i j fr) :=
 ⟨PS.weak (ps_par hc hN hi hj hij hx hy ha.out hw hs) fun D σ H hh=>ex3 hh fun α ρ m W hr h=>tDA.use W hr h fun α1 m1 H1 d v E1 W1 hr1 rv h1=>by
  match d,rv,h1 with
  | [p,q],rv,h1 =>
   rw [RepL] at rv
   obtain ⟨v1,r1,rfl,a1,rv⟩:=rv
   rw [RepL] at rv
   obtain ⟨v2,r2,rfl,a2,rv⟩:=rv
   rw [RepL] at rv
   subst rv
   exact ⟨v1,v2,rfl,PQ.ok W1 h1 _ ((hr1.set a1).set a2)⟩
  | [],_,h1=>exact h1.elim
  | [_],_,h1=>exact h1.elim
  | _::_::_::_,_,h1=>exact h1.elim⟩
theorem zc2 (hp:PassesOwn (model X.prog X.w) X.A X.env X.xe) (hc:X.calm=true) (hi:QI X cl ex tg it fr) (hg:QG X cl ex tg gt) (hb:QSs X cl ex sts f)
  (hs:autoParam (∀ x,foldedSetIterable it X.env x=pure x) AutoP.a2._auto_1):QS X cl ex (.For tg it sts [] pos) (zh6 fr gt f) :=
 ⟨PS.weak (ps_for hp hc hi.out hg.out hb.out hs) fun D σ H hh=>ex3 hh fun α ρ m W hr h=>⟨α,ρ,m,W,hr,PQ.mono (Ext.refl W) h.bind fun ds α1 m1 H1 E1 W1 q J hJ=>by
  refine ⟨fun i n σ2 H2=>n=ds.length - i/\i<=ds.length/\∃ α2 m2 ρ2,Ext α1 H1 α2 H2/\Wd X.K cl α2 m2 H2/\RepE X.K α2 H2 ρ2 σ2/\PQ X.K cl ex (zd4 gt f (ds.drop i) ρ2 m2) α2 H2 fun fl α' _ H'=>zdO X.K D fl α' H',
   ⟨ds.length,by simp,Nat.zero_le _,α1,m1,ρ,Ext.refl W1,W1,hr.mono W E1,q⟩,?_⟩
  rintro i n σ2 H2 ⟨rfl,hi,α2,m2,ρ2,E2,W2,hr2,q2⟩
  obtain ⟨go,stop⟩:=hJ i α2 m2 H2 E2 W2
  by_cases hlt:i < ds.length
  ·have hd:ds[i]?=some ds[i]:=by simp [hlt]
   obtain ⟨g1,g2⟩:=go _ hd
   rw [List.drop_eq_getElem_cons hlt,zd4] at q2
   refine .inr ⟨g1,fun σ3 H3=>∃ α3 m3 ρ3,Ext α1 H1 α3 H3/\Wd X.K cl α3 m3 H3/\RepE X.K α3 H3 ρ3 σ3/\PQ X.K cl ex (zd4 gt f (ds.drop (i+1)) ρ3 m3) α3 H3 fun fl α' _ H'=>zdO X.K D fl α' H',
    fun σ3 H3 ⟨α3,m3,ρ3,E3,W3,hr3,q3⟩=>⟨ds.length - (i+1),by omega,rfl,hlt,α3,m3,ρ3,E3,W3,hr3,q3⟩,fun x H3 y=>?_⟩
   obtain ⟨sm,rx⟩:=g2 x H3 y
   have Es:=Ext.of_same W2 sm
   have W3:=W2.same sm
   refine ⟨α2,ρ2,m2,ds[i],W3,hr2.mono W2 Es,rx,PQ.mono Es q2.bind fun ρ4 α4 m4 H4 E4 W4 q4 σ4 hr4=>?_⟩
   have E04:=E2.trans (Es.trans E4)
   refine ⟨α4,ρ4,m4,W4,hr4,PQ.mono (Ext.refl W4) q4.bind fun fl α5 m5 H5 E5 W5 q5=>?_⟩
   cases fl with
   | nx ρ5=>exact fun σ5 hr5=>⟨α5,m5,ρ5,E04.trans E5,W5,hr5,q5⟩
   | ct ρ5=>exact fun σ5 hr5=>⟨α5,m5,ρ5,E04.trans E5,W5,hr5,q5⟩
   | bk ρ5=>exact PQ.ok W5 q5
   | rt d=>exact PQ.ok W5 q5
  ·have e:i=ds.length:=by omega
   subst e
   rw [List.drop_of_length_le (Nat.le_refl _),zd4] at q2
   exact .inl ⟨stop rfl,PQ.ok W2 q2 σ2 hr2⟩⟩⟩
theorem zk5 (hp:PassesOwn (model X.prog X.w) X.A X.env X.xe) (hc:QT X cl ex c ta) (hb:QSs X cl ex sts f):QS X cl ex (.While c sts [] pos) (zgh n ta f) :=
 ⟨PS.weak (zp6 hp hc.out hb.out) fun D σ H hh=>ex3 hh fun α ρ m W hr h=>by
  refine ⟨fun k σ2 H2=>∃ α2 m2 ρ2,Wd X.K cl α2 m2 H2/\RepE X.K α2 H2 ρ2 σ2/\PQ X.K cl ex (zfg ta f k ρ2 m2) α2 H2 fun fl α' _ H'=>zdO X.K D fl α' H',⟨n,α,m,ρ,W,hr,h⟩,?_⟩
  rintro k σ2 H2 ⟨α2,m2,ρ2,W2,hr2,q2⟩
  cases k with
  | zero=>exact q2.elim
  | succ k =>
   rw [zfg] at q2
   refine tDT.use W2 hr2 q2 fun α3 m3 H3 b E3 W3 hr3 q3=>?_
   cases b with
   | false=>exact PQ.ok W3 q3 σ2 hr3
   | true =>
    refine ⟨fun σ4 H4=>∃ α4 m4 ρ4,Wd X.K cl α4 m4 H4/\RepE X.K α4 H4 ρ4 σ4/\PQ X.K cl ex (zfg ta f k ρ4 m4) α4 H4 fun fl α' _ H'=>zdO X.K D fl α' H',fun σ4 H4 q4=>⟨k,Nat.lt_succ_self _,q4⟩,?_⟩
    refine ⟨α3,ρ2,m3,W3,hr3,PQ.mono (Ext.refl W3) q3.bind fun fl α5 m5 H5 E5 W5 q5=>?_⟩
    cases fl with
    | nx ρ5=>exact fun σ5 hr5=>⟨α5,m5,ρ5,W5,hr5,q5⟩
    | ct ρ5=>exact fun σ5 hr5=>⟨α5,m5,ρ5,W5,hr5,q5⟩
    | bk ρ5=>exact PQ.ok W5 q5
    | rt d=>exact PQ.ok W5 q5⟩
end
end MD
namespace L2
open PySem PySem.Spec PyProof.Rows
abbrev CQ:=PySem.W.Frag->Hp->Addr->List V->Prop
structure SeqKd (c:CQ) (IsS:Heap->Addr->Array Value->Prop) (IsI:Heap->Addr->Addr->Nat->Prop):Prop where
 obj:∀ h it l i,IsI h it l i->∃ o,h.get? it=some o/\∀ v,o.data ≠ .cell v
 kp:∀ (h h':Heap) it l i,IsI h it l i->(∀ o,h.get? it=some o->h'.get? it=some o)->IsI h' it l i
 seq:∀ (X:Cx) (pins:List (Addr × Obj)) (σ : St) (H:Hp) (s:Shared) (l:Addr) (xs:List V),Inv X pins σ H s->c X.K H l xs->∃ its:List Value,Vals xs its/\IsS s.heap l its.toArray
 dr:∀ (P:Program) (w:World) (A:Around),A.handled=none->∀ (it l:Addr),l≠it->∀ items:Array Value,Draws P w A it [it,l] items.size (fun i v=>items[i]?=some v) (fun i h=>IsI h it l i/\IsS h l items)
 ne:∀ (X:Cx) (pins:List (Addr × Obj)) (σ : St) (H:Hp) (s:Shared) (l:Addr) (xs:List V) (b:Addr),Inv X pins σ H s->c X.K H l xs->zfR X pins H b->l≠b
 inj:∀ (X:Cx) (pins:List (Addr × Obj)) (σ : St) (H:Hp) (s:Shared) (l:Addr) (xs ys:List V),Inv X pins σ H s->c X.K H l xs->c X.K H l ys->xs=ys
variable {X:Cx} {pins:List (Addr × Obj)} {σ : St} {H:Hp} {s:Shared} {l b:Addr}
theorem zpr {o:Obj} (I:Inv X pins σ H s) (e:X.K.lookup l=some o) (f:zfR X pins H b):l≠b:=fun z=>by
 subst z
 have hb:X.base.get? l=some o:=I.mod.kin l o e
 rcases f.2.2.2.1 with h | h
 ·exact I.ok.noex l o hb h
 ·have h1:=Heap.lt_size hb
  have h2:=I.ok.bsz
  exact absurd (Nat.lt_of_lt_of_le h1 (Nat.le_trans h2 h)) (Nat.lt_irrefl _)
theorem rd_ne {u:HO} (h:Rd H l u) (n:H b=none):l≠b:=by
 rcases h with h | ⟨o,h⟩
 ·exact zaq h n
 ·exact zaq h n
theorem sq_lst:SeqKd SqL Heap.IsList Heap.IsListIter where
 obj:=seq_lst.obj
 kp:=seq_lst.kp
 seq:=fun X pins σ H s l xs I e=>by
  obtain ⟨its,r,p,_⟩:=I.list e
  exact ⟨its,r,p.isList⟩
 dr:=seq_lst.dr
 ne:=fun X pins σ H s l xs b I e f=>by
  rcases e with e | ⟨o,_,_,e,_⟩
  ·exact rd_ne e f.1
  ·exact zpr I e f
 inj:=fun X pins σ H s l xs ys I=>I.list_inj
theorem sq_tup:SeqKd SqT Heap.IsTuple Heap.IsTupleIter where
 obj:=seq_tup.obj
 kp:=seq_tup.kp
 seq:=fun X pins σ H s l xs I e=>by
  obtain ⟨its,r,p,_⟩:=I.tuple e
  exact ⟨its,r,p⟩
 dr:=seq_tup.dr
 ne:=fun X pins σ H s l xs b I e f=>by
  rcases e with e | ⟨o,_,_,e,_⟩
  ·exact rd_ne e f.1
  ·exact zpr I e f
 inj:=fun X pins σ H s l xs ys I=>I.tuple_inj
def IteQ (c:CQ) (K:PySem.W.Frag) (l:Addr):It :=
 ⟨fun i H=>∃ xs x,c K H l xs/\xs[i]?=some x,fun i H x H'=>∃ T y,H T=none/\x = .ref T/\(∀ xs,c K H l xs->xs[i]?=some y)/\H'=upd H T (.tup [.int (i:Int),y]),fun i H=>∃ xs,c K H l xs/\xs.length=i⟩
variable {c:CQ} {IsS:Heap->Addr->Array Value->Prop} {IsI:Heap->Addr->Addr->Nat->Prop} {P:Program} {K:PySem.W.Frag} {elts:List Expr} {kt:Nat}
theorem zlS (S:SeqKd c IsS IsI) {w:World} {pt:Pos} {e it:Addr} (hei:e≠it) :
  Turn P w K (.Tuple elts kt pt) (IteQ c K l) [e,it] e (fun i h=>(∃ old,IsEnum h e it i old)/\IsI h it l i) where
 mem:=by simp
 obj:=fun i h st b hb=>by
  obtain ⟨⟨old,he⟩,st⟩:=st
  have q:b=e∨b=it:=by simpa using hb
  rcases q with rfl | rfl
  ·exact ⟨_,he,fun v z=>by cases z⟩
  ·exact S.obj _ _ _ _ st
 keep:=fun i h h' st k=>⟨let ⟨old,he⟩:=st.1; ⟨old,k e (by simp) _ he⟩,S.kp _ _ _ _ _ st.2 fun o q=>k it (by simp) o q⟩
 item:=by
  intro X hP' hw hK hc i pins s σ H E I hf st hg
  subst hP' hw hK
  obtain ⟨xs,y,hl,hy⟩:=hg
  obtain ⟨its,rv,p⟩:=S.seq X pins σ H s l xs I hl
  obtain ⟨u,hu,ru⟩:=rv.get hy
  have fe:=hf e (by simp)
  have fi:=hf it (by simp)
  have hle:l≠e:=S.ne X pins σ H s l xs e I hl fe
  have hli:l≠it:=S.ne X pins σ H s l xs it I hl fi
  have hlt:i < its.toArray.size:=by
   have:=List.getElem?_eq_some_iff.mp hu
   simpa using this.1
  obtain ⟨⟨old,he⟩,hs⟩:=st
  have het:e < s.heap.objs.size:=Heap.lt_size he
  have hit:it < s.heap.objs.size:=by obtain ⟨o,q,_⟩:=S.obj _ _ _ _ hs; exact Heap.lt_size q
  refine wpAny_pyNext_enum_itemD (S.dr X.prog X.w X.A.in1 (I.ok.hd hc) it l hli its.toArray) he ⟨hs,p⟩ hlt hei (by simp [hei,Ne.symm hle]) fun x h' tk hx ho' hs' hT hsz hk=>?_
  refine ⟨.ref s.heap.objs.size,rfl,wpAny_letOwnedTupleGo_enum (s:={ s with heap:=h',toks:=tk+1 }) ho' fun h2 he2 hs2=>?_⟩
  have hxu:x=u:=by
   have h1:its[i]?=some x:=by simpa using hx
   rw [hu] at h1
   exact (Option.some.inj h1).symm
  subst hxu
  have hT2:h2.get? s.heap.objs.size=some { cls := .type "tuple", data := .seq #[.int i tk,x] }:=(hs2.2 _ (Nat.ne_of_gt het)).trans hT
  have new:ObjOk X.prog X.w (upd H s.heap.objs.size (.tup [.int (i:Int),y])) h2 s.heap.objs.size (.tup [.int (i:Int),y]):=⟨(by show 2<=sizeLine; decide),[.int i tk,x],.cons ⟨tk,rfl⟩ (.cons ru .nil),⟨_,hT2,rfl,_,rfl⟩,_,hT2,rfl⟩
  refine ⟨.ref s.heap.objs.size,_,I.turn2l fe fi (fun c o c1 c2 q=>(hs2.2 c c1).trans (hk c o c1 c2 q)) (Nat.le_refl _) new,rfl,⟨s.heap.objs.size,y,I.hok.fresh (Nat.le_refl _),rfl,fun us h=>by rw [S.inj X pins σ H s l us xs I h hl]; exact hy,rfl⟩,⟨⟨x,by simpa using he2⟩,S.kp _ _ _ _ _ hs'.1 fun o q=>(hs2.2 it (Ne.symm hei)).trans q⟩,fun b hb=>?_⟩
  have q:b=e∨b=it:=by simpa using hb
  rcases q with rfl | rfl
  ·rw [zav (Nat.ne_of_lt het)]; exact fe.1
  ·rw [zav (Nat.ne_of_lt hit)]; exact fi.1
 done:=by
  intro X hP' hw hK hc i pins s σ H E I hf st hg
  subst hP' hw hK
  obtain ⟨xs,hl,hn⟩:=hg
  obtain ⟨its,rv,p⟩:=S.seq X pins σ H s l xs I hl
  have fe:=hf e (by simp)
  have fi:=hf it (by simp)
  have hle:l≠e:=S.ne X pins σ H s l xs e I hl fe
  have hli:l≠it:=S.ne X pins σ H s l xs it I hl fi
  have hi:i=its.toArray.size:=by rw [<- hn,rv.length]; simp
  subst hi
  have W:=WalksT.enumerateD (S.dr X.prog X.w X.A.in1 (I.ok.hd hc) it l hli its.toArray) e hei (by simp [hei,Ne.symm hle]) (by simp)
  exact W.done s _ _ ⟨st.1,st.2,p⟩ fun h' tk kk=>⟨rfl,I.turn2 fe fi fun c o c1 c2 q=>kk c o (by simp [c1,c2]) q⟩
 self:=fun A i s Q E st q=>by
  obtain ⟨⟨old,he⟩,_⟩:=st
  exact wpAny_pyIter_enum he q
def zra (c:CQ) (K:PySem.W.Frag) (te:TE):TI:=fun σ H R=>te σ H fun x H1=>∃ l xs,[x]=[V.ref l]/\c K H1 l xs/\R (IteQ c K l) H1
variable {p pos:Pos} {R:It->Hp->Prop} {h':Heap}
section
variable {pt:Pos} {e:Expr} {te:TE}
theorem zjw (S:SeqKd c IsS IsI) (I:Inv X pins σ H s)
  (he:IsEnum h' (s.heap.objs.size+1) s.heap.objs.size 0 .none) (hi:IsI h' s.heap.objs.size l 0) (k:∀ b o,s.heap.get? b=some o->h'.get? b=some o) (q:R (IteQ c X.K l) H) :
  PIE X pins σ (.Tuple elts kt pt) R (.ref (s.heap.objs.size+1)) { s with heap:=h' }:=by
 refine ⟨s.heap.objs.size+1,[s.heap.objs.size+1,s.heap.objs.size],_,_,H,rfl,I.kept (t':=s.toks) k,zlS S (Nat.ne_of_gt (Nat.lt_succ_self _)),⟨⟨.none,he⟩,hi⟩,fun b hb=>?_,q⟩
 have e:b=s.heap.objs.size+1∨b=s.heap.objs.size:=by simpa using hb
 rcases e with rfl | rfl
 ·exact I.fpOk (Nat.le_succ _) (I.hok.fresh (Nat.le_succ _))
 ·exact I.fpOk (Nat.le_refl _) (I.hok.fresh (Nat.le_refl _))
theorem znJ (hg:Gl X "enumerate") (hm:X.mg "enumerate" = none) (he:PE X e te) (hs:autoParam (starEach [e] X.env=[(false,eval e X.env)]) AutoP.a3._auto_1):PI X (.Tuple elts kt pt) (.Call (.Name "enumerate" p) [e] [] pos) (zra SqL X.K te):=by
 intro pins s σ H R I h
 refine Call_ (zec I hg hm boot_enumerate (PyProof.Rows.callWith_type1 (thn (zbO he zeT hs pos pins s σ H (fun zs H1=>∃ l xs,zs=[V.ref l]/\SqL X.K H1 l xs/\R (IteQ SqL X.K l) H1) I h) fun us s1 ⟨vs,H1,I1,r1,q1⟩=>?_) hs rfl))
 obtain ⟨l,xs,rfl,hl,q⟩:=q1
 obtain ⟨u,rfl,ru⟩:=zcn r1
 cases ru
 obtain ⟨its,rv,pl⟩:=sq_lst.seq X pins σ H1 s1 l xs I1 hl
 exact call_enumerate_list pl fun h' hen hit _ k=>wpAny_pyIter_enum hen (zjw sq_lst I1 hen hit k q)
theorem znI (hg:Gl X "enumerate") (hm:X.mg "enumerate" = none) (he:PE X e te) (hs:autoParam (starEach [e] X.env=[(false,eval e X.env)]) AutoP.a3._auto_1):PI X (.Tuple elts kt pt) (.Call (.Name "enumerate" p) [e] [] pos) (zra SqT X.K te):=by
 intro pins s σ H R I h
 refine Call_ (zec I hg hm boot_enumerate (PyProof.Rows.callWith_type1 (thn (zbO he zeT hs pos pins s σ H (fun zs H1=>∃ l xs,zs=[V.ref l]/\SqT X.K H1 l xs/\R (IteQ SqT X.K l) H1) I h) fun us s1 ⟨vs,H1,I1,r1,q1⟩=>?_) hs rfl))
 obtain ⟨l,xs,rfl,hl,q⟩:=q1
 obtain ⟨u,rfl,ru⟩:=zcn r1
 cases ru
 obtain ⟨its,rv,pl⟩:=sq_tup.seq X pins σ H1 s1 l xs I1 hl
 exact ze5 pl fun h' hen hit k=>wpAny_pyIter_enum hen (zjw sq_tup I1 hen hit k q)
end
def zmM (c1 c2:CQ) (K:PySem.W.Frag) (l1 l2:Addr):It :=
 ⟨fun i H=>∃ xs ys x y,c1 K H l1 xs/\c2 K H l2 ys/\xs[i]?=some x/\ys[i]?=some y,fun i H v H'=>∃ T x y,H T=none/\v = .ref T/\(∀ xs,c1 K H l1 xs->xs[i]?=some x)/\(∀ ys,c2 K H l2 ys->ys[i]?=some y)/\H'=upd H T (.tup [x,y]),fun i H=>∃ xs,c1 K H l1 xs/\xs.length=i⟩
variable {c1 c2:CQ} {IsS1 IsS2:Heap->Addr->Array Value->Prop} {IsI1 IsI2:Heap->Addr->Addr->Nat->Prop} {l2:Addr}
theorem zmW (S1:SeqKd c1 IsS1 IsI1) (S2:SeqKd c2 IsS2 IsI2) {w:World} {pt:Pos} {z TI TO i1 i2 l1:Addr} (nTO:TO≠z) (nTI:TI≠z) (n1z:i1≠z) (n2z:i2≠z) (nTT:TI≠TO) (n1I:TI≠i1) (n2I:TI≠i2) (n1T:i1≠TO) (n2T:i2≠TO) (n12:i1≠i2) :
  Turn P w K (.Tuple elts kt pt) (zmM c1 c2 K l1 l2) [z,TI,TO,i1,i2] z (fun i h=>IsZip h z TI TO .none/\IsPair h TI (.ref i1) (.ref i2)/\(∃ a b,IsPair h TO a b)/\IsI1 h i1 l1 i/\IsI2 h i2 l2 i) where
 mem:=by simp
 obj:=fun i h st b hb=>by
  obtain ⟨h1,h2,⟨a,c,h3⟩,h4,h5⟩:=st
  simp only [List.mem_cons,List.not_mem_nil,or_false] at hb
  rcases hb with rfl | rfl | rfl | rfl | rfl
  ·exact ⟨_,h1,fun v z=>by cases z⟩
  ·exact ⟨_,h2,fun v z=>by cases z⟩
  ·exact ⟨_,h3,fun v z=>by cases z⟩
  ·exact S1.obj _ _ _ _ h4
  ·exact S2.obj _ _ _ _ h5
 keep:=fun i h h' st k=>by
  obtain ⟨h1,h2,⟨a,c,h3⟩,h4,h5⟩:=st
  exact ⟨k _ (by simp) _ h1,k _ (by simp) _ h2,⟨a,c,k _ (by simp) _ h3⟩,S1.kp _ _ _ _ _ h4 fun o q=>k _ (by simp) o q,S2.kp _ _ _ _ _ h5 fun o q=>k _ (by simp) o q⟩
 item:=by
  intro X hP' hw hK hc i pins s σ H E I hf st hg
  subst hP' hw hK
  obtain ⟨xs,ys,x,y,hl1,hl2,hx,hy⟩:=hg
  obtain ⟨its1,rv1,p1⟩:=S1.seq X pins σ H s l1 xs I hl1
  obtain ⟨its2,rv2,p2⟩:=S2.seq X pins σ H s l2 ys I hl2
  obtain ⟨u1,hu1,ru1⟩:=rv1.get hx
  obtain ⟨u2,hu2,ru2⟩:=rv2.get hy
  have fz:=hf z (by simp)
  have fT:=hf TO (by simp)
  have f1:=hf i1 (by simp)
  have f2:=hf i2 (by simp)
  have hlt1:i < its1.toArray.size:=by
   have:=List.getElem?_eq_some_iff.mp hu1
   simpa using this.1
  have hlt2:i < its2.toArray.size:=by
   have:=List.getElem?_eq_some_iff.mp hu2
   simpa using this.1
  obtain ⟨h1,h2,⟨a,c,h3⟩,h4,h5⟩:=st
  have a1:=S1.ne X pins σ H s l1 xs z I hl1 fz
  have a2:=S1.ne X pins σ H s l1 xs TO I hl1 fT
  have a3:=S1.ne X pins σ H s l1 xs i1 I hl1 f1
  have a4:=S1.ne X pins σ H s l1 xs i2 I hl1 f2
  have b1:=S2.ne X pins σ H s l2 ys z I hl2 fz
  have b2:=S2.ne X pins σ H s l2 ys TO I hl2 fT
  have b3:=S2.ne X pins σ H s l2 ys i1 I hl2 f1
  have b4:=S2.ne X pins σ H s l2 ys i2 I hl2 f2
  refine zdw (S1.dr X.prog X.w X.A.in1 (I.ok.hd hc) i1 l1 a3 its1.toArray) (S2.dr X.prog X.w X.A.in1 (I.ok.hd hc) i2 l2 b4 its2.toArray) h1 h2 h3 ⟨h4,p1⟩ ⟨h5,p2⟩ hlt1 hlt2 nTO nTI n1z n2z n1T n2T
   (by simp [Ne.symm n1z,Ne.symm a1]) (by simp [Ne.symm n1T,Ne.symm a2]) (by simp [Ne.symm n12,Ne.symm a4]) (by simp [Ne.symm n2z,Ne.symm b1]) (by simp [Ne.symm n2T,Ne.symm b2]) (by simp [n12,Ne.symm b3]) fun v1 v2 h' tk e1 e2 q1 q2 q3 q4 q5 q6 q7=>?_
  refine ⟨.ref s.heap.objs.size,rfl,wpAny_letOwnedTupleGo_zip (s:={ s with heap:=h',toks:=tk }) q1 fun g r1 r2=>?_⟩
  have hv1:v1=u1:=by
   have h1:its1[i]?=some v1:=by simpa using e1
   rw [hu1] at h1
   exact (Option.some.inj h1).symm
  have hv2:v2=u2:=by
   have h1:its2[i]?=some v2:=by simpa using e2
   rw [hu2] at h1
   exact (Option.some.inj h1).symm
  subst hv1 hv2
  have hzt:z < s.heap.objs.size:=Heap.lt_size h1
  have hT2:g.get? s.heap.objs.size=some { cls := .type "tuple", data := .seq #[v1,v2] }:=(r2.2 _ (Nat.ne_of_gt hzt)).trans q5
  have new:ObjOk X.prog X.w (upd H s.heap.objs.size (.tup [x,y])) g s.heap.objs.size (.tup [x,y]):=⟨(by show 2<=sizeLine; decide),[v1,v2],.cons ru1 (.cons ru2 .nil),⟨_,hT2,rfl,_,rfl⟩,_,hT2,rfl⟩
  refine ⟨.ref s.heap.objs.size,_,I.turnNl (ch:=[z,TO,i1,i2]) (fun b hb=>hf b ?_) (fun c o hc q=>(r2.2 c ?_).trans (q7 c o ?_ ?_ ?_ ?_ q)) (Nat.le_refl _) new,rfl,⟨s.heap.objs.size,x,y,I.hok.fresh (Nat.le_refl _),rfl,(fun us h=>by rw [S1.inj X pins σ H s l1 us xs I h hl1]; exact hx),(fun us h=>by rw [S2.inj X pins σ H s l2 us ys I h hl2]; exact hy),rfl⟩,⟨r1,(r2.2 _ nTI).trans (q7 _ _ nTI nTT n1I n2I h2),⟨_,_,(r2.2 _ nTO).trans q2⟩,S1.kp _ _ _ _ _ q3.1 fun o q=>(r2.2 _ n1z).trans q,S2.kp _ _ _ _ _ q4.1 fun o q=>(r2.2 _ n2z).trans q⟩,fun b hb=>?_⟩
  ·simp only [List.mem_cons,List.not_mem_nil,or_false] at hb ⊢
   rcases hb with h | h | h | h <;> simp [h]
  ·exact fun z=>hc (by simp [z])
  ·exact fun z=>hc (by simp [z])
  ·exact fun z=>hc (by simp [z])
  ·exact fun z=>hc (by simp [z])
  ·exact fun z=>hc (by simp [z])
  ·have fb:=hf b hb
   have lt:b < s.heap.objs.size:=by
    simp only [List.mem_cons,List.not_mem_nil,or_false] at hb
    rcases hb with rfl | rfl | rfl | rfl | rfl
    ·exact hzt
    ·exact Heap.lt_size h2
    ·exact Heap.lt_size h3
    ·obtain ⟨o,q,_⟩:=S1.obj _ _ _ _ h4; exact Heap.lt_size q
    ·obtain ⟨o,q,_⟩:=S2.obj _ _ _ _ h5; exact Heap.lt_size q
   rw [zav (Nat.ne_of_lt lt)]
   exact fb.1
 done:=by
  intro X hP' hw hK hc i pins s σ H E I hf st hg
  subst hP' hw hK
  obtain ⟨xs,hl1,hn⟩:=hg
  obtain ⟨its1,rv1,p1⟩:=S1.seq X pins σ H s l1 xs I hl1
  have fz:=hf z (by simp)
  have f1:=hf i1 (by simp)
  obtain ⟨h1,h2,⟨a,c,h3⟩,h4,h5⟩:=st
  have a1:=S1.ne X pins σ H s l1 xs z I hl1 fz
  have a3:=S1.ne X pins σ H s l1 xs i1 I hl1 f1
  have hi:i=its1.toArray.size:=by rw [<- hn,rv1.length]; simp
  subst hi
  refine zdy (S1.dr X.prog X.w X.A.in1 (I.ok.hd hc) i1 l1 a3 its1.toArray) h1 h2 h3 ⟨h4,p1⟩ nTO n1z (by simp [Ne.symm n1z,Ne.symm a1]) fun h' k=>⟨rfl,I.turnN (t':=s.toks) (ch:=[z,TO,i1,i2]) (fun b hb=>hf b ?_) fun c o hc q=>k c o (fun z=>hc (by simp [z])) (fun z=>hc (by simp [z])) (fun z=>hc (by simp [z])) (fun z=>hc (by simp [z])) q⟩
  simp only [List.mem_cons,List.not_mem_nil,or_false] at hb ⊢
  rcases hb with h | h | h | h <;> simp [h]
 self:=fun A i s Q E st q=>wpAny_pyIter_zip st.1 q
def iZipQ (c1 c2:CQ) (K:PySem.W.Frag) (te1 te2:TE):TI:=fun σ H R=>te1 σ H fun x H1=>te2 σ H1 fun y H2=>∃ l1 l2 xs ys,[x,y]=[V.ref l1,V.ref l2]/\c1 K H2 l1 xs/\c2 K H2 l2 ys/\R (zmM c1 c2 K l1 l2) H2
section
variable {pt:Pos} {e1 e2:Expr} {te1 te2:TE}
theorem zkN (S1:SeqKd c1 IsS1 IsI1) (S2:SeqKd c2 IsS2 IsI2) {H1:Hp} {s1:Shared} {l1:Addr} (I1:Inv X pins σ H1 s1)
  (a1:IsZip h' (s1.heap.objs.size+4) (s1.heap.objs.size+2) (s1.heap.objs.size+3) .none) (a2:IsPair h' (s1.heap.objs.size+2) (.ref s1.heap.objs.size) (.ref (s1.heap.objs.size+1))) (a3:IsPair h' (s1.heap.objs.size+3) .none .none)
  (a4:IsI1 h' s1.heap.objs.size l1 0) (a5:IsI2 h' (s1.heap.objs.size+1) l2 0) (k:∀ b o,s1.heap.get? b=some o->h'.get? b=some o) (q:R (zmM c1 c2 X.K l1 l2) H1) :
  PIE X pins σ (.Tuple elts kt pt) R (.ref (s1.heap.objs.size+4)) { s1 with heap:=h' }:=by
 have nn:∀ i j:Nat,i≠j->s1.heap.objs.size+i≠s1.heap.objs.size+j:=fun i j h e=>h (by exact Nat.add_left_cancel e)
 refine ⟨s1.heap.objs.size+4,[s1.heap.objs.size+4,s1.heap.objs.size+2,s1.heap.objs.size+3,s1.heap.objs.size,s1.heap.objs.size+1],_,_,H1,rfl,I1.kept (t':=s1.toks) k,zmW S1 S2 (nn 3 4 (by decide)) (nn 2 4 (by decide)) (nn 0 4 (by decide)) (nn 1 4 (by decide)) (nn 2 3 (by decide)) (nn 2 0 (by decide)) (nn 2 1 (by decide)) (nn 0 3 (by decide)) (nn 1 3 (by decide)) (nn 0 1 (by decide)),⟨a1,a2,⟨_,_,a3⟩,a4,a5⟩,fun b hb=>?_,q⟩
 have le:s1.heap.objs.size<=b:=by
  simp only [List.mem_cons,List.not_mem_nil,or_false] at hb
  rcases hb with h | h | h | h | h
  ·rw [h]; exact Nat.le_add_right _ _
  ·rw [h]; exact Nat.le_add_right _ _
  ·rw [h]; exact Nat.le_add_right _ _
  ·rw [h]; exact Nat.le_refl _
  ·rw [h]; exact Nat.le_add_right _ _
 exact I1.fpOk le (I1.hok.fresh le)
theorem znE (hg:Gl X "zip") (hm:X.mg "zip" = none) (he1:PE X e1 te1) (he2:PE X e2 te2) (hs:autoParam (starEach [e1,e2] X.env=(false,eval e1 X.env)::starEach [e2] X.env) AutoP.a3._auto_1) (hs2:autoParam (starEach [e2] X.env=[(false,eval e2 X.env)]) AutoP.a3._auto_1):PI X (.Tuple elts kt pt) (.Call (.Name "zip" p) [e1,e2] [] pos) (iZipQ SqT SqL X.K te1 te2):=by
 intro pins s σ H R I h
 refine Call_ (zec I hg hm boot_zip (PyProof.Rows.callWith_type1 (thn (zbO he1 (zbO he2 zeT hs2) hs pos pins s σ H (fun zs H1=>∃ l1 l2 xs ys,zs=[V.ref l1,V.ref l2]/\SqT X.K H1 l1 xs/\SqL X.K H1 l2 ys/\R (zmM SqT SqL X.K l1 l2) H1) I h) fun us s1 ⟨vs,H1,I1,r1,q1⟩=>?_) hs (by rw [hs2]; rfl)))
 obtain ⟨l1,l2,xs,ys,rfl,hl1,hl2,q⟩:=q1
 obtain ⟨u,v,rfl,ru,rv⟩:=zjW r1
 cases ru
 cases rv
 obtain ⟨its1,rv1,p1⟩:=sq_tup.seq X pins σ H1 s1 l1 xs I1 hl1
 obtain ⟨its2,rv2,p2⟩:=sq_lst.seq X pins σ H1 s1 l2 ys I1 hl2
 exact zkH p1 p2 fun h' a1 a2 a3 a4 a5 k=>wpAny_pyIter_zip a1 (zkN sq_tup sq_lst I1 a1 a2 a3 a4 a5 k q)
theorem znD (hg:Gl X "zip") (hm:X.mg "zip" = none) (he1:PE X e1 te1) (he2:PE X e2 te2) (hs:autoParam (starEach [e1,e2] X.env=(false,eval e1 X.env)::starEach [e2] X.env) AutoP.a3._auto_1) (hs2:autoParam (starEach [e2] X.env=[(false,eval e2 X.env)]) AutoP.a3._auto_1):PI X (.Tuple elts kt pt) (.Call (.Name "zip" p) [e1,e2] [] pos) (iZipQ SqT SqT X.K te1 te2):=by
 intro pins s σ H R I h
 refine Call_ (zec I hg hm boot_zip (PyProof.Rows.callWith_type1 (thn (zbO he1 (zbO he2 zeT hs2) hs pos pins s σ H (fun zs H1=>∃ l1 l2 xs ys,zs=[V.ref l1,V.ref l2]/\SqT X.K H1 l1 xs/\SqT X.K H1 l2 ys/\R (zmM SqT SqT X.K l1 l2) H1) I h) fun us s1 ⟨vs,H1,I1,r1,q1⟩=>?_) hs (by rw [hs2]; rfl)))
 obtain ⟨l1,l2,xs,ys,rfl,hl1,hl2,q⟩:=q1
 obtain ⟨u,v,rfl,ru,rv⟩:=zjW r1
 cases ru
 cases rv
 obtain ⟨its1,rv1,p1⟩:=sq_tup.seq X pins σ H1 s1 l1 xs I1 hl1
 obtain ⟨its2,rv2,p2⟩:=sq_tup.seq X pins σ H1 s1 l2 ys I1 hl2
 exact zkG p1 p2 fun h' a1 a2 a3 a4 a5 k=>wpAny_pyIter_zip a1 (zkN sq_tup sq_tup I1 a1 a2 a3 a4 a5 k q)
end
end L2
set_option autoImplicit false
namespace MD
open PySem PySem.Spec PyProof.Rows L2
theorem Res.bind_assoc {α β γ : Type} (r:Res α) (k:α -> Sto->Res β) (l : β -> Sto->Res γ):(r.bind k).bind l=r.bind fun a m=>(k a m).bind l:=by
 cases r <;> rfl
theorem Res.bind_ok' {α : Type} (r:Res α):(r.bind fun a m => .ok a m)=r:=by cases r <;> rfl
theorem RepL.append {K:PySem.W.Frag} {α : List Addr} {H:Hp}:∀ {ds es:List D} {vs ws:List V},RepL K α H ds vs->RepL K α H es ws->RepL K α H (ds++es) (vs++ws)
 | [],_,_,_,h1,h2=>by rw [RepL] at h1; subst h1; exact h2
 | _::_,_,_,_,h1,h2=>by
  rw [RepL] at h1
  obtain ⟨v,r,rfl,a,b⟩:=h1
  rw [List.cons_append,RepL]
  exact ⟨v,r++_,rfl,a,RepL.append b h2⟩
variable {α : List Addr} {K:PySem.W.Frag} {H:Hp} {d:D} {v:V}
theorem RepL.one (h:Rep K α H d v):RepL K α H [d] [v]:=by
 rw [RepL]
 exact ⟨v,[],rfl,h,by rw [RepL]⟩
theorem RepL.get {K:PySem.W.Frag} {α : List Addr} {H:Hp}:∀ {ds:List D} {vs:List V} {i:Nat} {d:D},RepL K α H ds vs->ds[i]?=some d->∃ v,vs[i]?=some v/\Rep K α H d v
 | [],_,_,_,_,e=>by simp at e
 | _::_,_,0,_,h,e=>by
  rw [RepL] at h
  obtain ⟨v,r,rfl,a,b⟩:=h
  simp at e
  subst e
  exact ⟨v,rfl,a⟩
 | _::_,_,i+1,d,h,e=>by
  rw [RepL] at h
  obtain ⟨v,r,rfl,a,b⟩:=h
  obtain ⟨w,h1,h2⟩:=RepL.get (i:=i) (d:=d) b (by simpa using e)
  exact ⟨w,by simpa using h1,h2⟩
variable {cl:Str->Addr} {ex:XD} {gt:GV} {ta:TV} {fa:EV} {n:Nat} {σ : L2.St}
section
variable {fr:AV}
theorem zkY {fin:List V->Hp->Prop} (h:∃ α ρ m,Wd K cl α m H/\RepE K α H ρ σ /\ PQ K cl ex (zbR n fr gt ta fa ρ m) α H fun ds α' _ H'=>∀ vs,RepL K α' H' ds vs->fin vs H') :
  zpJ n (tDI K cl ex fr) (tDG K cl ex gt) (tDT K cl ex ta) (tD K cl ex fa) fin σ H:=by
 obtain ⟨α,ρ,m,W,hr,h⟩:=h
 refine ⟨α,ρ,m,W,hr,PQ.mono (Ext.refl W) h.bind fun ds α1 m1 H1 E1 W1 q J hJ=>?_⟩
 obtain ⟨hk,q⟩:=PQ.if q
 have hr1:=hr.mono W E1
 refine zpf (k:=ds.length) (fun i ys H2=>∃ α2 m2 done,Ext α1 H1 α2 H2/\Wd K cl α2 m2 H2/\RepL K α2 H2 done ys/\done.length<=i/\PQ K cl ex ((zez gt ta fa (ρ ++ List.replicate n none) (ds.drop i) m2).bind fun xs m4 => .ok (done++xs) m4) α2 H2 fun ds α' _ H'=>∀ vs,RepL K α' H' ds vs->fin vs H') hk ?_ ?_ ?_ ?_
 ·refine ⟨α1,m1,[],Ext.refl W1,W1,by rw [RepL],Nat.le_refl _,?_⟩
  simp only [List.nil_append,List.drop_zero,Res.bind_ok']
  exact q
 ·rintro i ys H2 ⟨_,_,done,_,_,r,l,_⟩
  rw [<- r.length]
  exact l
 ·rintro i ys H2 hi ⟨α2,m2,done,E2,W2,r2,l2,q2⟩
  have hd:ds[i]?=some ds[i]:=by simp [hi]
  obtain ⟨g1,g2⟩:=(hJ i α2 m2 H2 E2 W2).1 _ hd
  refine ⟨g1,fun x H3 y=>?_⟩
  obtain ⟨sm,rx⟩:=g2 x H3 y
  have Es:=Ext.of_same W2 sm
  have W3:=W2.same sm
  rw [List.drop_eq_getElem_cons hi,zez,Res.bind_assoc] at q2
  have E23:=E2.trans Es
  refine ⟨α2,ρ ++ List.replicate n none,m2,ds[i],W3,(hr1.mono W1 E23).more n,rx,PQ.mono Es q2.bind fun ρ4 α4 m4 H4 E4 W4 q4 σ4 hr4=>?_⟩
  rw [Res.bind_assoc] at q4
  refine tDT.use W4 hr4 q4 fun α5 m5 H5 b E5 W5 hr5 q5=>?_
  have E45:=E4.trans E5
  cases b with
  | false=>exact ⟨α5,m5,done,E23.trans E45,W5,(r2.mono W2 Es).mono W3 E45,Nat.le_succ_of_le l2,q5⟩
  | true =>
   have q5':PQ K cl ex (((fa ρ4 m5).bind fun x m3=>(zez gt ta fa (ρ ++ List.replicate n none) (ds.drop (i+1)) m3).bind fun xs m4 => .ok (x::xs) m4).bind fun xs m4 => .ok (done++xs) m4) α5 H5 fun ds α' _ H'=>∀ vs,RepL K α' H' ds vs->fin vs H':=q5
   rw [Res.bind_assoc] at q5'
   refine tD.use W5 hr5 q5' fun α6 m6 H6 d v E6 W6 hr6 rv q6=>?_
   rw [Res.bind_assoc] at q6
   refine ⟨α6,m6,done++[d],E23.trans (E45.trans E6),W6,RepL.append (((r2.mono W2 Es).mono W3 E45).mono W5 E6) (RepL.one rv),by rw [List.length_append]; show done.length+1<=i+1; omega,?_⟩
   simp only [List.append_assoc,List.singleton_append]
   exact q6
 ·rintro ys H2 ⟨α2,m2,done,E2,W2,r2,l2,q2⟩
  rw [List.drop_of_length_le (Nat.le_refl _),zez] at q2
  refine ⟨(hJ ds.length α2 m2 H2 E2 W2).2 rfl,?_⟩
  have q3:PQ K cl ex (.ok (done++[]) m2) α2 H2 fun ds α' _ H'=>∀ vs,RepL K α' H' ds vs->fin vs H':=q2
  rw [List.append_nil] at q3
  exact PQ.ok W2 q3 ys r2
end
def gL1 (ds:List D) (m:Sto):Res D := .ok (.lst ds) m
def zgd (z:Str):List D:=(List.range z.cps.size).map fun i => .str ⟨#[z.cps.getD i 0]⟩
def zmH (d:D) (m:Sto):Res (List D):=match d with
 | .tup ds => .ok ds m
 | .lst ds => .ok ds m
 | .str z => .ok (zgd z) m
 | .scr ds => .ok ds m
 | _ => .bad
def aIt (fa:EV):AV:=fun ρ m=>(fa ρ m).bind zmH
def zcU (lo:Int) (n:Nat):List D:=(List.range n).map fun i => .int (lo+(i:Nat))
def zrR (ds:List D) (m:Sto):Res (List D):=match ds with
 | [.int j]=>if -(2 ^ 62)<=j/\j < 2 ^ 62 then .ok (zcU 0 j.toNat) m else .bad
 | _ => .bad
theorem znm:∃ f:List D->Sto->Res (List D),f=zrR:=⟨_,rfl⟩
def zj7:List D->Sto->Res (List D):=Classical.choose znm
theorem znn:zj7=zrR:=Classical.choose_spec znm
def zrQ (ds:List D) (m:Sto):Res (List D):=match ds with
 | [.int i,.int j]=>if -(2 ^ 62)<=i/\i < 2 ^ 62 /\ -(2 ^ 62)<=j/\j < 2 ^ 62 then .ok (zcU i (j - i).toNat) m else .bad
 | _ => .bad
theorem znk:∃ f:List D->Sto->Res (List D),f=zrQ:=⟨_,rfl⟩
def rng2:List D->Sto->Res (List D):=Classical.choose znk
theorem znl:rng2=zrQ:=Classical.choose_spec znk
def ziB (g:List D->Sto->Res (List D)) (fr:AV):AV:=fun ρ m=>(fr ρ m).bind g
def zcB (i:Nat):List D->List D
 | []=>[]
 | d::r => .tup [.int i,d]::zcB (i+1) r
def asSq2 (d:D) (m:Sto):Res (List D):=match d with
 | .tup ds => .ok ds m
 | .lst ds => .ok ds m
 | _ => .bad
def zjT (fa:EV):AV:=fun ρ m=>(fa ρ m).bind fun d m1=>(asSq2 d m1).bind fun ds m2 => .ok (zcB 0 ds) m2
def zeD:List D->List D->List D
 | x::xs,y::ys => .tup [x,y]::zeD xs ys
 | _,_=>[]
def zipD3:List D->List D->List D->List D
 | x::xs,y::ys,z::zs => .tup [x,y,z]::zipD3 xs ys zs
 | _,_,_=>[]
def zmP (x y:D) (m:Sto):Res (List D):=match x,y with
 | .tup xs,.tup ys=>if xs.length<=ys.length then .ok (zeD xs ys) m else .bad
 | .tup xs,.lst ys=>if xs.length<=ys.length then .ok (zeD xs ys) m else .bad
 | _,_ => .bad
def aZip (fa fb:EV):AV:=fun ρ m=>(fa ρ m).bind fun x m1=>(fb ρ m1).bind fun y m2=>zmP x y m2
def zip3 (x y z:D) (m:Sto):Res (List D):=match x,y,z with
 | .tup xs,.tup ys,.tup zs=>if xs.length<=ys.length/\xs.length<=zs.length then .ok (zipD3 xs ys zs) m else .bad
 | _,_,_ => .bad
def aZip3 (fa fb fc:EV):AV:=fun ρ m=>(fa ρ m).bind fun x m1=>(fb ρ m1).bind fun y m2=>(fc ρ m2).bind fun z m3=>zip3 x y z m3
theorem zjy:∀ (ds:List D) (k i:Nat) (d:D),(zcB k ds)[i]?=some d->∃ e,ds[i]?=some e/\d = .tup [.int ((k+i:Nat):Int),e]
 | [],k,i,d,h=>by simp [zcB] at h
 | e::r,k,0,d,h=>by
  simp [zcB] at h
  exact ⟨e,rfl,h.symm⟩
 | e::r,k,i+1,d,h=>by
  obtain ⟨f,h1,h2⟩:=zjy r (k+1) i d (by simpa [zcB] using h)
  refine ⟨f,by simpa using h1,?_⟩
  rw [h2,show k+1+i=k+(i+1) by omega]
theorem zjx:∀ (ds:List D) (k:Nat),(zcB k ds).length=ds.length
 | [],_=>rfl
 | _::r,k=>by rw [zcB,List.length_cons,List.length_cons,zjx r]
theorem zkP:∀ (xs ys:List D) (i:Nat) (d:D),(zeD xs ys)[i]?=some d->∃ a b,xs[i]?=some a/\ys[i]?=some b/\d = .tup [a,b]
 | [],_,i,d,h=>by simp [zeD] at h
 | _::_,[],i,d,h=>by simp [zeD] at h
 | a::r,b::s,0,d,h=>by
  simp [zeD] at h
  exact ⟨a,b,rfl,rfl,h.symm⟩
 | a::r,b::s,i+1,d,h=>by
  obtain ⟨x,y,h1,h2,h3⟩:=zkP r s i d (by simpa [zeD] using h)
  exact ⟨x,y,by simpa using h1,by simpa using h2,h3⟩
theorem zkO:∀ (xs ys:List D),xs.length<=ys.length->(zeD xs ys).length=xs.length
 | [],_,_=>by simp [zeD]
 | _::_,[],h=>by simp at h
 | _::r,_::s,h=>by rw [zeD,List.length_cons,List.length_cons,zkO r s (by simpa using h)]
variable {X:Cx} {a b tg it:Expr} {es ifs:List Expr} {fb fc:EV} {tb:TV} {pos p:Pos}
section
variable {N0:List Str} {c e:Expr} {fr:AV} {scope:Scope} {xs:List Str} {clo:List (Str × Addr)}
theorem zbW (hc:X.calm=true) (hx:X.xe=fun _ _=>False) (S:CompOk X N0 scope xs clo) (hi:QI X cl ex tg it fr)
  (hg:∀ C s H fp,QG (X.comp N0 scope xs clo C s H fp) cl ex tg gt) (hf:∀ C s H fp,PIf (X.comp N0 scope xs clo C s H fp) ifs (tDT X.K cl ex ta)) (he:∀ C s H fp,QE (X.comp N0 scope xs clo C s H fp) cl ex e fa)
  (hs:autoParam (∀ x,foldedSetIterable it X.env x=pure x) AutoP.a2._auto_1):QE X cl ex (.ListComp e [⟨tg,it,ifs,0⟩] scope pos) (eFn gL1 (zbR xs.length fr gt ta fa)) :=
 ⟨PE.weak (znL (g:=tDG X.K cl ex gt) (tf:=tDT X.K cl ex ta) (te:=tD X.K cl ex fa) hc hx S hi.out (fun C s H fp=>(hg C s H fp).out) hf (fun C s H fp=>(he C s H fp).out) hs) fun σ H Q hh=>ex3 hh fun α ρ m W hr h=>zkY ⟨α,ρ,m,W,hr,PQ.mono (Ext.refl W) h.bind fun ds α1 m1 H1 E1 W1 q vs rv p hp=>PQ.okS W1 (Same.new hp) q _ (zca W1 hp rv)⟩⟩
theorem zrW {i:Nat} {y:Str} {py spos:Pos} (hc:X.calm=true) (hx:X.xe=fun _ _=>False) (hN:X.N.Nodup) (hy:X.N[i]?=some y) (hl:X.env.scope.names.lookup y=some .local) (S:CompOk X N0 scope xs clo) (hi:QI X cl ex tg it fr)
  (hg:∀ C s H fp,QG (X.comp N0 scope xs clo C s H fp) cl ex tg gt) (hf:∀ C s H fp,PIf (X.comp N0 scope xs clo C s H fp) ifs (tDT X.K cl ex ta)) (he:∀ C s H fp,QE (X.comp N0 scope xs clo C s H fp) cl ex e fa)
  (hsw:autoParam (swapsWith (.ListComp e [⟨tg,it,ifs,0⟩] scope pos) (some (.Name y py)) spos.line X.env=pure true) AutoP.a4._auto_1)
  (hs:autoParam (∀ x,foldedSetIterable it X.env x=pure x) AutoP.a2._auto_1):QS X cl ex (.Assign [.Name y py] (.ListComp e [⟨tg,it,ifs,0⟩] scope pos) spos) (zaK (eFn gL1 (zbR xs.length fr gt ta fa)) (gN i)) :=
 ⟨PS.weak (zsc (g:=tDG X.K cl ex gt) (tf:=tDT X.K cl ex ta) (te:=tD X.K cl ex fa) hc hx hN hy hl S hi.out (fun C s H fp=>(hg C s H fp).out) hf (fun C s H fp=>(he C s H fp).out) hsw hs) fun D σ H hh=>ex3 hh fun α ρ m W hr h=>zkY ⟨α,ρ,m,W,hr,by
  have h2:PQ X.K cl ex (((zbR xs.length fr gt ta fa ρ m).bind gL1).bind fun d m1=>(gN i d ρ m1).bind fun ρ1 m2 => .ok (.nx ρ1) m2) α H fun fl α' _ H'=>zdO X.K D fl α' H':=h
  rw [Res.bind_assoc] at h2
  exact PQ.mono (Ext.refl W) h2.bind fun ds α1 m1 H1 E1 W1 q vs rv p hp=>PQ.okS W1 (Same.new hp) (show PQ X.K cl ex (.ok (.nx (ρ.set i (some (.lst ds)))) m1) α1 H1 fun fl α' _ H'=>zdO X.K D fl α' H' from q) _ (((hr.mono W E1).mono W1 (Ext.of_same W1 (Same.new hp))).set (zca W1 hp rv))⟩⟩
theorem zbM:PIf X [] (tDT X.K cl ex zbV):=fun pins s σ H Q I hh=>ex3 hh fun α ρ m W hr h=>zsn pins s σ H Q I (PQ.ok W h)
theorem zrY (hq:QT X cl ex c ta):PIf X [c] (tDT X.K cl ex ta):=zsm hq.out
theorem PI.or {t t':TI} (h:PI X tg it t) (h':PI X tg it t'):PI X tg it fun σ H R=>t σ H R∨t' σ H R:=fun pins s σ H R I q=>q.elim (h pins s σ H R I) (h' pins s σ H R I)
end
variable {c:Exc} {f:EV} {Q:List V->Hp->Prop} {τ : Type} {R:RD τ} {l:Addr} {ds:List D} {vs:List V}
section
variable {α':List Addr} {m m1:Sto} {H':Hp} {ρ : En}
theorem tD.at {Q:VK} (W:Wd K cl α m H) (hr:RepE K α H ρ σ) (hf:f ρ m = .ok d m1) (hQ:∀ α1 H1 v,Ext α H α1 H1->Wd K cl α1 m1 H1->RepE K α1 H1 ρ σ -> Rep K α1 H1 d v->Q v H1):tD K cl ex f σ H Q :=
 ⟨α,ρ,m,W,hr,by rw [hf]; exact fun α1 H1 E1 W1 v rv=>hQ α1 H1 v E1 W1 (hr.mono W E1) rv⟩
theorem tDA.at {f:AV} {d:List D} (W:Wd K cl α m H) (hr:RepE K α H ρ σ) (hf:f ρ m = .ok d m1) (hQ:∀ α1 H1 v,Ext α H α1 H1->Wd K cl α1 m1 H1->RepE K α1 H1 ρ σ -> RepL K α1 H1 d v->Q v H1):tDA K cl ex f σ H Q :=
 ⟨α,ρ,m,W,hr,by rw [hf]; exact fun α1 H1 E1 W1 v rv=>hQ α1 H1 v E1 W1 (hr.mono W E1) rv⟩
theorem tD.exc {k:D->Sto->Res τ} {Q:VK} (W:Wd K cl α m H) (hr:RepE K α H ρ σ) (hf:f ρ m = .exc c m1) (q:PQ K cl ex ((f ρ m).bind k) α H R):tD K cl ex f σ H Q :=
 ⟨α,ρ,m,W,hr,by rw [hf] at q ⊢; exact q⟩
theorem tDA.exc {f:AV} {k:List D->Sto->Res τ} (W:Wd K cl α m H) (hr:RepE K α H ρ σ) (hf:f ρ m = .exc c m1) (q:PQ K cl ex ((f ρ m).bind k) α H R):tDA K cl ex f σ H Q :=
 ⟨α,ρ,m,W,hr,by rw [hf] at q ⊢; exact q⟩
theorem itd_l (W:Wd K cl α m H) (n:l ∉ α) (h:Rd H l (.lst vs)) (r:RepL K α H ds vs):ItD K cl α H (Itl K l) ds:=fun i α1 m1 H1 E1 W1=>by
 have sq:SqL K H1 l vs := .inl (E1.rd h n)
 refine ⟨fun d e=>?_,fun e=>⟨vs,sq,by rw [e,r.length]; exact Nat.le_refl _⟩⟩
 obtain ⟨v,h1,h2⟩:=(r.mono W E1).get e
 refine ⟨⟨vs,v,sq,h1⟩,fun x H2 y=>?_⟩
 obtain ⟨rfl,y⟩:=y
 have:=y vs sq
 rw [h1] at this
 cases this
 exact ⟨Same.refl _,h2⟩
theorem itd_s (W:Wd K cl α m H) (h:LstAt K α H l vs) (r:RepL K α H ds vs):ItD K cl α H (Itl K l) ds:=fun i α1 m1 H1 E1 W1=>by
 have sq:SqL K H1 l vs:=((E1.kp W).lstAt h).sq
 refine ⟨fun d e=>?_,fun e=>⟨vs,sq,by rw [e,r.length]; exact Nat.le_refl _⟩⟩
 obtain ⟨v,h1,h2⟩:=(r.mono W E1).get e
 refine ⟨⟨vs,v,sq,h1⟩,fun x H2 y=>?_⟩
 obtain ⟨rfl,y⟩:=y
 have:=y vs sq
 rw [h1] at this
 cases this
 exact ⟨Same.refl _,h2⟩
theorem itd_t (W:Wd K cl α m H) (h:SqT K H l vs) (r:RepL K α H ds vs):ItD K cl α H (Itt K l) ds:=fun i α1 m1 H1 E1 W1=>by
 have sq:SqT K H1 l vs:=E1.sqt W h
 refine ⟨fun d e=>?_,fun e=>⟨vs,sq,by rw [e,r.length]; exact Nat.le_refl _⟩⟩
 obtain ⟨v,h1,h2⟩:=(r.mono W E1).get e
 refine ⟨⟨vs,v,sq,h1⟩,fun x H2 y=>?_⟩
 obtain ⟨rfl,y⟩:=y
 have:=y vs sq
 rw [h1] at this
 cases this
 exact ⟨Same.refl _,h2⟩
theorem itd_f {f:Nat->V} {g:Nat->D} (hg:∀ i α H,Rep K α H (g i) (f i)):ItD K cl α H (Itf f n) ((List.range n).map g):=fun i α1 m1 H1 E1 W1=>by
 refine ⟨fun d e=>?_,fun e=>by rw [List.length_map,List.length_range] at e; exact e⟩
 obtain ⟨hi,e⟩:=List.getElem?_eq_some_iff.mp e
 rw [List.length_map,List.length_range] at hi
 simp only [List.getElem_map,List.getElem_range] at e
 subst e
 refine ⟨hi,fun x H2 y=>?_⟩
 obtain ⟨rfl,rfl⟩:=y
 exact ⟨Same.refl _,hg _ _ _⟩
theorem itd_r {lo:Int}:ItD K cl α H (Itr lo n) (zcU lo n):=fun i α1 m1 H1 E1 W1=>by
 unfold zcU
 refine ⟨fun d e=>?_,fun e=>by rw [List.length_map,List.length_range] at e; exact Nat.le_of_eq e.symm⟩
 obtain ⟨hi,e⟩:=List.getElem?_eq_some_iff.mp e
 rw [List.length_map,List.length_range] at hi
 simp only [List.getElem_map,List.getElem_range] at e
 subst e
 refine ⟨hi,fun x H2 y=>?_⟩
 obtain ⟨rfl,rfl⟩:=y
 exact ⟨Same.refl _,by rw [Rep]⟩
theorem zby {T:Addr} (W:Wd K cl α m H) (hT:H T=none) (r:RepL K α H ds vs):Rep K α (upd H T (.tup vs)) (.tup ds) (.ref T):=by
 rw [Rep]
 exact ⟨T,vs,rfl,.inl zaI,r.mono W (Ext.of_same W (Same.new hT))⟩
theorem RepL.two {e:D} {w:V} (h:Rep K α H d v) (h':Rep K α H e w):RepL K α H [d,e] [v,w]:=RepL.append (RepL.one h) (RepL.one h')
def zpx (K:PySem.W.Frag) (cl:Str->Addr) (c:CQ) (α : List Addr) (H:Hp) (l:Addr) (vs:List V):Prop:=∀ α1 m1 H1,Ext α H α1 H1->Wd K cl α1 m1 H1->c K H1 l vs
theorem itd_e {c:CQ} (W:Wd K cl α m H) (h:zpx K cl c α H l vs) (r:RepL K α H ds vs):ItD K cl α H (IteQ c K l) (zcB 0 ds):=fun i α1 m1 H1 E1 W1=>by
 have sq:=h α1 m1 H1 E1 W1
 refine ⟨fun d e=>?_,fun e=>⟨vs,sq,by rw [e,zjx,r.length]⟩⟩
 obtain ⟨f,h1,rfl⟩:=zjy ds 0 i d e
 obtain ⟨v,h2,h3⟩:=(r.mono W E1).get h1
 refine ⟨⟨vs,v,sq,h2⟩,fun x H2 y=>?_⟩
 obtain ⟨T,y,hT,rfl,hy,rfl⟩:=y
 have:=hy vs sq
 rw [h2] at this
 cases this
 refine ⟨Same.new hT,zby W1 hT (RepL.two (by rw [Rep,Nat.zero_add]) h3)⟩
theorem itd_z {c1 c2:CQ} {l1 l2:Addr} {xs ys:List D} {us:List V} (W:Wd K cl α m H) (h:zpx K cl c1 α H l1 vs) (h':zpx K cl c2 α H l2 us) (r:RepL K α H xs vs) (r':RepL K α H ys us) (hl:xs.length<=ys.length):ItD K cl α H (zmM c1 c2 K l1 l2) (zeD xs ys):=fun i α1 m1 H1 E1 W1=>by
 have sq:=h α1 m1 H1 E1 W1
 have sq':=h' α1 m1 H1 E1 W1
 refine ⟨fun d e=>?_,fun e=>⟨vs,sq,by rw [e,zkO _ _ hl,r.length]⟩⟩
 obtain ⟨x,y,h1,h2,rfl⟩:=zkP xs ys i d e
 obtain ⟨v,h3,h4⟩:=(r.mono W E1).get h1
 obtain ⟨u,h5,h6⟩:=(r'.mono W E1).get h2
 refine ⟨⟨vs,us,v,u,sq,sq',h3,h5⟩,fun x H2 y=>?_⟩
 obtain ⟨T,x,y,hT,rfl,hx,hy,rfl⟩:=y
 have e1:=hx vs sq
 have e2:=hy us sq'
 rw [h3] at e1
 rw [h5] at e2
 cases e1
 cases e2
 exact ⟨Same.new hT,zby W1 hT (RepL.two h4 h6)⟩
theorem zhS (W:Wd K cl α m H) (h:SqT K H l vs):zpx K cl SqT α H l vs:=fun α1 m1 H1 E1 W1=>E1.sqt W h
theorem zm5 (n:l ∉ α) (h:Rd H l (.lst vs)):zpx K cl SqL α H l vs:=fun α1 m1 H1 E1 W1 => .inl (E1.rd h n)
end
section
variable {c e:Expr} {fr:AV}
theorem zd7 (hq:QE X cl ex e fa):QI X cl ex tg e (aIt fa) :=
 ⟨PI.weak (PI.or (znH hq.out) (PI.or (pi_tup hq.out) (pi_txt hq.out))) fun σ H R hh=>ex3 hh fun α ρ m W hr q=>by
  unfold aIt at q
  cases hf:fa ρ m with
  | bad=>rw [hf] at q; exact q.elim
  | exc c m1=>exact .inl (tD.exc W hr hf q)
  | ok d m1 =>
   rw [hf] at q
   cases d with
   | lst ds =>
    refine .inl (tD.at W hr hf fun α1 H1 v E1 W1 hr1 rv=>?_)
    rw [Rep] at rv
    obtain ⟨l,vs,rfl,n,h1,h2⟩:=rv
    exact ⟨l,rfl,⟨vs,.inl h1⟩,q α1 H1 E1 W1 _ (itd_l W1 n h1 h2)⟩
   | tup ds =>
    refine .inr (.inl (tD.at W hr hf fun α1 H1 v E1 W1 hr1 rv=>?_))
    rw [Rep] at rv
    obtain ⟨l,vs,rfl,h1,h2⟩:=rv
    exact ⟨l,rfl,⟨vs,h1.sq⟩,q α1 H1 E1 W1 _ (itd_t W1 h1.sq h2)⟩
   | str z =>
    refine .inr (.inr (tD.at W hr hf fun α1 H1 v E1 W1 hr1 rv=>?_))
    rw [Rep] at rv
    exact ⟨z,rv,q α1 H1 E1 W1 _ (itd_f fun i α H=>by rw [Rep]; rfl)⟩
   | scr ds =>
    refine .inl (tD.at W hr hf fun α1 H1 v E1 W1 hr1 rv=>?_)
    rw [Rep] at rv
    obtain ⟨l,vs,rfl,h1,h2⟩:=rv
    exact ⟨l,rfl,⟨vs,h1.sq⟩,q α1 H1 E1 W1 _ (itd_s W1 h1 h2)⟩
   | _=>exact q.elim⟩
theorem zem (hg:Gl X "range") (hm:X.mg "range" = none) (ha:QA X cl ex [a] fr) (hs:autoParam (starEach [a] X.env=[(false,eval a X.env)]) AutoP.a3._auto_1):QI X cl ex tg (.Call (.Name "range" p) [a] [] pos) (ziB zj7 fr) :=
 ⟨PI.weak (znG hg hm ha.out hs) fun σ H R hh=>ex3 hh fun α ρ m W hr q=>tDA.use W hr q fun α1 m1 H1 d v E1 W1 hr1 rv q1=>by
  rw [znn] at q1; unfold zrR at q1
  split at q1
  ·obtain ⟨h1,h2⟩:=PQ.if q1
   rw [RepL] at rv
   obtain ⟨v,r,rfl,a1,a2⟩:=rv
   rw [Rep] at a1
   rw [RepL] at a2
   subst a1 a2
   exact ⟨_,rfl,h1.1,h1.2,PQ.ok W1 h2 _ itd_r⟩
  ·exact q1.elim⟩
theorem zrZ (hg:Gl X "range") (hm:X.mg "range" = none) (ha:QA X cl ex [a,b] fr) (hs:autoParam (starEach [a,b] X.env=[(false,eval a X.env),(false,eval b X.env)]) AutoP.a3._auto_1) (hs2:autoParam (starEach [b] X.env=[(false,eval b X.env)]) AutoP.a3._auto_1):QI X cl ex tg (.Call (.Name "range" p) [a,b] [] pos) (ziB rng2 fr) :=
 ⟨PI.weak (znF hg hm ha.out hs hs2) fun σ H R hh=>ex3 hh fun α ρ m W hr q=>tDA.use W hr q fun α1 m1 H1 d v E1 W1 hr1 rv q1=>by
  rw [znl] at q1; unfold zrQ at q1
  split at q1
  ·obtain ⟨h1,h2⟩:=PQ.if q1
   rw [RepL] at rv
   obtain ⟨v,r,rfl,a1,rv⟩:=rv
   rw [RepL] at rv
   obtain ⟨v',r',rfl,a2,rv⟩:=rv
   rw [RepL] at rv
   rw [Rep] at a1 a2
   subst a1 a2 rv
   exact ⟨_,_,rfl,h1,PQ.ok W1 h2 _ itd_r⟩
  ·exact q1.elim⟩
variable {elts:List Expr} {kt:Nat} {pt:Pos}
theorem zgl (hg:Gl X "enumerate") (hm:X.mg "enumerate" = none) (hq:QE X cl ex e fa) (hs:autoParam (starEach [e] X.env=[(false,eval e X.env)]) AutoP.a3._auto_1):QI X cl ex (.Tuple elts kt pt) (.Call (.Name "enumerate" p) [e] [] pos) (zjT fa) :=
 ⟨PI.weak (PI.or (znJ hg hm hq.out hs) (znI hg hm hq.out hs)) fun σ H R hh=>ex3 hh fun α ρ m W hr q=>by
  unfold zjT at q
  cases hf:fa ρ m with
  | bad=>rw [hf] at q; exact q.elim
  | exc c m1=>exact .inl (tD.exc W hr hf q)
  | ok d m1 =>
   rw [hf] at q
   cases d with
   | lst ds =>
    refine .inl (tD.at W hr hf fun α1 H1 v E1 W1 hr1 rv=>?_)
    rw [Rep] at rv
    obtain ⟨l,vs,rfl,n,h1,h2⟩:=rv
    exact ⟨l,vs,rfl,.inl h1,q α1 H1 E1 W1 _ (itd_e W1 (zm5 n h1) h2)⟩
   | tup ds =>
    refine .inr (tD.at W hr hf fun α1 H1 v E1 W1 hr1 rv=>?_)
    rw [Rep] at rv
    obtain ⟨l,vs,rfl,h1,h2⟩:=rv
    exact ⟨l,vs,rfl,h1.sq,q α1 H1 E1 W1 _ (itd_e W1 (zhS W1 h1.sq) h2)⟩
   | _=>exact q.elim⟩
theorem znx (hg:Gl X "zip") (hm:X.mg "zip" = none) (h1:QE X cl ex a fa) (h2:QE X cl ex b fb) (hs:autoParam (starEach [a,b] X.env=(false,eval a X.env)::starEach [b] X.env) AutoP.a3._auto_1) (hs2:autoParam (starEach [b] X.env=[(false,eval b X.env)]) AutoP.a3._auto_1):QI X cl ex (.Tuple elts kt pt) (.Call (.Name "zip" p) [a,b] [] pos) (aZip fa fb) :=
 ⟨PI.weak (PI.or (znE hg hm h1.out h2.out hs hs2) (znD hg hm h1.out h2.out hs hs2)) fun σ H R hh=>ex3 hh fun α ρ m W hr q=>by
  unfold aZip at q
  cases hf:fa ρ m with
  | bad=>rw [hf] at q; exact q.elim
  | exc c m1=>exact .inl (tD.exc W hr hf q)
  | ok d m1 =>
   cases hf2:fb ρ m1 with
   | bad=>rw [hf] at q; exact absurd q (by show ¬ PQ X.K cl ex ((fb ρ m1).bind _) _ _ _; rw [hf2]; exact fun z=>z)
   | exc c m2 =>
    refine .inl (tD.at W hr hf fun α1 H1 v E1 W1 hr1 rv=>?_)
    rw [hf] at q
    exact tD.exc (k:=fun y m2=>zmP d y m2) W1 hr1 hf2 (PQ.mono E1 q fun _ _ _ _ _ _ z=>z)
   | ok d2 m2 =>
    rw [hf] at q
    have q':PQ X.K cl ex ((fb ρ m1).bind fun y m2=>zmP d y m2) α H fun ds α' _ H'=>∀ J,ItD X.K cl α' H' J ds->R J H':=q
    rw [hf2] at q'
    have q2:PQ X.K cl ex (zmP d d2 m2) α H fun ds α' _ H'=>∀ J,ItD X.K cl α' H' J ds->R J H':=q'
    unfold zmP at q2
    split at q2
    ·obtain ⟨hl,q3⟩:=PQ.if q2
     refine .inr (tD.at W hr hf fun α1 H1 v E1 W1 hr1 rv=>tD.at W1 hr1 hf2 fun α2 H2 v2 E2 W2 hr2 rv2=>?_)
     have rv:=rv.mono W1 E2
     rw [Rep] at rv rv2
     obtain ⟨l1,vs,rfl,h1,r1⟩:=rv
     obtain ⟨l2,us,rfl,h2,r2⟩:=rv2
     exact ⟨l1,l2,vs,us,rfl,h1.sq,h2.sq,q3 α2 H2 (E1.trans E2) W2 _ (itd_z W2 (zhS W2 h1.sq) (zhS W2 h2.sq) r1 r2 hl)⟩
    ·obtain ⟨hl,q3⟩:=PQ.if q2
     refine .inl (tD.at W hr hf fun α1 H1 v E1 W1 hr1 rv=>tD.at W1 hr1 hf2 fun α2 H2 v2 E2 W2 hr2 rv2=>?_)
     have rv:=rv.mono W1 E2
     rw [Rep] at rv; rw [Rep] at rv2
     obtain ⟨l1,vs,rfl,h1,r1⟩:=rv
     obtain ⟨l2,us,rfl,n,h2,r2⟩:=rv2
     exact ⟨l1,l2,vs,us,rfl,h1.sq,.inl h2,q3 α2 H2 (E1.trans E2) W2 _ (itd_z W2 (zhS W2 h1.sq) (zm5 n h2) r1 r2 hl)⟩
    ·exact q2.elim⟩
end
def zgZ (fl:Fl) (m:Sto):Res D:=match fl with
 | .nx _ => .ok .non m
 | .rt d => .ok d m
 | _ => .bad
def zaY (n:Nat) (body:SV):List D->Sto->Res D:=fun ds m=>(body (ds.map some++List.replicate (n - ds.length) none) m).bind zgZ
def spD (K:PySem.W.Frag) (cl:Str->Addr) (ex:XD) (n:Nat) (g:List D->Sto->Res D):Sp:=fun vs H Q _=>vs.length=n/\∃ α m ds,Wd K cl α m H/\RepL K α H ds vs/\PQ K cl ex (g ds m) α H fun d α' _ H'=>∀ v,Rep K α' H' d v->Q v H'
variable {N:List Str}
theorem zhl:∀ {ds:List D} {vs:List V},RepL K α H ds vs->RepE K α H (ds.map some++List.replicate (N.length - ds.length) none) (L2.start N vs):=by
 intro ds vs r
 unfold L2.start
 rw [r.length]
 refine RepE.more ⟨by rw [List.length_map,List.length_map,r.length],fun i d e=>?_⟩ _
 rw [List.getElem?_map] at e
 cases h:ds[i]? with
 | none=>rw [h] at e; cases e
 | some d' =>
  rw [h] at e
  cases e
  obtain ⟨v,h1,h2⟩:=r.get h
  exact ⟨v,by rw [List.getElem?_map,h1]; rfl,h2⟩
theorem fn_d {body:SV} {Q:VK} {E:XK} (h:spD K cl ex n (zaY N.length body) vs H Q E):tDS K cl ex body { nx:=fun _ H'=>Q .non H',rt:=Q } (L2.start N vs) H:=by
 obtain ⟨_,α,m,ds,W,r,q⟩:=h
 refine ⟨α,_,m,W,zhl r,PQ.mono (Ext.refl W) q.bind fun fl α1 m1 H1 E1 W1 q1=>?_⟩
 cases fl with
 | nx ρ => exact fun σ _=>PQ.ok W1 q1 _ (by rw [Rep])
 | rt d=>exact PQ.ok W1 q1
 | bk ρ => exact q1.elim
 | ct ρ => exact q1.elim
def X0:XD:=fun _ _ _ _=>False
theorem zr5 {e:Expr} {fr:AV} {x:Str} {k:Nat} {f:Addr} {fd:FuncData} {ps:List Str} {g:List D->Sto->Res D} (F:FnOk X.prog X.w X.K X.mg X.base CX0 k f fd ps (spD X.K cl X0 n g)) (hn:n=(e::es).length) (hr:Room k X.A) (hg:Gl X x) (hm:X.mg x=some (.ref f)) (hk:PySem.W.keepIn X.K (.ref f)=true) (hb:Binds X.K fd ps [])
  (ha:QA X cl X0 (e::es) fr) (hlen:∀ ρ m ds m1,fr ρ m = .ok ds m1->ds.length=(e::es).length) (hdb:autoParam ((x == ("__debug__" : Str))=false) AutoP.a1._auto_1) (he:autoParam (starEach (e::es) X.env=(false,eval e X.env)::starEach es X.env) AutoP.a3._auto_1) (hpl:autoParam ((backTo pos (starEach es X.env)).any (·.1)=false) AutoP.a3._auto_1) :
  QE X cl X0 (.Call (.Name x p) (e::es) [] pos) (eFn g fr) :=
 ⟨PE.weak (zst (E:=E0) F hr hg hm hk hb .nil zqh ha.out hdb he hpl) fun σ H Q hh=>ex3 hh fun α ρ m W hr h=>by
  unfold eFn at h
  cases hf:fr ρ m with
  | bad=>rw [hf] at h; exact h.elim
  | exc c m1=>exact tDA.exc W hr hf h
  | ok ds m1 =>
   rw [hf] at h
   refine tDA.at W hr hf fun α1 H1 v E1 W1 hr1 rv=>?_
   refine ⟨?_,α1,m1,ds,W1,by rw [List.append_nil]; exact rv,PQ.mono E1 h fun _ _ _ _ _ _ z=>z⟩
   rw [List.append_nil,<- rv.length,hlen ρ m ds m1 hf,hn]⟩
theorem aNil_len:∀ ρ m ds m1,zaj ρ m = .ok ds m1->ds.length=([]:List Expr).length:=fun ρ m ds m1 h=>by cases h; rfl
theorem aCons_len {fr:AV} {e:Expr} (h:∀ ρ m ds m1,fr ρ m = .ok ds m1->ds.length=es.length):∀ ρ m ds m1,zac fa fr ρ m = .ok ds m1->ds.length=(e::es).length:=fun ρ m ds m1 q=>by
 unfold zac at q
 cases hf:fa ρ m with
 | ok x m2 =>
  rw [hf] at q
  have q:((fr ρ m2).bind fun xs m3=>Res.ok (x::xs) m3) = .ok ds m1:=q
  cases hr:fr ρ m2 with
  | ok xs m3=>rw [hr] at q; cases q; rw [List.length_cons,List.length_cons,h ρ m2 xs _ hr]
  | _=>rw [hr] at q; cases q
 | _=>rw [hf] at q; cases q
end MD
set_option autoImplicit false
namespace L2
open PySem PySem.Spec PyProof.Rows
section
variable {X:Cx}
def rCatQ (K:PySem.W.Frag):R2:=fun x y H Q=>∃ a b xs ys,x = .ref a/\y = .ref b/\MD.TupAt K H a xs/\MD.TupAt K H b ys/\xs.length+ys.length<=sizeLine/\∀ r H',MD.TupAt K H' r (xs++ys)->Same H H'->Q (.ref r) H'
end
end L2
namespace MD
open PySem PySem.Spec PyProof.Rows L2
def zbj (x y:D) (m:Sto):Res D:=match x,y with
 | .int i,.int j => .ok (.int (i+j)) m
 | .str a,.str b=>if a.length+b.length<=sizeLine then .ok (.str (a++b)) m else .bad
 | .tup a,.tup b=>if a.length+b.length<=sizeLine then .ok (.tup (a++b)) m else .bad
 | .lst a,.lst b=>if a.length+b.length<=sizeLine then .ok (.lst (a++b)) m else .bad
 | _,_ => .bad
def zeC (x y:D) (m:Sto):Res D:=match x,y with
 | .int i,.int j => .ok (.int (i - j)) m
 | _,_ => .bad
def mulR (x y:D) (m:Sto):Res D:=match x,y with
 | .int i,.int j=>if (-(2 ^ 64) < i/\i < 2 ^ 64)∨(-(2 ^ 64) < j/\j < 2 ^ 64) then .ok (.int (i * j)) m else .bad
 | .str z,.int n=>if 0<=n/\n<=1000/\z.length<=1000 then .ok (.str (Txt.mul z n)) m else .bad
 | .tup [d],.int n=>if 1<=n/\n<=1000 then .ok (.tup (List.replicate n.toNat d)) m else .bad
 | _,_ => .bad
theorem zoh:∃ f:D->D->Sto->Res D,f=mulR:=⟨_,rfl⟩
def zeb:D->D->Sto->Res D:=Classical.choose zoh
theorem zgv:zeb=mulR:=Classical.choose_spec zoh
def zs3 (x y:D) (m:Sto):Res D:=match x,y with
 | .int i,.int j=>if 0 < j/\j < 2 ^ 64 then .ok (.int (i / j)) m else .bad
 | _,_ => .bad
theorem zlz:∃ f:D->D->Sto->Res D,f=zs3:=⟨_,rfl⟩
def zkB:D->D->Sto->Res D:=Classical.choose zlz
theorem zlA:zkB=zs3:=Classical.choose_spec zlz
def zer (x y:D) (m:Sto):Res D:=match x,y with
 | .int i,.int j=>if 0 < j then .ok (.int (i % j)) m else .bad
 | _,_ => .bad
def zp9 (x y:D) (m:Sto):Res D:=match x,y with
 | .int i,.int j=>if 0<=j/\j<=1000000/\i.natAbs < 2 ^ 64 then .ok (.int (i ^ j.toNat)) m else .bad
 | _,_ => .bad
theorem znA:∃ f:D->D->Sto->Res D,f=zp9:=⟨_,rfl⟩
def zia:D->D->Sto->Res D:=Classical.choose znA
theorem zeo:zia=zp9:=Classical.choose_spec znA
def shlR (x y:D) (m:Sto):Res D:=match x,y with
 | .int i,.int j=>if 0<=j/\j<=1000000/\i.natAbs < 2 ^ 64 then .ok (.int (i * 2 ^ j.toNat)) m else .bad
 | _,_ => .bad
theorem zm9:∃ f:D->D->Sto->Res D,f=shlR:=⟨_,rfl⟩
def zfU:D->D->Sto->Res D:=Classical.choose zm9
theorem zna:zfU=shlR:=Classical.choose_spec zm9
def shrD (x y:D) (m:Sto):Res D:=match x,y with
 | .int i,.int j=>if 0<=j then .ok (.int (i / 2 ^ j.toNat)) m else .bad
 | _,_ => .bad
def andD (x y:D) (m:Sto):Res D:=match x,y with
 | .int i,.int j => .ok (.int (Builtin.bitAnd i j)) m
 | _,_ => .bad
def zpy (x:D) (m:Sto):Res D:=match x with
 | .int i => .ok (.int (-i)) m
 | _ => .bad
variable {X:Cx} {K:PySem.W.Frag} {cl:Str->Addr} {ex:XD} {α : List Addr} {H:Hp} {i:Int} {z:Str}
section
theorem zfa:Rep K α H (.int i) (.int i):=by rw [Rep]
theorem zrT {i:Str}:Rep K α H (.str i) (.str i):=by rw [Rep]
theorem zg3 {i:Bool}:Rep K α H (.bl i) (.bl i):=by rw [Rep]
theorem repN:Rep K α H .non .non:=by rw [Rep]
theorem zbT:OpD K cl ex (rI0 fun i j => .int (i - j)) zeC:=fun α m H x y vx vy Q W rx ry h=>by
 unfold zeC at h
 split at h
 ·rw [Rep] at rx ry; exact ⟨_,_,rx,ry,PQ.ok W h _ zfa⟩
 ·exact h.elim
theorem zob:OpD K cl ex (rI (fun _ j=>0 < j/\j < 2 ^ 64) fun i j => .int (i / j)) zkB:=fun α m H x y vx vy Q W rx ry h=>by
 rw [zlA] at h; unfold zs3 at h
 split at h
 ·rw [Rep] at rx ry; obtain ⟨hc,h⟩:=PQ.if h; exact ⟨_,_,rx,ry,hc,PQ.ok W h _ zfa⟩
 ·exact h.elim
theorem zbF:OpD K cl ex (rI (fun _ j=>0 < j) fun i j => .int (i % j)) zer:=fun α m H x y vx vy Q W rx ry h=>by
 unfold zer at h
 split at h
 ·rw [Rep] at rx ry; obtain ⟨hc,h⟩:=PQ.if h; exact ⟨_,_,rx,ry,hc,PQ.ok W h _ zfa⟩
 ·exact h.elim
theorem zea:OpD K cl ex (rI CPow fun i j => .int (i ^ j.toNat)) zia:=fun α m H x y vx vy Q W rx ry h=>by
 rw [zeo] at h; unfold zp9 at h
 split at h
 ·rw [Rep] at rx ry; obtain ⟨hc,h⟩:=PQ.if h; exact ⟨_,_,rx,ry,hc,PQ.ok W h _ zfa⟩
 ·exact h.elim
theorem zcf:OpD K cl ex (rI CPow fun i j => .int (i * 2 ^ j.toNat)) zfU:=fun α m H x y vx vy Q W rx ry h=>by
 rw [zna] at h; unfold shlR at h
 split at h
 ·rw [Rep] at rx ry; obtain ⟨hc,h⟩:=PQ.if h; exact ⟨_,_,rx,ry,hc,PQ.ok W h _ zfa⟩
 ·exact h.elim
theorem od_shr:OpD K cl ex (rI (fun _ j=>0<=j) fun i j => .int (i / 2 ^ j.toNat)) shrD:=fun α m H x y vx vy Q W rx ry h=>by
 unfold shrD at h
 split at h
 ·rw [Rep] at rx ry; obtain ⟨hc,h⟩:=PQ.if h; exact ⟨_,_,rx,ry,hc,PQ.ok W h _ zfa⟩
 ·exact h.elim
theorem od_and:OpD K cl ex (rI0 fun i j => .int (Builtin.bitAnd i j)) andD:=fun α m H x y vx vy Q W rx ry h=>by
 unfold andD at h
 split at h
 ·rw [Rep] at rx ry; exact ⟨_,_,rx,ry,PQ.ok W h _ zfa⟩
 ·exact h.elim
theorem zhj:UnD K cl ex (rU fun i => .int (-i)) zpy:=fun α m H x vx Q W rx h=>by
 unfold zpy at h
 split at h
 ·rw [Rep] at rx; exact ⟨_,rx,PQ.ok W h _ zfa⟩
 ·exact h.elim
theorem zsB:OpR X (binaryOp .Add) (rCatQ X.K):=by
 intro pins s σ H x y v u Q I rx ry h
 obtain ⟨a,b,xs,ys,rfl,rfl,ha,hb,hz,q⟩:=h
 by_cases hx:xs=[]
 ·subst hx
  cases rx
  cases ry
  obtain ⟨its,r1,p1,_⟩:=I.tuple ha.sq
  obtain ⟨its2,r2,p2,_⟩:=I.tuple hb.sq
  cases r1
  obtain ⟨⟨cls,dd,data,sl⟩,ho,hc,n,hd⟩:=id p1
  obtain ⟨⟨cls2,dd2,data2,sl2⟩,ho2,hc2,n2,hd2⟩:=id p2
  simp only at hc hd hc2 hd2
  subst hc hd hc2 hd2
  exact concat_meets ⟨_,ho,rfl⟩ ⟨_,ho2,rfl⟩ noFill_tuple_add seq_tuple_add PySem.F.slot_tuple_add PySem.F.entry_tuple_add (PySem.F.args_tuple_add_2 _ _)
   (tuple_addW0 a b #[] its2.toArray n n2 dd dd2 sl sl2 rfl) ⟨ho,ho2,⟨.ref b,H,I,rfl,q b H (by rw [List.nil_append]; exact hb) (L2.Same.refl H)⟩⟩
 ·refine zsz pins s σ H (.ref a) (.ref b) v u Q I rx ry ⟨a,b,xs,ys,rfl,rfl,ha.sq,hb.sq,hx,hz,fun e=>?_,fun _ p hp=>?_⟩
  ·subst e
   exact q a H (by rw [List.append_nil]; exact ha) (L2.Same.refl H)
  ·exact q p _ (.inl zaI) (MD.Same.new hp)
def rCatR:R2:=fun x y H Q=>∃ l b xs zs,x = .ref l/\y = .ref b/\Rd H l (.lst xs)/\Rd H b (.lst zs)/\xs.length+zs.length<=sizeLine/\∀ p,H p=none->Q (.ref p) (upd H p (.lst (xs++zs)))
theorem zsA:OpR X (binaryOp .Add) rCatR:=by
 intro pins s σ H x y v u Q I rx ry h
 obtain ⟨l,b,xs,zs,rfl,rfl,hH,hB,hz,q⟩:=h
 cases rx
 cases ry
 obtain ⟨z,its,n,r,e⟩:=hH.ok I.hok
 obtain ⟨z2,its2,n2,r2,e2⟩:=hB.ok I.hok
 have hl:=r.length
 have hl2:=r2.length
 refine PySem.P.add_list e e2 ?_ (by rw [List.size_toArray,List.size_toArray]; omega)
 have ea:its.toArray++its2.toArray=(its++its2).toArray:=by simp
 rw [ea]
 exact ⟨.ref _,_,I.lnew (t':=s.toks) (r.append r2) (by rw [List.length_append]; omega),rfl,q _ I.fresh⟩
def rAddA (K:PySem.W.Frag):R2:=fun x y H Q=>(rI0 (fun i j => .int (i+j))) x y H Q∨(∃ i j,x = .str i/\y = .str j/\i.length+j.length<=sizeLine/\Q (.str (i++j)) H)∨rCatQ K x y H Q∨rCatR x y H Q
theorem zas:OpR X (binaryOp .Add) (rAddA X.K):=OpR.or op_add (OpR.or zl7 (OpR.or zsB zsA))
theorem zaG:OpD K cl ex (rAddA K) zbj:=fun α m H x y vx vy Q W rx ry h=>by
 unfold zbj at h
 split at h
 ·rw [Rep] at rx ry; exact .inl ⟨_,_,rx,ry,PQ.ok W h _ zfa⟩
 ·rw [Rep] at rx ry; obtain ⟨hc,h⟩:=PQ.if h; exact .inr (.inl ⟨_,_,rx,ry,hc,PQ.ok W h _ zrT⟩)
 ·obtain ⟨hc,h⟩:=PQ.if h
  rw [Rep] at rx ry
  obtain ⟨a,xs,rfl,h1,r1⟩:=rx
  obtain ⟨b,ys,rfl,h2,r2⟩:=ry
  refine .inr (.inr (.inl ⟨a,b,xs,ys,rfl,rfl,h1,h2,by rw [<- r1.length,<- r2.length]; exact hc,fun r H' hr sm=>?_⟩))
  exact PQ.okS W sm h _ (by rw [Rep]; exact ⟨r,_,rfl,hr,(RepL.append r1 r2).mono W (Ext.of_same W sm)⟩)
 ·obtain ⟨hc,h⟩:=PQ.if h
  rw [Rep] at rx ry
  obtain ⟨a,xs,rfl,n1,h1,r1⟩:=rx
  obtain ⟨b,ys,rfl,n2,h2,r2⟩:=ry
  refine .inr (.inr (.inr ⟨a,b,xs,ys,rfl,rfl,h1,h2,by rw [<- r1.length,<- r2.length]; exact hc,fun p hp=>?_⟩))
  exact PQ.okS W (Same.new hp) h _ (zca W hp (RepL.append r1 r2))
 ·exact h.elim
def rMulQ (K:PySem.W.Frag):R2:=fun x y H Q=>∃ a v n,x = .ref a/\y = .int n/\TupAt K H a [v]/\1<=n/\n<=1000/\∀ r H',TupAt K H' r (List.replicate n.toNat v)->L2.Same H H'->Q (.ref r) H'
theorem zsy:OpR X (binaryOp .Mult) (rMulQ X.K):=by
 intro pins s σ H x y v u Q I rx ry h
 obtain ⟨a,w,n,rfl,rfl,ha,n1,n2,q⟩:=h
 cases rx
 obtain ⟨t,rfl⟩:=ry
 obtain ⟨its,r1,p1,_⟩:=I.tuple ha.sq
 obtain ⟨u,rfl,ru⟩:=zcn r1
 obtain ⟨⟨cls,dd,data,sl⟩,ho,hc,k,hd⟩:=id p1
 simp only at hc hd
 subst hc hd
 refine wpAny_binaryOp_repeat_ref (by decide) ⟨_,ho,rfl⟩ (fun s'=>typeIs_int s' n t) zfN F.fills_int_mul F.slot_int_rmul ziO F.slot_int_index.lookup
  (call_meets F.slot_int_rmul (typeIs_int s n t) F.entry_int_rmul (F.args_int_rmul_2 _ _) (zji n t a _ k dd sl) ⟨ho,rfl,⟨_,ho,rfl⟩,?_⟩)
 by_cases e:n=1
 ·subst e
  exact call_meets F.slot_tuple_mul ⟨_,ho,rfl⟩ F.entry_tuple_mul (F.args_tuple_mul_2 _ _) (zpF a u t k dd sl) ⟨ho,⟨.ref a,H,I,rfl,q a H ha (L2.Same.refl H)⟩⟩
 ·refine call_meets F.slot_tuple_mul ⟨_,ho,rfl⟩ F.entry_tuple_mul (F.args_tuple_mul_2 _ _) (zpE a u n t k dd sl (by omega) n2) ⟨ho,?_⟩
  rw [zlx]
  have z:(List.replicate n.toNat w).length<=sizeLine:=by
   rw [List.length_replicate]
   have:sizeLine=16777216:=by decide
   omega
  exact ⟨.ref s.heap.objs.size,upd H s.heap.objs.size (.tup (List.replicate n.toNat w)),I.laid (t':=s.toks) (fun b o e=>Heap.get?_push_of_some _ e) (Nat.le_refl _) ⟨z,List.replicate n.toNat u,zkR ru _,⟨_,Heap.get?_push_size _ rfl,rfl,0,rfl⟩,_,Heap.get?_push_size _ rfl,rfl⟩,rfl,q _ _ (.inl zaI) (Same.new (I.hok.fresh (Nat.le_refl _)))⟩
theorem zkq {n:Int} (h:0<=n/\n<=1000/\z.length<=1000):MulOk z n:=by
 obtain ⟨h0,h1,h2⟩:=h
 refine ⟨by simp; omega,fun h3 _=>?_,fun h3 _=>?_⟩
 ·have h4:(1000:Int)<=(2 ^ 63 - 1) / n:=(Int.le_ediv_iff_mul_le (by omega)).mpr (by omega)
  omega
 ·have h6:z.length * n.toNat<=1000 * 1000:=Nat.mul_le_mul h2 (by omega)
  have h7:=sizeLine_eq
  unfold Builtin.Str.tooLong
  simp
  omega
def rMulA (K:PySem.W.Frag):R2:=fun x y H Q=>(rI CMul fun i j => .int (i * j)) x y H Q∨(∃ z n,x = .str z/\y = .int n/\MulOk z n/\Q (.str (Txt.mul z n)) H)∨rMulQ K x y H Q
theorem zbd:OpR X (binaryOp .Mult) (rMulA X.K):=OpR.or op_mul (OpR.or zl6 zsy)
theorem RepL.rep {α : List Addr} {H:Hp} {d:D} {v:V} (h:Rep K α H d v):∀ n:Nat,RepL K α H (List.replicate n d) (List.replicate n v)
 | 0=>by simp [RepL]
 | n+1=>by
  rw [List.replicate_succ,List.replicate_succ,RepL]
  exact ⟨v,_,rfl,h,RepL.rep h n⟩
theorem zbU:OpD K cl ex (rMulA K) zeb:=fun α m H x y vx vy Q W rx ry h=>by
 rw [zgv] at h; unfold mulR at h
 split at h
 ·rw [Rep] at rx ry; obtain ⟨hc,h⟩:=PQ.if h; exact .inl ⟨_,_,rx,ry,hc,PQ.ok W h _ zfa⟩
 ·rw [Rep] at rx; rw [Rep] at ry; obtain ⟨hc,h⟩:=PQ.if h; exact .inr (.inl ⟨_,_,rx,ry,zkq hc,PQ.ok W h _ zrT⟩)
 ·obtain ⟨hc,h⟩:=PQ.if h
  rw [Rep] at rx
  rw [Rep] at ry
  obtain ⟨a,xs,rfl,h1,r1⟩:=rx
  rw [RepL] at r1
  obtain ⟨v,r,rfl,rv,r2⟩:=r1
  rw [RepL] at r2
  subst r2
  refine .inr (.inr ⟨a,v,_,rfl,ry,h1,hc.1,hc.2,fun r H' hr sm=>?_⟩)
  exact PQ.okS W sm h _ (by rw [Rep]; exact ⟨r,_,rfl,hr,(RepL.rep rv _).mono W (Ext.of_same W sm)⟩)
 ·exact h.elim
end
mutual
def py:D->PyData
 | .bl b => .bool b
 | .int i => .int i
 | .str x => .str x
 | .tup ds => .tuple (pyL ds)
 | .lst ds => .list (pyL ds)
 | _ => .none
def pyL:List D->List PyData
 | []=>[]
 | d::r=>py d::pyL r
end
mutual
def zeR:D->Bool
 | .non=>true
 | .bl _=>true
 | .int _=>true
 | .str _=>true
 | .tup ds=>pyOkL ds
 | .lst ds=>pyOkL ds
 | _=>false
def pyOkL:List D->Bool
 | []=>true
 | d::r=>zeR d && pyOkL r
end
def deep (d:D):Bool:=zeR d && SeqAt.shaped (py d)
def eqB (x y:D):Option Bool:=match x,y with
 | .int i,.int j=>some (decide (i=j))
 | .str a,.str b=>some (decide (a=b))
 | .bl a,.bl b=>some (decide (a=b))
 | .non,.non=>some true
 | .non,.int _=>some false
 | .non,.str _=>some false
 | .non,.bl _=>some false
 | .int _,.non=>some false
 | .str _,.non=>some false
 | .bl _,.non=>some false
 | .int _,.str _=>some false
 | .str _,.int _=>some false
 | .bl _,.str _=>some false
 | .str _,.bl _=>some false
 | x,y=>if deep x && deep y then some (PyData.eqv (py x) (py y)) else none
def rs (m:Sto) (d:D):D:=match d with
 | .ob k=>match m[k]? with
  | some (.lst xs) => .lst xs
  | _ => .ob k
 | d=>d
def eqD (x y:D) (m:Sto):Res D:=match eqB (rs m x) (rs m y) with
 | some b => .ok (.bl b) m
 | none => .bad
def neD (x y:D) (m:Sto):Res D:=match eqB (rs m x) (rs m y) with
 | some b => .ok (.bl (!b)) m
 | none => .bad
variable {σ : L2.St} {v:V} {m:Sto} {y:D} {vx vy:V} {b:Bool}
section
variable {pins:List (Addr × Obj)} {s:Shared}
mutual
theorem zco (I:Inv X pins σ H s):∀ {d:D} {v:V} {u:Value},zeR d=true->Rep X.K α H d v->RelV v u->∃ as,Reads s.heap u (py d) as
 | .non,v,u,_,r,rv=>by rw [Rep] at r; subst r; cases rv; exact ⟨_,.none⟩
 | .bl b,v,u,_,r,rv=>by rw [Rep] at r; subst r; cases rv; exact ⟨_,.bool b⟩
 | .int i,v,u,_,r,rv=>by rw [Rep] at r; subst r; obtain ⟨t,rfl⟩:=rv; exact ⟨_,.int i t⟩
 | .str x,v,u,_,r,rv=>by rw [Rep] at r; subst r; obtain ⟨t,rfl⟩:=rv; exact ⟨_,.str x t⟩
 | .tup ds,v,u,ok,r,rv=>by
  rw [Rep] at r
  obtain ⟨a,xs,rfl,h1,h2⟩:=r
  cases rv
  obtain ⟨its,r1,⟨o,e1,e2,n,e3⟩,_⟩:=I.tuple h1.sq
  obtain ⟨as,h⟩:=rep_readsL I (by rw [zeR] at ok; exact ok) h2 r1
  exact ⟨as,.tuple e1 e2 e3 (by simpa using h)⟩
 | .lst ds,v,u,ok,r,rv=>by
  rw [Rep] at r
  obtain ⟨a,xs,rfl,_,h1,h2⟩:=r
  cases rv
  obtain ⟨its,r1,⟨o,n,e1,e2,_,e3⟩,_⟩:=I.list (xs:=xs) (.inl h1)
  obtain ⟨as,h⟩:=rep_readsL I (by rw [zeR] at ok; exact ok) h2 r1
  exact ⟨_,.list e1 e2 e3 (by simpa using h)⟩
 | .flt _,_,_,ok,_,_=>by simp [zeR] at ok
 | .byt _,_,_,ok,_,_=>by simp [zeR] at ok
 | .exn _ _,_,_,ok,_,_=>by simp [zeR] at ok
 | .ob _,_,_,ok,_,_=>by simp [zeR] at ok
 | .scr _,_,_,ok,_,_=>by simp [zeR] at ok
theorem rep_readsL (I:Inv X pins σ H s):∀ {ds:List D} {vs:List V} {us:List Value},pyOkL ds=true->RepL X.K α H ds vs->Vals vs us->∃ as,ReadsAll s.heap us (pyL ds) as
 | [],vs,us,_,r,rv=>by rw [RepL] at r; subst r; cases rv; exact ⟨_,.nil⟩
 | d::ds,vs,us,ok,r,rv=>by
  rw [RepL] at r
  obtain ⟨v,r',rfl,h1,h2⟩:=r
  rw [pyOkL,Bool.and_eq_true] at ok
  cases rv with
  | cons a b =>
   obtain ⟨as,q1⟩:=zco I ok.1 h1 a
   obtain ⟨bs,q2⟩:=rep_readsL I ok.2 h2 b
   exact ⟨_,.cons q1 q2⟩
end
def zp2 (K:PySem.W.Frag) (f:Bool->Bool):R2:=fun vx vy H Q=>∃ x y α,Rep K α H x vx/\Rep K α H y vy/\deep x=true/\deep y=true/\Q (.bl (f (PyData.eqv (py x) (py y)))) H
theorem znW (hu:X.A.units+64 < cLine):OpR X (compareOp .Eq) (zp2 X.K id):=by
 intro pins s σ H vx vy v u Q I rx ry h
 obtain ⟨x,y,α,r1,r2,d1,d2,q⟩:=h
 rw [deep,Bool.and_eq_true] at d1 d2
 obtain ⟨as,h1⟩:=zco I d1.1 r1 rx
 obtain ⟨bs,h2⟩:=zco I d2.1 r2 ry
 exact eq_dataH h1 h2 d1.2 d2.2 hu ⟨.bl _,H,I,rfl,q⟩
theorem znS (hu:X.A.units+64 < cLine):OpR X (compareOp .NotEq) (zp2 X.K not):=by
 intro pins s σ H vx vy v u Q I rx ry h
 obtain ⟨x,y,α,r1,r2,d1,d2,q⟩:=h
 rw [deep,Bool.and_eq_true] at d1 d2
 obtain ⟨as,h1⟩:=zco I d1.1 r1 rx
 obtain ⟨bs,h2⟩:=zco I d2.1 r2 ry
 exact ne_dataH h1 h2 d1.2 d2.2 hu ⟨.bl _,H,I,rfl,q⟩
def rEqA (K:PySem.W.Frag):R2:=fun x y H Q=>rEq x y H Q∨zp2 K id x y H Q
def rNeA (K:PySem.W.Frag):R2:=fun x y H Q=>rNe x y H Q∨zp2 K not x y H Q
theorem zbb (hu:X.A.units+64 < cLine):OpR X (compareOp .Eq) (rEqA X.K):=OpR.or op_eq (znW hu)
theorem zdt (hu:X.A.units+64 < cLine):OpR X (compareOp .NotEq) (rNeA X.K):=OpR.or op_ne (znS hu)
mutual
theorem Rep.bare {K:PySem.W.Frag} {α : List Addr} {H:Hp}:∀ {d:D} {v:V},zeR d=true->Rep K α H d v->Rep K [] H d v
 | .non,_,_,h=>by simpa [Rep] using h
 | .bl _,_,_,h=>by simpa [Rep] using h
 | .int _,_,_,h=>by simpa [Rep] using h
 | .str _,_,_,h=>by simpa [Rep] using h
 | .flt _,_,c,_=>by simp [zeR] at c
 | .byt _,_,c,_=>by simp [zeR] at c
 | .exn _ _,_,c,_=>by simp [zeR] at c
 | .ob _,_,c,_=>by simp [zeR] at c
 | .scr _,_,c,_=>by simp [zeR] at c
 | .tup ds,_,c,h=>by
  rw [Rep] at h ⊢
  obtain ⟨a,xs,e,h1,h2⟩:=h
  rw [zeR] at c
  exact ⟨a,xs,e,h1,RepL.bare c h2⟩
 | .lst ds,_,c,h=>by
  rw [Rep] at h ⊢
  obtain ⟨a,xs,e,n,h1,h2⟩:=h
  rw [zeR] at c
  exact ⟨a,xs,e,(by simp),h1,RepL.bare c h2⟩
theorem RepL.bare {K:PySem.W.Frag} {α : List Addr} {H:Hp}:∀ {ds:List D} {vs:List V},pyOkL ds=true->RepL K α H ds vs->RepL K [] H ds vs
 | [],_,_,h=>by rw [RepL] at h ⊢; exact h
 | _::_,_,c,h=>by
  rw [RepL] at h ⊢
  obtain ⟨v,r,e,h1,h2⟩:=h
  rw [pyOkL,Bool.and_eq_true] at c
  exact ⟨v,r,e,Rep.bare c.1 h1,RepL.bare c.2 h2⟩
end
def RepW (K:PySem.W.Frag) (α : List Addr) (H:Hp) (x:D) (v:V):Prop:=Rep K α H x v∨∃ xs a ys,x = .lst xs/\v = .ref a/\H a=some (.lst ys)/\RepL K α H xs ys
theorem RepW.bare {x:D} (c:deep x=true) (h:RepW K α H x v):Rep K [] H x v:=by
 rw [deep,Bool.and_eq_true] at c
 rcases h with h | ⟨xs,a,ys,rfl,rfl,h1,h2⟩
 ·exact h.bare c.1
 ·rw [Rep]
  have c1:=c.1
  rw [zeR] at c1
  exact ⟨a,ys,rfl,(by simp),.inl h1,h2.bare c1⟩
theorem zk2 (W:Wd K cl α m H) {x:D} (r:Rep K α H x v):RepW K α H (rs m x) v:=by
 unfold rs
 split
 ·split
  ·rename_i xs hx
   rw [Rep] at r
   obtain ⟨a,h1,rfl⟩:=r
   obtain ⟨ys,h2,h3⟩:=(show MoRep K cl α H a (.lst xs) from W.at' _ a _ h1 hx)
   exact .inr ⟨_,a,ys,rfl,rfl,h2,h3⟩
  ·exact .inl r
 ·exact .inl r
theorem zo2 {x:D} (e:eqB x y=some b) (rx:RepW K α H x vx) (ry:RepW K α H y vy):(scal vx vy=true/\decide (vx=vy)=b)∨(deep x=true/\deep y=true/\PyData.eqv (py x) (py y)=b):=by
 unfold eqB at e
 split at e
 case h_15 =>
  split at e
  ·rename_i hc
   rw [Bool.and_eq_true] at hc
   exact .inr ⟨hc.1,hc.2,Option.some.inj e⟩
  ·cases e
 all_goals (
  rcases rx with rx | ⟨_,_,_,z,_⟩
  case inr=>cases z
  rcases ry with ry | ⟨_,_,_,z,_⟩
  case inr=>cases z
  rw [Rep] at rx; rw [Rep] at ry; subst rx ry; refine .inl ⟨rfl,?_⟩; rw [<- Option.some.inj e]; simp)
theorem zcb:OpD K cl ex (rEqA K) eqD:=fun α m H x y vx vy Q W rx ry h=>by
 unfold eqD at h
 split at h
 ·rename_i b e
  have rx:=zk2 W rx
  have ry:=zk2 W ry
  rcases zo2 e rx ry with ⟨h1,h2⟩ | ⟨h1,h2,h3⟩
  ·exact .inl ⟨h1,by rw [h2]; exact PQ.ok W h _ zg3⟩
  ·exact .inr ⟨_,_,[],rx.bare h1,ry.bare h2,h1,h2,by rw [h3]; exact PQ.ok W h _ zg3⟩
 ·exact h.elim
theorem zfM:OpD K cl ex (rNeA K) neD:=fun α m H x y vx vy Q W rx ry h=>by
 unfold neD at h
 split at h
 ·rename_i b e
  have rx:=zk2 W rx
  have ry:=zk2 W ry
  rcases zo2 e rx ry with ⟨h1,h2⟩ | ⟨h1,h2,h3⟩
  ·exact .inl ⟨h1,by rw [h2]; exact PQ.ok W h _ zg3⟩
  ·exact .inr ⟨_,_,[],rx.bare h1,ry.bare h2,h1,h2,by rw [h3]; exact PQ.ok W h _ zg3⟩
 ·exact h.elim
end
def ltS (x y:Str):Bool:=decide (x.cps.toList < y.cps.toList)
def ltD (x y:D) (m:Sto):Res D:=match x,y with
 | .int i,.int j => .ok (.bl (decide (i < j))) m
 | .str a,.str b => .ok (.bl (ltS a b)) m
 | _,_ => .bad
def leD (x y:D) (m:Sto):Res D:=match x,y with
 | .int i,.int j => .ok (.bl (decide (i<=j))) m
 | .str a,.str b => .ok (.bl (!ltS b a)) m
 | _,_ => .bad
def gtD (x y:D) (m:Sto):Res D:=match x,y with
 | .int i,.int j => .ok (.bl (decide (j < i))) m
 | _,_ => .bad
def geD (x y:D) (m:Sto):Res D:=match x,y with
 | .int i,.int j => .ok (.bl (decide (j<=i))) m
 | _,_ => .bad
def isB (x y:D):Option Bool:=match x,y with
 | .bl a,.bl b=>some (a == b)
 | .non,.non=>some true
 | _,.non=>some false
 | _,_=>none
def isD (x y:D) (m:Sto):Res D:=match isB x y with
 | some b => .ok (.bl b) m
 | none => .bad
def zkw (x y:D) (m:Sto):Res D:=match isB x y with
 | some b => .ok (.bl (!b)) m
 | none => .bad
variable {f:Bool->Bool} {Q:VK}
section
theorem znU:OpR X (compareOp .LtE) (fun x y H Q=>∃ i j,x = .str i/\y = .str j/\Q (.bl (!ltS j i)) H):=by
 intro pins s σ H x y v u Q I rx ry h
 obtain ⟨i,j,rfl,rfl,q⟩:=h
 obtain ⟨t,rfl⟩:=rx
 obtain ⟨t',rfl⟩:=ry
 exact PySem.P.le_str (zaO I q rfl)
def rLtA:R2:=fun x y H Q=>(rI0 (fun i j => .bl (decide (i < j)))) x y H Q∨∃ i j,x = .str i/\y = .str j/\Q (.bl (decide (i.cps.toList < j.cps.toList))) H
def rLeA:R2:=fun x y H Q=>(rI0 (fun i j => .bl (decide (i<=j)))) x y H Q∨∃ i j,x = .str i/\y = .str j/\Q (.bl (!ltS j i)) H
theorem zhr:OpR X (compareOp .Lt) rLtA:=OpR.or op_lt znT
theorem zlc:OpR X (compareOp .LtE) rLeA:=OpR.or op_le znU
theorem zmj:OpD K cl ex rLtA ltD:=fun α m H x y vx vy Q W rx ry h=>by
 unfold ltD at h
 split at h
 ·rw [Rep] at rx ry; exact .inl ⟨_,_,rx,ry,PQ.ok W h _ zg3⟩
 ·rw [Rep] at rx ry; exact .inr ⟨_,_,rx,ry,PQ.ok W h _ zg3⟩
 ·exact h.elim
theorem zqo:OpD K cl ex rLeA leD:=fun α m H x y vx vy Q W rx ry h=>by
 unfold leD at h
 split at h
 ·rw [Rep] at rx ry; exact .inl ⟨_,_,rx,ry,PQ.ok W h _ zg3⟩
 ·rw [Rep] at rx ry; exact .inr ⟨_,_,rx,ry,PQ.ok W h _ zg3⟩
 ·exact h.elim
theorem od_gt:OpD K cl ex (rI0 (fun i j => .bl (decide (j < i)))) gtD:=fun α m H x y vx vy Q W rx ry h=>by
 unfold gtD at h
 split at h
 ·rw [Rep] at rx ry; exact ⟨_,_,rx,ry,PQ.ok W h _ zg3⟩
 ·exact h.elim
theorem zqp:OpD K cl ex (rI0 (fun i j => .bl (decide (j<=i)))) geD:=fun α m H x y vx vy Q W rx ry h=>by
 unfold geD at h
 split at h
 ·rw [Rep] at rx ry; exact ⟨_,_,rx,ry,PQ.ok W h _ zg3⟩
 ·exact h.elim
def rIs (f:Bool->Bool):R2:=fun x y H Q=>(y = .non/\Q (.bl (f (decide (x = .non)))) H)∨∃ b c,x = .bl b/\y = .bl c/\Q (.bl (f (b == c))) H
theorem zgq:OpR X (compareOp .Is) (rIs id):=OpR.or op_isN op_isT
theorem zld:OpR X (compareOp .IsNot) (rIs not):=OpR.or zsx zqi
def isNon:D->Bool
 | .non=>true
 | _=>false
theorem znr {x:D} (rx:Rep K α H x vx):decide (vx = .non)=isNon x:=by
 cases x <;> rw [Rep] at rx
 case ob=>obtain ⟨_,_,rfl⟩:=rx; rfl
 case tup=>obtain ⟨_,_,rfl,_⟩:=rx; rfl
 case lst=>obtain ⟨_,_,rfl,_⟩:=rx; rfl
 case scr=>obtain ⟨_,_,rfl,_⟩:=rx; rfl
 case exn=>obtain ⟨_,_,_,_,rfl,_⟩:=rx; rfl
 all_goals (subst rx; rfl)
theorem zoL {x:D} (e:isB x y=some b) (rx:Rep K α H x vx) (ry:Rep K α H y vy) (q:Q (.bl (f b)) H):rIs f vx vy H Q:=by
 unfold isB at e
 split at e
 ·rw [Rep] at rx ry
  exact .inr ⟨_,_,rx,ry,by rw [Option.some.inj e]; exact q⟩
 ·have h:=znr rx
  rw [Rep] at ry
  exact .inl ⟨ry,by rw [h]; show Q (.bl (f true)) H; rw [Option.some.inj e]; exact q⟩
 ·rename_i hn
  have h:=znr rx
  rw [Rep] at ry
  refine .inl ⟨ry,?_⟩
  have:isNon x=false:=by
   cases x with
   | non=>exact (hn rfl).elim
   | _=>rfl
  rw [h,this,Option.some.inj e]
  exact q
 ·cases e
theorem zkl:OpD K cl ex (rIs id) isD:=fun α m H x y vx vy Q W rx ry h=>by
 unfold isD at h
 split at h
 ·exact zoL (f:=id) ‹_› rx ry (PQ.ok W h _ zg3)
 ·exact h.elim
theorem zoa:OpD K cl ex (rIs not) zkw:=fun α m H x y vx vy Q W rx ry h=>by
 unfold zkw at h
 split at h
 ·exact zoL (f:=not) ‹_› rx ry (PQ.ok W h _ zg3)
 ·exact h.elim
end
variable {a:Addr} {ds:List D}
section
theorem Wd.lst (W:Wd K cl α m H) {k:Nat} (h1:α[k]?=some a) (h2:m[k]?=some (.lst ds)):∃ xs,H a=some (.lst xs)/\RepL K α H ds xs:=W.at' k a _ h1 h2
theorem Wd.dct (W:Wd K cl α m H) {k:Nat} {ds:List (L2.Key × D)} (h1:α[k]?=some a) (h2:m[k]?=some (.dct ds)):∃ xs,H a=some (.dK xs)/\RepKV K α H ds xs:=W.at' k a _ h1 h2
theorem Wd.set (W:Wd K cl α m H) {k:Nat} {u:HO} {o:MO} (h1:α[k]?=some a) (h2:∀ _:Ext α H α (upd H a u),MoRep K cl α (upd H a u) a o) (hn:autoParam (∀ o v,H a≠some (.frz o v)) AutoP.a5._auto_1):Wd K cl α (m.set k o) (upd H a u)/\Ext α H α (upd H a u):=by
 have ha:a∈α := List.mem_of_getElem? h1
 have E:Ext α H α (upd H a u):=by
  refine ⟨⟨[],by simp,fun _ h=>nomatch h⟩,fun b o h n=>by rw [zav (fun z=>n (by rw [z]; exact ha))]; exact h,fun b hb=>?_,fun b o v q=>by rw [zav fun z=>hn o v (by rw [<- z]; exact q)]; exact q⟩
  by_cases hba:b=a
  ·rw [hba,zaI]; exact fun z=>nomatch z
  ·rw [zav hba]; exact W.has hb
 refine ⟨⟨by rw [List.length_set]; exact W.len,W.nd,fun j b o' e1 e2=>?_⟩,E⟩
 by_cases hj:k=j
 ·subst hj
  rw [h1] at e1
  cases e1
  have hk:k < m.length:=by rw [<- W.len]; exact (List.getElem?_eq_some_iff.mp h1).1
  rw [List.getElem?_set_self hk] at e2
  cases e2
  exact h2 E
 ·rw [List.getElem?_set_ne hj] at e2
  have hne:b≠a:=fun z=>by
   subst z
   obtain ⟨hk,e3⟩:=List.getElem?_eq_some_iff.mp h1
   obtain ⟨hk2,e4⟩:=List.getElem?_eq_some_iff.mp e1
   exact hj ((List.getElem_inj W.nd).mp (e3.trans e4.symm))
  exact (W.at' j b o' e1 e2).mono W E fun o h=>by rw [zav hne]; exact h
end
variable {vs:List V} {d:D}
theorem RepL.atI (r:RepL K α H ds vs) (h:L2.atI ds i=some d):∃ v,L2.atI vs i=some v/\Rep K α H d v:=by
 unfold L2.atI at h ⊢
 rw [r.length] at h
 cases e:ixN vs.length i with
 | none=>rw [e] at h; cases h
 | some j =>
  rw [e] at h
  exact r.get (i:=j) h
def zkT (kvs:List (L2.Key × D)) (k:L2.Key):Option D:=match kvs with
 | []=>none
 | p::r=>if p.1=k then some p.2 else zkT r k
def zny (kvs:List (L2.Key × D)) (k:L2.Key) (d:D):List (L2.Key × D):=match kvs with
 | []=>[(k,d)]
 | p::r=>if p.1=k then (p.1,d)::r.map (fun q=>if q.1=k then (q.1,d) else q) else p::zny r k d
theorem RepKV.val {K:PySem.W.Frag} {α : List Addr} {H:Hp} {k:L2.Key}:∀ {ds:List (L2.Key × D)} {vs:List (L2.Key × V)},RepKV K α H ds vs->(∀ d,zkT ds k=some d->∃ v,zjX vs k=some v/\Rep K α H d v)/\(zkT ds k=none->zjX vs k=none)
 | [],_,h=>by
  cases (show _=[] from h)
  exact ⟨fun d e=>(nomatch e),fun _=>rfl⟩
 | p::r,_,⟨v,r',e,h1,h2⟩=>by
  subst e
  have ih:=RepKV.val (k:=k) h2
  unfold zkT
  by_cases hk:p.1=k
  ·rw [if_pos hk,zfS hk]
   exact ⟨fun d e=>by cases e; exact ⟨v,rfl,h1⟩,fun e=>nomatch e⟩
  ·rw [if_neg hk,zfT hk]
   exact ih
theorem RepKV.length {K:PySem.W.Frag} {α : List Addr} {H:Hp}:∀ {ds:List (L2.Key × D)} {vs:List (L2.Key × V)},RepKV K α H ds vs->ds.length=vs.length
 | [],_,h=>by
  have h:_=[]:=h
  subst h; rfl
 | p::r,_,⟨v,r',e,h1,h2⟩=>by subst e; rw [List.length_cons,List.length_cons,RepKV.length h2]
theorem RepKV.map {K:PySem.W.Frag} {α : List Addr} {H:Hp} {k:L2.Key} {d:D} {v:V} (r:Rep K α H d v):∀ {ds:List (L2.Key × D)} {vs:List (L2.Key × V)},RepKV K α H ds vs->RepKV K α H (ds.map fun q=>if q.1=k then (q.1,d) else q) (vs.map fun q=>if q.1=k then (q.1,v) else q)
 | [],_,h=>by
  have h:_=[]:=h
  subst h; rfl
 | p::t,_,⟨w,r',e,h1,h2⟩=>by
  subst e
  rw [List.map_cons,List.map_cons]
  by_cases hk:p.1=k
  ·rw [if_pos hk,if_pos hk]
   exact ⟨v,_,rfl,r,RepKV.map r h2⟩
  ·rw [if_neg hk,if_neg hk]
   exact ⟨w,_,rfl,h1,RepKV.map r h2⟩
theorem RepKV.put {K:PySem.W.Frag} {α : List Addr} {H:Hp} {k:L2.Key} {d:D} {v:V} (r:Rep K α H d v):∀ {ds:List (L2.Key × D)} {vs:List (L2.Key × V)},RepKV K α H ds vs->RepKV K α H (zny ds k d) (zgm vs k v)
 | [],_,h=>by
  have h:_=[]:=h
  subst h
  exact ⟨v,[],rfl,r,rfl⟩
 | p::t,_,⟨w,r',e,h1,h2⟩=>by
  subst e
  unfold zny
  by_cases hk:p.1=k
  ·rw [if_pos hk]
   have e2:zgm ((p.1,w)::r') k v=(p.1,v)::r'.map fun q=>if q.1=k then (q.1,v) else q:=by
    unfold zgm
    rw [if_pos (by simp [hk]),List.map_cons,if_pos hk]
   rw [e2]
   exact ⟨v,_,rfl,r,RepKV.map r h2⟩
  ·rw [if_neg hk]
   have ih:=RepKV.put (k:=k) r h2
   have e2:zgm ((p.1,w)::r') k v=(p.1,w)::zgm r' k v:=by
    unfold zgm
    by_cases ha:(r'.any fun kv=>decide (kv.1=k))=true
    ·rw [if_pos (by rw [List.any_cons,ha,Bool.or_true]),if_pos ha,List.map_cons,if_neg hk]
    ·rw [if_neg ha,if_neg (by rw [List.any_cons]; simp only [decide_eq_false hk,Bool.false_or]; exact ha)]
     rfl
   rw [e2]
   exact ⟨w,_,rfl,h1,ih⟩
variable {τ : Type}
def opt (o:Option τ) (m:Sto):Res τ := match o with
 | some d => .ok d m
 | none => .bad
def ixD (x y:D) (m:Sto):Res D:=match x,y with
 | .tup ds,.int i=>opt (L2.atI ds i) m
 | .lst ds,.int i=>opt (L2.atI ds i) m
 | .str z,.int i=>if z.length<=sizeLine then opt ((L2.atI z.cps.toList i).map fun c=>D.str ⟨#[c]⟩) m else .bad
 | .ob k,.int i=>match m[k]? with
  | some (.lst ds)=>opt (L2.atI ds i) m
  | some (.dct kvs)=>opt (zkT kvs (.inl i)) m
  | _ => .bad
 | .ob k,.str z=>match m[k]? with
  | some (.dct kvs)=>opt (zkT kvs (.inr z)) m
  | _ => .bad
 | _,_ => .bad
variable {R:RD τ}
section
def rIxD:R2:=fun x y H Q=>∃ a v,x = .ref a/\DGet H a y (some v)/\Q v H
theorem zsU (hu:X.A.units+1 < cLine):IxR X rIxD:=by
 intro value slice pins s σ H x y v u Q I rx ry h hs
 obtain ⟨a,w,rfl,g,q⟩:=h
 cases rx
 have hT:=zkD I g
 unfold subscriptTail
 refine wpAny_bind ?_
 rw [getitemInPython_of_ne hT.not_modules]
 refine wpAny_bind (wpAny_specialOf hT PySem.F.slot_dict_getitem.lookup ?_)
 have fin:wpAny (model X.prog X.w) X.A (subscripted slice false (.ref a) u) (fun r s₃ => wpAny (model X.prog X.w) X.A (letTemporaryGo value (.ref a) r >>= fun _=>pure r) (EP X pins σ Q) X.xe s₃) X.xe s:=by
  rw [hs]
  exact wpAny_operating (wpAny_mono (zpc hu I g ry fun w' s3 I3 rw'=>(⟨w,H,I3,rw',q⟩:EP X pins σ Q w' s3)) (fun r s₃ h₃ => wpAny_bind (wpAny_letTemporaryGo (wpAny_pure h₃))) fun _ _ x=>x)
 first
  | exact wpAny_pure (wpAny_bind fin)
  | exact wpAny_bind (wpAny_pure (wpAny_bind fin))
  | exact wpAny_bind fin
def rIxA (K:PySem.W.Frag):R2:=fun x y H Q=>rIx K x y H Q∨rIxD x y H Q
theorem ix_A (hu:X.A.units+1 < cLine):IxR X (rIxA X.K):=IxR.or ix_seq (zsU hu)
theorem zfc {o:Option τ} (h:PQ K cl ex (opt o m) α H R):∃ d,o=some d/\PQ K cl ex (.ok d m) α H R:=by
 cases o with
 | none=>exact h.elim
 | some d=>exact ⟨d,rfl,h⟩
theorem od_ix:OpD K cl ex (rIxA K) ixD:=fun α m H x y vx vy Q W rx ry h=>by
 unfold ixD at h
 split at h
 ·obtain ⟨d,e,h⟩:=zfc h
  rw [Rep] at rx
  rw [Rep] at ry
  obtain ⟨a,xs,rfl,h1,r1⟩:=rx
  obtain ⟨v,e2,rv⟩:=r1.atI e
  exact .inl (.inr (.inl ⟨a,xs,_,v,rfl,ry,h1.sq,e2,PQ.ok W h _ rv⟩))
 ·obtain ⟨d,e,h⟩:=zfc h
  rw [Rep] at rx
  rw [Rep] at ry
  obtain ⟨a,xs,rfl,_,h1,r1⟩:=rx
  obtain ⟨v,e2,rv⟩:=r1.atI e
  exact .inl (.inl ⟨a,xs,_,v,rfl,ry,.inl h1,e2,PQ.ok W h _ rv⟩)
 ·obtain ⟨hc,h⟩:=PQ.if h
  obtain ⟨d,e,h⟩:=zfc h
  rw [Rep] at rx
  rw [Rep] at ry
  obtain ⟨c,e2,rfl⟩:=Option.map_eq_some_iff.mp e
  exact .inl (.inr (.inr ⟨_,_,c,rx,ry,hc,e2,PQ.ok W h _ zrT⟩))
 ·rw [Rep] at rx
  rw [Rep] at ry
  obtain ⟨a,ha,rfl⟩:=rx
  split at h
  ·obtain ⟨d,e,h⟩:=zfc h
   obtain ⟨xs,h1,r1⟩:=W.lst ha ‹_›
   obtain ⟨v,e2,rv⟩:=r1.atI e
   exact .inl (.inl ⟨a,xs,_,v,rfl,ry,SqL.of h1,e2,PQ.ok W h _ rv⟩)
  ·obtain ⟨d,e,h⟩:=zfc h
   obtain ⟨xs,h1,r1⟩:=W.dct ha ‹_›
   obtain ⟨v,e2,rv⟩:=(RepKV.val r1).1 d e
   refine .inr ⟨a,v,rfl,?_,PQ.ok W h _ rv⟩
   rw [ry,<- e2]
   exact DGet.k (k := .inl _) h1
  ·exact h.elim
 ·rw [Rep] at rx
  rw [Rep] at ry
  obtain ⟨a,ha,rfl⟩:=rx
  split at h
  ·obtain ⟨d,e,h⟩:=zfc h
   obtain ⟨xs,h1,r1⟩:=W.dct ha ‹_›
   obtain ⟨v,e2,rv⟩:=(RepKV.val r1).1 d e
   refine .inr ⟨a,v,rfl,?_,PQ.ok W h _ rv⟩
   rw [ry,<- e2]
   exact DGet.k (k := .inr _) h1
  ·exact h.elim
 ·exact h.elim
end
def zix (xs:List τ) (lo hi:Option Int):List τ := (xs.drop (HT.sIx xs.length 0 lo)).take (HT.sIx xs.length xs.length hi - HT.sIx xs.length 0 lo)
theorem RepL.take {K:PySem.W.Frag} {α : List Addr} {H:Hp}:∀ {ds:List D} {vs:List V} (n:Nat),RepL K α H ds vs->RepL K α H (ds.take n) (vs.take n)
 | [],_,_,h=>by rw [RepL] at h; subst h; simp [RepL]
 | _::_,_,0,h=>by simp [RepL]
 | _::_,_,n+1,h=>by
  rw [RepL] at h
  obtain ⟨v,r,rfl,a,b⟩:=h
  rw [List.take_succ_cons,List.take_succ_cons,RepL]
  exact ⟨v,_,rfl,a,RepL.take n b⟩
theorem RepL.drop {K:PySem.W.Frag} {α : List Addr} {H:Hp}:∀ {ds:List D} {vs:List V} (n:Nat),RepL K α H ds vs->RepL K α H (ds.drop n) (vs.drop n)
 | _,_,0,h=>h
 | [],_,n+1,h=>by rw [RepL] at h; subst h; simp [RepL]
 | _::_,_,n+1,h=>by
  rw [RepL] at h
  obtain ⟨v,r,rfl,a,b⟩:=h
  exact RepL.drop n b
theorem RepL.cut (lo hi:Option Int) (r:RepL K α H ds vs):RepL K α H (zix ds lo hi) (zrn vs lo hi):=by
 unfold zix zrn
 rw [r.length]
 exact RepL.take _ (RepL.drop _ r)
abbrev OV:=En->Sto->Res (Option Int)
def zhb:OV:=fun _ m => .ok none m
def zeW (f:EV):OV:=fun ρ m=>(f ρ m).bind fun d m1=>match d with
 | .int i => .ok (some i) m1
 | _ => .bad
def tDO (K:PySem.W.Frag) (cl:Str->Addr) (ex:XD) (f:OV):TO:=fun σ H Q=>∃ α ρ m,Wd K cl α m H/\RepE K α H ρ σ /\ PQ K cl ex (f ρ m) α H fun d _ _ H'=>Q d H'
structure QO (X:Cx) (cl:Str->Addr) (ex:XD) (e:Option Expr) (f:OV):Prop where
 out:PO X e (tDO X.K cl ex f)
theorem PO.weak {e:Option Expr} {t t':TO} (h:PO X e t) (w:∀ σ H Q,t' σ H Q->t σ H Q):PO X e t':=fun pins s σ H Q I q=>h pins s σ H Q I (w σ H Q q)
def slD (x:D) (lo hi:Option Int) (m:Sto):Res D:=match x with
 | .tup ds=>if HT.sIx ds.length 0 lo=0/\HT.sIx ds.length ds.length hi=ds.length then .bad else .ok (.tup (zix ds lo hi)) m
 | .lst ds => .ok (.lst (zix ds lo hi)) m
 | .scr ds => .ok (.lst (zix ds lo hi)) m
 | .str z=>if z.length<=sizeLine then .ok (.str (Txt.slice z lo hi)) m else .bad
 | .ob k=>match m[k]? with
  | some (.lst ds) => .ok (.lst (zix ds lo hi)) m
  | _ => .bad
 | _ => .bad
def eSl (f:EV) (lo hi:OV):EV:=fun ρ m=>(f ρ m).bind fun x m1=>(lo ρ m1).bind fun l m2=>(hi ρ m2).bind fun h m3=>slD x l h m3
variable {fa:EV} {pos:Pos}
section
variable {e:Expr} {lo hi:OV} {el eh:Option Expr} {p2:Pos}
theorem zel:QO X cl ex none zhb:=⟨PO.weak zsl fun σ H Q hh=>ex3 hh fun α ρ m W hr h=>PQ.ok W h⟩
theorem zcp (hq:QE X cl ex e fa):QO X cl ex (some e) (zeW fa):=⟨PO.weak (zsk hq.out) fun σ H Q hh=>ex3 hh fun α ρ m W hr h=>tD.use W hr h fun α1 m1 H1 d v E1 W1 hr1 rv q1=>by
 split at q1
 ·rw [Rep] at rv; exact ⟨_,rv,PQ.ok W1 q1⟩
 ·exact q1.elim⟩
theorem tDO.use {ρ : En} {f:OV} {k:Option Int->Sto->Res τ} {Q:Option Int->Hp->Prop} (W:Wd K cl α m H) (hr:RepE K α H ρ σ) (h:PQ K cl ex ((f ρ m).bind k) α H R)
  (hQ:∀ α1 m1 H1 d,Ext α H α1 H1->Wd K cl α1 m1 H1->RepE K α1 H1 ρ σ -> PQ K cl ex (k d m1) α1 H1 R->Q d H1):tDO K cl ex f σ H Q :=
 ⟨α,ρ,m,W,hr,PQ.mono (Ext.refl W) h.bind fun d α1 m1 H1 E1 W1 q=>hQ α1 m1 H1 d E1 W1 (hr.mono W E1) q⟩
theorem ziU (he:QE X cl ex e fa) (hl:QO X cl ex el lo) (hh:QO X cl ex eh hi):QE X cl ex (.Subscript e (.Slice el eh none p2) pos) (eSl fa lo hi) :=
 ⟨PE.weak (zk9 (SlR.or zq0 (SlR.or zm6 zqZ)) he.out hl.out hh.out) fun σ H Q hh=>ex3 hh fun α ρ m W hr h =>
  tD.use W hr h fun α1 m1 H1 d v E1 W1 hr1 rv q1=>tDO.use W1 hr1 q1 fun α2 m2 H2 l E2 W2 hr2 q2=>tDO.use W2 hr2 q2 fun α3 m3 H3 u E3 W3 hr3 q3=>by
   have rv:=rv.mono W1 (E2.trans E3)
   unfold slD at q3
   split at q3
   ·split at q3
    ·exact q3.elim
    ·rename_i hn
     rw [Rep] at rv
     obtain ⟨a,xs,rfl,h1,r1⟩:=rv
     refine .inl ⟨a,xs,rfl,h1.sq,by rw [<- r1.length]; exact hn,fun p hp=>?_⟩
     exact PQ.okS W3 (Same.new hp) q3 _ (zby W3 hp (r1.cut l u))
   ·rw [Rep] at rv
    obtain ⟨a,xs,rfl,_,h1,r1⟩:=rv
    exact .inr (.inl ⟨a,xs,rfl,.inl h1,fun p hp=>PQ.okS W3 (Same.new hp) q3 _ (zca W3 hp (r1.cut l u))⟩)
   ·rw [Rep] at rv
    obtain ⟨a,xs,rfl,h1,r1⟩:=rv
    exact .inr (.inl ⟨a,xs,rfl,h1.sq,fun p hp=>PQ.okS W3 (Same.new hp) q3 _ (zca W3 hp (r1.cut l u))⟩)
   ·rw [Rep] at rv
    obtain ⟨hc,q3⟩:=PQ.if q3
    exact .inr (.inr ⟨_,rv,hc,PQ.ok W3 q3 _ zrT⟩)
   ·rw [Rep] at rv
    obtain ⟨a,ha,rfl⟩:=rv
    split at q3
    ·obtain ⟨xs,h1,r1⟩:=W3.lst ha ‹_›
     exact .inr (.inl ⟨a,xs,rfl,SqL.of h1,fun p hp=>PQ.okS W3 (Same.new hp) q3 _ (zca W3 hp (r1.cut l u))⟩)
    ·exact q3.elim
   ·exact q3.elim⟩
end
variable {xs:List D}
section
theorem RepL.one_of (h:RepL K α H [d] vs):∃ v,vs=[v]/\Rep K α H d v:=by
 rw [RepL] at h
 obtain ⟨v,r,rfl,a,b⟩:=h
 rw [RepL] at b
 subst b
 exact ⟨v,rfl,a⟩
theorem RepL.two_of {e:D} (h:RepL K α H [d,e] vs):∃ v w,vs=[v,w]/\Rep K α H d v/\Rep K α H e w:=by
 rw [RepL] at h
 obtain ⟨v,r,rfl,a,b⟩:=h
 obtain ⟨w,rfl,c⟩:=b.one_of
 exact ⟨v,w,rfl,a,c⟩
def zfO (ds:List D) (m:Sto):Res D:=match ds with
 | [.tup xs] => .ok (.int xs.length) m
 | [.lst xs] => .ok (.int xs.length) m
 | [.scr xs] => .ok (.int xs.length) m
 | [.str z]=>if z.length<=sizeLine then .ok (.int z.length) m else .bad
 | [.ob k]=>match m[k]? with
  | some (.lst xs) => .ok (.int xs.length) m
  | some (.dct xs) => .ok (.int xs.length) m
  | _ => .bad
 | _ => .bad
def rLen (K:PySem.W.Frag):List V->Hp->VK->Prop:=fun xs H Q=>(∃ p ys,xs=[.ref p]/\(SqL K H p ys∨SqT K H p ys)/\Q (.int ys.length) H)∨(∃ z,xs=[.str z]/\z.length<=sizeLine/\Q (.int z.length) H)∨∃ a kvs,xs=[V.ref a]/\H a=some (.dK kvs)/\Q (.int kvs.length) H
theorem zpi:CallR X (.builtin "len") (fun xs H Q=>∃ a kvs,xs=[V.ref a]/\H a=some (.dK kvs)/\Q (.int kvs.length) H):=by
 intro pins s σ H xs us Q I r h
 obtain ⟨a,kvs,rfl,e,q⟩:=h
 obtain ⟨u,rfl,ru⟩:=zcn r
 cases ru
 exact d_len I (.inl e) fun t s' I'=>⟨.int kvs.length,H,I',⟨t,rfl⟩,q⟩
theorem zaX:CallR X (.builtin "len") (rLen X.K):=CallR.or zjK (CallR.or zjJ zpi)
theorem zcQ:FnD K cl ex (rLen K) zfO:=fun α m H x vx Q W rx h=>by
 unfold zfO at h
 split at h
 ·obtain ⟨v,rfl,rv⟩:=rx.one_of
  rw [Rep] at rv
  obtain ⟨a,xs,rfl,h1,r1⟩:=rv
  exact .inl ⟨a,xs,rfl,.inr h1.sq,by rw [<- r1.length]; exact PQ.ok W h _ zfa⟩
 ·obtain ⟨v,rfl,rv⟩:=rx.one_of
  rw [Rep] at rv
  obtain ⟨a,xs,rfl,_,h1,r1⟩:=rv
  exact .inl ⟨a,xs,rfl,.inl (.inl h1),by rw [<- r1.length]; exact PQ.ok W h _ zfa⟩
 ·obtain ⟨v,rfl,rv⟩:=rx.one_of
  rw [Rep] at rv
  obtain ⟨a,xs,rfl,h1,r1⟩:=rv
  exact .inl ⟨a,xs,rfl,.inl h1.sq,by rw [<- r1.length]; exact PQ.ok W h _ zfa⟩
 ·obtain ⟨v,rfl,rv⟩:=rx.one_of
  rw [Rep] at rv
  subst rv
  obtain ⟨hc,h⟩:=PQ.if h
  exact .inr (.inl ⟨_,rfl,hc,PQ.ok W h _ zfa⟩)
 ·obtain ⟨v,rfl,rv⟩:=rx.one_of
  rw [Rep] at rv
  obtain ⟨a,ha,rfl⟩:=rv
  split at h
  ·obtain ⟨xs,h1,r1⟩:=W.lst ha ‹_›
   exact .inl ⟨a,xs,rfl,.inl (SqL.of h1),by rw [<- r1.length]; exact PQ.ok W h _ zfa⟩
  ·obtain ⟨xs,h1,r1⟩:=W.dct ha ‹_›
   exact .inr (.inr ⟨a,xs,rfl,h1,by rw [<- r1.length]; exact PQ.ok W h _ zfa⟩)
  ·exact h.elim
 ·exact h.elim
def zsW (ds:List D) (m:Sto):Res D:=match ds with
 | [.int i] => .ok (.int i) m
 | [.bl b] => .ok (.int (if b then 1 else 0)) m
 | [.str z]=>match PySem.intText? z with
  | some n=>if z.length<=640 then .ok (.int n) m else .bad
  | none => .bad
 | _ => .bad
def rInt:List V->Hp->VK->Prop:=fun xs H Q=>((∃ i,xs=[.int i]/\Q (.int i) H)∨∃ k,xs=[.bl k]/\Q (.int (if k then 1 else 0)) H)∨∃ z n,xs=[.str z]/\PySem.intText? z=some n/\z.length<=640/\Q (.int n) H
theorem zpm:CallR X (.type "int") rInt:=CallR.or zpn zjL
theorem fd_int:FnD K cl ex rInt zsW:=fun α m H x vx Q W rx h=>by
 unfold zsW at h
 split at h
 ·obtain ⟨v,rfl,rv⟩:=rx.one_of
  rw [Rep] at rv; subst rv
  exact .inl (.inl ⟨_,rfl,PQ.ok W h _ zfa⟩)
 ·obtain ⟨v,rfl,rv⟩:=rx.one_of
  rw [Rep] at rv; subst rv
  exact .inl (.inr ⟨_,rfl,PQ.ok W h _ zfa⟩)
 ·obtain ⟨v,rfl,rv⟩:=rx.one_of
  rw [Rep] at rv; subst rv
  split at h
  ·obtain ⟨hc,h⟩:=PQ.if h
   exact .inr ⟨_,_,rfl,‹_›,hc,PQ.ok W h _ zfa⟩
  ·exact h.elim
 ·exact h.elim
def zrE (ds:List D) (m:Sto):Res D:=match ds with
 | [.int i]=>if i.natAbs.log2 < 1920 then .ok (.str (toString i)) m else .bad
 | _ => .bad
theorem fd_str:FnD K cl ex (fun xs H Q=>∃ i,xs=[.int i]/\i.natAbs.log2 < 1920/\Q (.str (toString i)) H) zrE:=fun α m H x vx Q W rx h=>by
 unfold zrE at h
 split at h
 ·obtain ⟨v,rfl,rv⟩:=rx.one_of
  rw [Rep] at rv; subst rv
  obtain ⟨hc,h⟩:=PQ.if h
  exact ⟨_,rfl,hc,PQ.ok W h _ zrT⟩
 ·exact h.elim
def absF (ds:List D) (m:Sto):Res D:=match ds with
 | [.int i] => .ok (.int (if i < 0 then -i else i)) m
 | _ => .bad
theorem zrd:FnD K cl ex (fun xs H Q=>∃ i,xs=[.int i]/\Q (.int (if i < 0 then -i else i)) H) absF:=fun α m H x vx Q W rx h=>by
 unfold absF at h
 split at h
 ·obtain ⟨v,rfl,rv⟩:=rx.one_of
  rw [Rep] at rv; subst rv
  exact ⟨_,rfl,PQ.ok W h _ zfa⟩
 ·exact h.elim
def zgw (ds:List D) (m:Sto):Res D:=match ds with
 | [.int i,.int j] => .ok (.int (if j>i then j else i)) m
 | _ => .bad
theorem zfm:FnD K cl ex (fun xs H Q=>∃ i j,xs=[.int i,.int j]/\Q (.int (if j>i then j else i)) H) zgw:=fun α m H x vx Q W rx h=>by
 unfold zgw at h
 split at h
 ·obtain ⟨v,w,rfl,rv,rw'⟩:=rx.two_of
  rw [Rep] at rv rw'; subst rv rw'
  exact ⟨_,_,rfl,PQ.ok W h _ zfa⟩
 ·exact h.elim
def zon (ds:List D) (m:Sto):Res D:=match ds with
 | [.int i,.int j] => .ok (.int (if j < i then j else i)) m
 | _ => .bad
theorem zoZ:FnD K cl ex (fun xs H Q=>∃ i j,xs=[.int i,.int j]/\Q (.int (if j < i then j else i)) H) zon:=fun α m H x vx Q W rx h=>by
 unfold zon at h
 split at h
 ·obtain ⟨v,w,rfl,rv,rw'⟩:=rx.two_of
  rw [Rep] at rv rw'; subst rv rw'
  exact ⟨_,_,rfl,PQ.ok W h _ zfa⟩
 ·exact h.elim
def zmN (ds:List D) (m:Sto):Res D:=match ds with
 | [.lst xs] => .ok (.tup xs) m
 | [.tup xs] => .ok (.tup xs) m
 | [.ob k]=>match m[k]? with
  | some (.lst xs) => .ok (.tup xs) m
  | _ => .bad
 | [.str z]=>if z.cps.size<=sizeLine then .ok (.tup (zgd z)) m else .bad
 | _ => .bad
def rTup (K:PySem.W.Frag):List V->Hp->VK->Prop:=fun xs H Q=>(∃ p ys,xs=[.ref p]/\((SqL K H p ys/\∀ l,H l=none->Q (.ref l) (upd H l (.tup ys)))∨(SqT K H p ys/\Q (.ref p) H)))∨∃ z,xs=[.str z]/\z.cps.size<=sizeLine/\∀ l,H l=none->Q (.ref l) (upd H l (.tup ((List.range z.cps.size).map (sgn z))))
theorem zcy (hc:X.calm=true):CallR X (.type "tuple") (rTup X.K):=CallR.or ziz (zhf hc)
theorem znq:RepL K α H (zgd z) ((List.range z.cps.size).map (sgn z)):=by
 unfold zgd
 generalize List.range z.cps.size=l
 induction l with
 | nil=>simp [RepL]
 | cons i r ih=>rw [List.map_cons,List.map_cons,RepL]; exact ⟨_,_,rfl,by rw [Rep]; rfl,ih⟩
theorem zgP:FnD K cl ex (rTup K) zmN:=fun α m H x vx Q W rx h=>by
 unfold zmN at h
 split at h
 ·obtain ⟨v,rfl,rv⟩:=rx.one_of
  rw [Rep] at rv
  obtain ⟨a,xs,rfl,_,h1,r1⟩:=rv
  exact .inl ⟨a,xs,rfl,.inl ⟨.inl h1,fun l hl=>PQ.okS W (Same.new hl) h _ (zby W hl r1)⟩⟩
 ·obtain ⟨v,rfl,rv⟩:=rx.one_of
  have rv2:=rv
  rw [Rep] at rv
  obtain ⟨a,xs,rfl,h1,r1⟩:=rv
  exact .inl ⟨a,xs,rfl,.inr ⟨h1.sq,PQ.ok W h _ rv2⟩⟩
 ·obtain ⟨v,rfl,rv⟩:=rx.one_of
  rw [Rep] at rv
  obtain ⟨a,ha,rfl⟩:=rv
  split at h
  ·obtain ⟨xs,h1,r1⟩:=W.lst ha ‹_›
   exact .inl ⟨a,xs,rfl,.inl ⟨SqL.of h1,fun l hl=>PQ.okS W (Same.new hl) h _ (zby W hl r1)⟩⟩
  ·exact h.elim
 ·obtain ⟨v,rfl,rv⟩:=rx.one_of
  rw [Rep] at rv; subst rv
  obtain ⟨hc,h⟩:=PQ.if h
  exact .inr ⟨_,rfl,hc,fun l hl=>PQ.okS W (Same.new hl) h _ (zby W hl znq)⟩
 ·exact h.elim
def zrI (d:D) (m:Sto):Option (List D):=match d with
 | .lst xs=>some xs
 | .tup xs=>some xs
 | .scr xs=>some xs
 | .ob k=>match m[k]? with
  | some (.lst xs)=>some xs
  | _=>none
 | _=>none
def lstF (ds:List D) (m:Sto):Res D:=match ds with
 | [d]=>match zrI d m with
  | some xs => .ok (.lst xs) m
  | none => .bad
 | _ => .bad
theorem znb (W:Wd K cl α m H) (e:zrI d m=some xs) (rv:Rep K α H d v):∃ p ys,v = .ref p/\(SqL K H p ys∨SqT K H p ys)/\RepL K α H xs ys:=by
 unfold zrI at e
 split at e
 ·cases e; rw [Rep] at rv; obtain ⟨a,ys,rfl,_,h1,r1⟩:=rv; exact ⟨a,ys,rfl,.inl (.inl h1),r1⟩
 ·cases e; rw [Rep] at rv; obtain ⟨a,ys,rfl,h1,r1⟩:=rv; exact ⟨a,ys,rfl,.inr h1.sq,r1⟩
 ·cases e; rw [Rep] at rv; obtain ⟨a,ys,rfl,h1,r1⟩:=rv; exact ⟨a,ys,rfl,.inl h1.sq,r1⟩
 ·rw [Rep] at rv
  obtain ⟨a,ha,rfl⟩:=rv
  split at e
  ·cases e; obtain ⟨ys,h1,r1⟩:=W.lst ha ‹_›; exact ⟨a,ys,rfl,.inl (SqL.of h1),r1⟩
  ·cases e
 ·cases e
theorem fd_lst:FnD K cl ex (fun xs H Q=>∃ p ys,xs=[.ref p]/\(SqL K H p ys∨SqT K H p ys)/\∀ l,H l=none->Q (.ref l) (upd H l (.lst ys))) lstF:=fun α m H x vx Q W rx h=>by
 unfold lstF at h
 split at h
 ·split at h
  ·obtain ⟨v,rfl,rv⟩:=rx.one_of
   obtain ⟨p,ys,rfl,h1,r1⟩:=znb W ‹_› rv
   exact ⟨p,ys,rfl,h1,fun l hl=>PQ.okS W (Same.new hl) h _ (zca W hl r1)⟩
  ·exact h.elim
 ·exact h.elim
def zgT:List D->Option (List Int)
 | []=>some []
 | .int i::r=>(zgT r).map (i :: ·)
 | _=>none
def zkK:List D->Option (List Bool)
 | []=>some []
 | .bl i::r=>(zkK r).map (i :: ·)
 | _=>none
def zfG:List D->Option (List Str)
 | []=>some []
 | .str i::r=>(zfG r).map (i :: ·)
 | _=>none
theorem zfr:∀ {ds:List D} {ns:List Int} {vs:List V},zgT ds=some ns->RepL K α H ds vs->vs=ns.map V.int
 | [],ns,vs,e,r=>by cases e; rw [RepL] at r; exact r
 | d::t,ns,vs,e,r=>by
  unfold zgT at e
  split at e
  ·exact absurd ‹d::t=[]› (by simp)
  ·rename_i i t' e1
   cases e1
   obtain ⟨ms,e2,rfl⟩:=Option.map_eq_some_iff.mp e
   rw [RepL] at r
   obtain ⟨v,r',rfl,a,b⟩:=r
   rw [Rep] at a
   subst a
   rw [zfr e2 b]
   rfl
  ·cases e
theorem zgU:∀ {ds:List D} {ns:List Bool} {vs:List V},zkK ds=some ns->RepL K α H ds vs->vs=ns.map V.bl
 | [],ns,vs,e,r=>by cases e; rw [RepL] at r; exact r
 | d::t,ns,vs,e,r=>by
  unfold zkK at e
  split at e
  ·exact absurd ‹d::t=[]› (by simp)
  ·rename_i i t' e1
   cases e1
   obtain ⟨ms,e2,rfl⟩:=Option.map_eq_some_iff.mp e
   rw [RepL] at r
   obtain ⟨v,r',rfl,a,b⟩:=r
   rw [Rep] at a
   subst a
   rw [zgU e2 b]
   rfl
  ·cases e
theorem zhG:∀ {ds:List D} {ns:List Str} {vs:List V},zfG ds=some ns->RepL K α H ds vs->vs=ns.map V.str
 | [],ns,vs,e,r=>by cases e; rw [RepL] at r; exact r
 | d::t,ns,vs,e,r=>by
  unfold zfG at e
  split at e
  ·exact absurd ‹d::t=[]› (by simp)
  ·rename_i i t' e1
   cases e1
   obtain ⟨ms,e2,rfl⟩:=Option.map_eq_some_iff.mp e
   rw [RepL] at r
   obtain ⟨v,r',rfl,a,b⟩:=r
   rw [Rep] at a
   subst a
   rw [zhG e2 b]
   rfl
  ·cases e
def lOf (d:D) (m:Sto):Option (List D):=match d with
 | .lst xs=>some xs
 | .ob k=>match m[k]? with
  | some (.lst xs)=>some xs
  | _=>none
 | _=>none
theorem zin (W:Wd K cl α m H) (e:lOf d m=some xs) (rv:Rep K α H d v):∃ p ys,v = .ref p/\SqL K H p ys/\RepL K α H xs ys:=by
 unfold lOf at e
 split at e
 ·cases e; rw [Rep] at rv; obtain ⟨a,ys,rfl,_,h1,r1⟩:=rv; exact ⟨a,ys,rfl,.inl h1,r1⟩
 ·rw [Rep] at rv
  obtain ⟨a,ha,rfl⟩:=rv
  split at e
  ·cases e; obtain ⟨ys,h1,r1⟩:=W.lst ha ‹_›; exact ⟨a,ys,rfl,SqL.of h1,r1⟩
  ·cases e
 ·cases e
def zry (ns:List Int):Prop:=(∀ a,a∈ns->0<=a/\a<=2 ^ 50)/\ns.length<=1000
instance (ns:List Int):Decidable (zry ns):=by unfold zry; infer_instance
def zrA (ds:List D) (m:Sto):Res D:=match ds with
 | [d]=>match (lOf d m).bind zgT with
  | some ns=>if zry ns then .ok (.int ns.sum) m else .bad
  | none => .bad
 | _ => .bad
theorem zrc:FnD K cl ex (fun xs H Q=>∃ (l:Addr) (ns:List Int),xs=[.ref l]/\SqL K H l (ns.map V.int)/\(∀ a,a∈ns->0<=a/\a<=2 ^ 50)/\ns.length<=1000/\Q (.int ns.sum) H) zrA:=fun α m H x vx Q W rx h=>by
 unfold zrA at h
 split at h
 ·split at h
  ·rename_i ns e
   obtain ⟨hc,h⟩:=PQ.if h
   obtain ⟨v,rfl,rv⟩:=rx.one_of
   obtain ⟨xs,e1,e2⟩:=Option.bind_eq_some_iff.mp e
   obtain ⟨p,ys,rfl,h1,r1⟩:=zin W e1 rv
   rw [zfr e2 r1] at h1
   exact ⟨p,ns,rfl,h1,hc.1,hc.2,PQ.ok W h _ zfa⟩
  ·exact h.elim
 ·exact h.elim
def allF (ds:List D) (m:Sto):Res D:=match ds with
 | [d]=>match (lOf d m).bind zkK with
  | some bs => .ok (.bl (bs.all id)) m
  | none => .bad
 | _ => .bad
theorem fd_all:FnD K cl ex (fun xs H Q=>∃ (l:Addr) (bs:List Bool),xs=[.ref l]/\SqL K H l (bs.map V.bl)/\Q (.bl (bs.all id)) H) allF:=fun α m H x vx Q W rx h=>by
 unfold allF at h
 split at h
 ·split at h
  ·rename_i ns e
   obtain ⟨v,rfl,rv⟩:=rx.one_of
   obtain ⟨xs,e1,e2⟩:=Option.bind_eq_some_iff.mp e
   obtain ⟨p,ys,rfl,h1,r1⟩:=zin W e1 rv
   rw [zgU e2 r1] at h1
   exact ⟨p,ns,rfl,h1,PQ.ok W h _ zg3⟩
  ·exact h.elim
 ·exact h.elim
end
def zdr (ty:D->Sto->Bool) (g:D->List D->Sto->Res D) (fo:EV) (fr:AV):EV:=fun ρ m=>(fo ρ m).bind fun o m1=>if ty o m1=true then (fr ρ m1).bind fun ds m2=>g o ds m2 else .bad
def MtD (K:PySem.W.Frag) (cl:Str->Addr) (ex:XD) (r:V->List V->Hp->VK->Prop) (g:D->List D->Sto->Res D):Prop :=
 ∀ (α : List Addr) (m:Sto) (H:Hp) (x:D) (xs:List D) (vx:V) (vs:List V) (Q:VK),Wd K cl α m H->Rep K α H x vx->RepL K α H xs vs->PQ K cl ex (g x xs m) α H (fun d α' _ H'=>∀ v,Rep K α' H' d v->Q v H')->r vx vs H Q
def zqD (d:D) (_:Sto):Bool:=match d with
 | .str _=>true
 | _=>false
def zdH (d:D) (m:Sto):Bool:=match d with
 | .lst _=>true
 | .ob k=>match m[k]? with
  | some (.lst _)=>true
  | _=>false
 | _=>false
def zqC (d:D) (_:Sto):Bool:=match d with
 | .tup _=>true
 | _=>false
variable {o:Expr} {es:List Expr} {fo:EV} {name:Str} {apos cpos:Pos} {r:V->List V->Hp->VK->Prop}
section
variable {e:Expr} {fr:AV} {T id:String} {g:D->List D->Sto->Res D} {ty:D->Sto->Bool}
theorem zqW (h:zqD d m=true) (W:Wd K cl α m H) (r:Rep K α H d v):tyV K "str" v H:=by
 cases d with
 | str z=>rw [Rep] at r; subst r; rfl
 | _=>cases h
theorem zfu (h:zdH d m=true) (W:Wd K cl α m H) (r:Rep K α H d v):tyV K "list" v H:=by
 unfold zdH at h
 split at h
 ·rw [Rep] at r; obtain ⟨a,ys,rfl,_,h1,r1⟩:=r; exact .inl ⟨rfl,ys,.inl h1⟩
 ·rw [Rep] at r
  obtain ⟨a,ha,rfl⟩:=r
  split at h
  ·obtain ⟨ys,h1,_⟩:=W.lst ha ‹_›; exact .inl ⟨rfl,ys,SqL.of h1⟩
  ·cases h
 ·cases h
theorem tBM_of (hty:∀ {α : List Addr} {m:Sto} {H:Hp} {d:D} {v:V},ty d m=true->Wd X.K cl α m H->Rep X.K α H d v->tyV X.K T v H) (hd:MtD X.K cl ex r g):∀ σ H Q,tD X.K cl ex (zdr ty g fo fr) σ H Q->tBM X.K T r (tD X.K cl ex fo) (tDA X.K cl ex fr) σ H Q:=fun σ H Q hh=>ex3 hh fun α ρ m W hr h =>
 tD.use W hr h fun α1 m1 H1 d v E1 W1 hr1 rv q1=>by
  obtain ⟨ht,q1⟩:=PQ.if q1
  exact ⟨hty ht W1 rv,tDA.use W1 hr1 q1 fun α2 m2 H2 ds vs E2 W2 hr2 rvs q2=>hd α2 m2 H2 d ds v vs Q W2 (rv.mono W1 E2) rvs q2⟩
theorem zg4 (pa:PlainAttrs T) (slot:Slot T name id) (hty:typeOf (.builtin id)=pure (.type "method_descriptor")) (hm:MtR X id r) (hT:∀ {α : List Addr} {m:Sto} {H:Hp} {d:D} {v:V},ty d m=true->Wd X.K cl α m H->Rep X.K α H d v->tyV X.K T v H) (hd:MtD X.K cl ex r g) (ho:QE X cl ex o fo) (ha:QA X cl ex (e::es) fr)
  (hbase:autoParam (attributeBase o name X.env (eval o X.env)=eval o X.env) AutoP.a3._auto_1)
  (hfew:autoParam (((backTo cpos (starEach (e::es) X.env)).all (fun x => !x.1) && (backToKw cpos (keywordEach [] X.env)).all (fun x=>x.1.isSome)
   && decide ((e::es).length+([]:List Keyword).length+(if ([]:List Keyword).isEmpty then 0 else 1) < 30))=true) AutoP.a3._auto_1)
  (hline:autoParam ((apos.endLine == cpos.line)=true) AutoP.a3._auto_1) (hs:autoParam (starEach (e::es) X.env=(false,eval e X.env)::starEach es X.env) AutoP.a3._auto_1) (hplain:autoParam ((backTo cpos (starEach es X.env)).any (·.1)=false) AutoP.a3._auto_1) :
  QE X cl ex (.Call (.Attribute o name apos) (e::es) [] cpos) (zdr ty g fo fr) :=
 ⟨PE.weak (pe_bm pa slot hty hm ho.out ha.out hbase hfew hline hs hplain) (tBM_of hT hd)⟩
def zjb (o:D) (ds:List D) (m:Sto):Res D:=match o,ds with
 | .str z,[d]=>match (lOf d m).bind zfG with
  | some ts=>if JoinOk z ts=true then .ok (.str (Txt.join z ts)) m else .bad
  | none => .bad
 | _,_ => .bad
theorem zor:MtD K cl ex (fun x xs H Q=>∃ (z:Str) (l:Addr) (ts:List Str),x = .str z/\xs=[.ref l]/\SqL K H l (ts.map V.str)/\JoinOk z ts=true/\Q (.str (Txt.join z ts)) H) zjb:=fun α m H x xs vx vs Q W rx rxs h=>by
 unfold zjb at h
 split at h
 ·split at h
  ·rename_i e
   obtain ⟨hc,h⟩:=PQ.if h
   rw [Rep] at rx
   obtain ⟨v,rfl,rv⟩:=rxs.one_of
   obtain ⟨xs,e1,e2⟩:=Option.bind_eq_some_iff.mp e
   obtain ⟨p,ys,rfl,h1,r1⟩:=zin W e1 rv
   rw [zhG e2 r1] at h1
   exact ⟨_,p,_,rx,rfl,h1,hc,PQ.ok W h _ zrT⟩
  ·exact h.elim
 ·exact h.elim
def zcA (o:D) (ds:List D) (m:Sto):Res D:=match o,ds with
 | .ob k,[d]=>match m[k]? with
  | some (.lst xs)=>if xs.length < sizeLine then .ok .non (m.set k (.lst (xs++[d]))) else .bad
  | _ => .bad
 | _,_ => .bad
theorem zdF:MtD K cl ex znu zcA:=fun α m H x xs vx vs Q W rx rxs h=>by
 unfold zcA at h
 split at h
 ·split at h
  ·rename_i k d _ ds e
   obtain ⟨hc,h⟩:=PQ.if h
   rw [Rep] at rx
   obtain ⟨a,ha,rfl⟩:=rx
   obtain ⟨v,rfl,rv⟩:=rxs.one_of
   obtain ⟨ys,h1,r1⟩:=W.lst ha e
   obtain ⟨W2,E2⟩:=W.set (u := .lst (ys++[v])) (o := .lst (ds++[d])) ha fun E=>⟨_,zaI,RepL.append (r1.mono W E) (RepL.one (rv.mono W E))⟩
   exact ⟨a,ys,v,rfl,rfl,h1,by rw [<- r1.length]; exact hc,h _ _ E2 W2 _ repN⟩
  ·exact h.elim
 ·exact h.elim
def popM (o:D) (ds:List D) (m:Sto):Res D:=match o,ds with
 | .ob k,[.int i]=>match m[k]? with
  | some (.lst xs)=>if -(2 ^ 63)<=i/\i < 2 ^ 63 then match seqIndex? i xs.length with
   | some j=>match xs[j]? with
    | some d => .ok d (m.set k (.lst (xs.eraseIdx j)))
    | none => .bad
   | none => .bad else .bad
  | _ => .bad
 | _,_ => .bad
theorem RepL.erase (j:Nat) (r:RepL K α H ds vs):RepL K α H (ds.eraseIdx j) (vs.eraseIdx j):=by
 rw [List.eraseIdx_eq_take_drop_succ,List.eraseIdx_eq_take_drop_succ]
 exact RepL.append (r.take j) (r.drop (j+1))
theorem md_pop:MtD K cl ex zq1 popM:=fun α m H x xs vx vs Q W rx rxs h=>by
 unfold popM at h
 split at h
 ·split at h
  ·rename_i k i _ ds e
   obtain ⟨hc,h⟩:=PQ.if h
   rw [Rep] at rx
   obtain ⟨a,ha,rfl⟩:=rx
   obtain ⟨v,rfl,rv⟩:=rxs.one_of
   rw [Rep] at rv
   subst rv
   obtain ⟨ys,h1,r1⟩:=W.lst ha e
   split at h
   ·rename_i j ej
    split at h
    ·rename_i d ed
     obtain ⟨w,hw,rw'⟩:=r1.get ed
     obtain ⟨W2,E2⟩:=W.set (u := .lst (ys.eraseIdx j)) (o := .lst (ds.eraseIdx j)) ha fun E=>⟨_,zaI,(r1.mono W E).erase j⟩
     exact ⟨a,ys,i,j,w,rfl,rfl,h1,hc.1,hc.2,by rw [<- r1.length]; exact ej,hw,h _ _ E2 W2 _ (rw'.mono W E2)⟩
    ·exact h.elim
   ·exact h.elim
  ·exact h.elim
 ·exact h.elim
end
variable {x:Str} {p:Pos}
section
theorem zmm:MtM X "tuple.index" (fun x xs H Q=>∃ (a:Addr) (ns:List Int) (v:Int) (j:Nat) (h:j < ns.length),x = .ref a/\xs=[.int v]/\SqT X.K H a (ns.map V.int)/\ns[j]=v/\(∀ m (hm:m < ns.length),m < j->ns[m]≠v)/\Q (.int (j:Int)) H):=by
 intro pins s σ H x xs v us Q I rx rs h
 obtain ⟨a,ns,z,j,hj,rfl,rfl,ha,hz,hno,q⟩:=h
 cases rx
 obtain ⟨u,rfl,t,rfl⟩:=zcn rs
 obtain ⟨its,r,p,_⟩:=I.tuple ha
 have hlen:ns.length=its.length:=by rw [<- r.length,List.length_map]
 have hat:∀ m (hm:m < ns.length),∃ t',its[m]'(by omega) = .int ns[m] t':=fun m hm=>by
  obtain ⟨t',e⟩:=zmT r (i:=m) (v:=its[m]'(by omega)) (by simp)
  refine ⟨t',?_⟩
  rw [e,zoS hm]
 have f1:zdN (.int z)=true:=rfl
 have f2:(ns.map V.int).all zdN=true:=by simp [zdN]
 obtain ⟨⟨cls,dd,data,sl⟩,ho,hc,n,hd⟩:=id p
 simp only at hc hd
 subst hc hd
 refine call_meets PySem.F.slot_tuple_index ⟨_,ho,rfl⟩ PySem.F.entry_tuple_index (PySem.F.args_tuple_index_2 _ _) (zhP a its.toArray n dd sl (.int z t) (eqU (.int z)) j (by simp; omega) ?_ ?_) ⟨ho,?_,?_⟩
 ·obtain ⟨t',e⟩:=hat j hj
  simp only [List.getElem_toArray]
  rw [e,hz]
  show eqV (.int z) (.int z)=true
  simp [eqV]
 ·intro m hm hmj
  have hm2:m < ns.length:=by simp at hm; omega
  obtain ⟨t',e⟩:=hat m hm2
  simp only [List.getElem_toArray]
  rw [e]
  show eqV (.int ns[m]) (.int z)=false
  have:=hno m hm2 hmj
  simp [eqV,this]
 ·intro y hy
  exact zf7 (x := .int z) ⟨t,rfl⟩ f1 r f2 y (by simpa using hy)
 ·exact ⟨.int (j:Int),H,I.tok _,⟨_,rfl⟩,q⟩
def tBMQ (K:PySem.W.Frag) (r:V->List V->Hp->VK->Prop) (to:TE) (t:TA):TE:=fun σ H Q=>to σ H fun x H1=>(∃ p xs,x = .ref p/\TupAt K H1 p xs)/\t σ H1 fun ys H2=>r x ys H2 Q
theorem pe_bmQ {e:Expr} {to:TE} {t:TA} {id:String} (slot:Slot "tuple" name id) (hty:typeOf (.builtin id)=pure (.type "method_descriptor")) (hm:MtR X id r) (ho:PE X o to) (ha:PA X [e] t)
  (hbase:autoParam (attributeBase o name X.env (eval o X.env)=eval o X.env) AutoP.a3._auto_1)
  (hfew:autoParam (((backTo cpos (starEach [e] X.env)).all (fun x => !x.1) && (backToKw cpos (keywordEach [] X.env)).all (fun x=>x.1.isSome) && decide (([e]:List Expr).length+([]:List Keyword).length+(if ([]:List Keyword).isEmpty then 0 else 1) < 30))=true) AutoP.a3._auto_1)
  (hline:autoParam ((apos.endLine == cpos.line)=true) AutoP.a3._auto_1) (hs:autoParam (starEach [e] X.env=[(false,eval e X.env)]) AutoP.a3._auto_1) :
  PE X (.Call (.Attribute o name apos) [e] [] cpos) (tBMQ X.K r to t):=by
 intro pins s σ H Q I h
 refine wpAny_Call_method_late hbase hfew hline rfl (thn (ho pins s σ H _ I h) fun v s1 ⟨x,H1,I1,r1,⟨p,xs,ex,hp⟩,q1⟩=>?_)
 subst ex
 cases r1
 obtain ⟨ob,h1,h2,h3⟩:∃ ob,s1.heap.get? p=some ob/\ob.cls = .type "tuple" /\ ob.dict=none:=by
  rcases hp with hp | ⟨o,_,_,k1,k2,k3,_⟩
  ·obtain ⟨_,_,_,⟨ob,h1,h2,_⟩,od,h3,h4⟩:=(show ObjOk X.prog X.w H1 s1.heap p (.tup xs) from I1.hok p _ hp)
   rw [h1] at h3
   cases h3
   exact ⟨ob,h1,h2,h4⟩
  ·exact ⟨o,I1.kIn p o k1,k2,k3⟩
 refine ⟨"tuple", id,PySem.F.plainAttrs_tuple,slot,hty,⟨ob,h1,h2⟩,fun a e=>by cases e; exact ⟨ob,h1,h3⟩,?_⟩
 have hA:=ha cpos pins s1 σ H1 _ I1 q1
 rw [hs] at hA ⊢
 refine Calls.callWith_builtin rfl (Calls.evalArgs_plain ?_)
 exact thn hA fun us s2 ⟨vs,H2,I2,r2,q2⟩=>hm pins s2 σ H2 (.ref p) vs (.ref p) us Q I2 rfl r2 q2
def zei (o:D) (ds:List D) (m:Sto):Res D:=match o,ds with
 | .tup xs,[.int v]=>match zgT xs with
  | some ns=>if v∈ns then .ok (.int (ns.idxOf v)) m else .bad
  | none => .bad
 | _,_ => .bad
theorem zop:MtD K cl ex (fun x xs H Q=>∃ (a:Addr) (ns:List Int) (v:Int) (j:Nat) (h:j < ns.length),x = .ref a/\xs=[.int v]/\SqT K H a (ns.map V.int)/\ns[j]=v/\(∀ m (hm:m < ns.length),m < j->ns[m]≠v)/\Q (.int (j:Int)) H) zei:=fun α m H x xs vx vs Q W rx rxs h=>by
 unfold zei at h
 split at h
 ·split at h
  ·rename_i ns e
   obtain ⟨hc,h⟩:=PQ.if h
   rw [Rep] at rx
   obtain ⟨a,ys,rfl,h1,r1⟩:=rx
   obtain ⟨v,rfl,rv⟩:=rxs.one_of
   rw [Rep] at rv
   subst rv
   have hl:=List.idxOf_lt_length_of_mem hc
   rw [zfr e r1] at h1
   refine ⟨a,ns,_,_,hl,rfl,rfl,h1.sq,List.getElem_idxOf hl,fun k hk hlt z=>?_,PQ.ok W h _ zfa⟩
   have:=List.not_of_lt_findIdx (xs:=ns) (p:=(· == _)) (by unfold List.idxOf at hlt; exact hlt)
   simp [z] at this
  ·exact h.elim
 ·exact h.elim
theorem ziT {e:Expr} {fr:AV} (ho:QE X cl ex o fo) (ha:QA X cl ex [e] fr)
  (hbase:autoParam (attributeBase o "index" X.env (eval o X.env)=eval o X.env) AutoP.a3._auto_1)
  (hfew:autoParam (((backTo cpos (starEach [e] X.env)).all (fun x => !x.1) && (backToKw cpos (keywordEach [] X.env)).all (fun x=>x.1.isSome) && decide (([e]:List Expr).length+([]:List Keyword).length+(if ([]:List Keyword).isEmpty then 0 else 1) < 30))=true) AutoP.a3._auto_1)
  (hline:autoParam ((apos.endLine == cpos.line)=true) AutoP.a3._auto_1) (hs:autoParam (starEach [e] X.env=[(false,eval e X.env)]) AutoP.a3._auto_1) :
  QE X cl ex (.Call (.Attribute o "index" apos) [e] [] cpos) (zdr zqC zei fo fr) :=
 ⟨PE.weak (pe_bmQ PySem.F.slot_tuple_index PySem.F.type_tuple_index zmm ho.out ha.out hbase hfew hline hs) fun σ H Q hh=>ex3 hh fun α ρ m W hr h=>tD.use W hr h fun α1 m1 H1 d v E1 W1 hr1 rv q1=>by
  obtain ⟨ht,q1⟩:=PQ.if q1
  refine ⟨?_,tDA.use W1 hr1 q1 fun α2 m2 H2 ds vs E2 W2 hr2 rvs q2=>zop α2 m2 H2 d ds v vs Q W2 (rv.mono W1 E2) rvs q2⟩
  cases d with
  | tup ds=>rw [Rep] at rv; obtain ⟨a,ys,rfl,h1,_⟩:=rv; exact ⟨a,ys,rfl,h1⟩
  | _=>cases ht⟩
def tyN (d:D) (m:Sto):Option String:=match d with
 | .non=>some "NoneType"
 | .bl _=>some "bool"
 | .int _=>some "int"
 | .str _=>some "str"
 | .flt _=>some "float"
 | .tup _=>some "tuple"
 | .lst _=>some "list"
 | .ob k=>match m[k]? with
  | some (.lst _)=>some "list"
  | some (.dct _)=>some "dict"
  | _=>none
 | _=>none
def isiB (t n:String):Bool:=t == n || (t == "bool" && n == "int")
def zio (n:String) (d:D) (m:Sto):Res D:=match tyN d m with
 | some t => .ok (.bl (isiB t n)) m
 | none => .bad
def zqR:List String:=["int", "bool", "str", "tuple", "list", "dict"]
theorem zsQ {t n:String} (h:tyN d m=some t) (hn:n∈zqR):PySem.W.kitOne K (.type t) (.type n)=some (isiB t n):=by
 have ht:t∈["NoneType", "bool", "int", "str", "float", "tuple", "list", "dict"]:=by
  unfold tyN at h
  split at h <;> first | (cases h; simp; done) | (split at h <;> first | (cases h; simp; done) | cases h) | cases h
 simp only [zqR,List.mem_cons,List.not_mem_nil,or_false] at hn ht
 rcases hn with rfl | rfl | rfl | rfl | rfl | rfl <;> rcases ht with rfl | rfl | rfl | rfl | rfl | rfl | rfl | rfl <;> rfl
theorem zpl {n:String} (hn:n∈zqR):CallR X (.builtin "isinstance") (fun xs H Q=>∃ cl α m d v t,xs=[v,.ty n]/\Wd X.K cl α m H/\Rep X.K α H d v/\tyN d m=some t/\Q (.bl (isiB t n)) H):=by
 intro pins s σ H xs us Q I r h
 obtain ⟨cl,α,m,d,v,t,rfl,W,rv,ht,q⟩:=h
 obtain ⟨u,w,rfl,ru,rw'⟩:=zjW r
 cases rw'
 have kt:=zsQ (K:=X.K) ht hn
 have old:∀ {t':Value},TyOf X.K H v t'->t' = .type t->wpAny (model X.prog X.w) X.A (call (.builtin "isinstance") [u,.type n]) (EP X pins σ Q) X.xe s:=fun {t'} ty e=>by
  subst e
  exact zgB I ru ty kt fun tk=>⟨.bl _,H,I.tok _,rfl,q⟩
 unfold tyN at ht
 split at ht
 ·cases ht; rw [Rep] at rv; subst rv; exact old .non rfl
 ·cases ht; rw [Rep] at rv; subst rv; exact old (.bl _) rfl
 ·cases ht; rw [Rep] at rv; subst rv; exact old (.int _) rfl
 ·cases ht; rw [Rep] at rv; subst rv; exact old (.str _) rfl
 ·cases ht; rw [Rep] at rv; subst rv; exact old (.flt _) rfl
 ·cases ht
  rw [Rep] at rv
  obtain ⟨a,xs,rfl,h1,_⟩:=rv
  rcases h1 with h1 | ⟨o,_,_,k1,k2,_⟩
  ·exact old (.tup h1) rfl
  ·cases ru
   exact PySem.W.kia_one PySem.W.kitx_tuple I.kIn ⟨o,I.kIn a o k1,k2⟩ kt (fun z=>nomatch z) fun tk=>⟨.bl _,H,I.tok _,rfl,q⟩
 ·cases ht
  rw [Rep] at rv
  obtain ⟨a,xs,rfl,_,h1,_⟩:=rv
  rcases h1 with h1 | ⟨o,h1⟩
  ·exact old (.lst h1) rfl
  ·exact old (.frz h1) rfl
 ·rw [Rep] at rv
  obtain ⟨a,ha,rfl⟩:=rv
  split at ht
  ·cases ht; obtain ⟨xs,h1,_⟩:=W.lst ha ‹_›; exact old (.lst h1) rfl
  ·cases ht; obtain ⟨xs,h1,_⟩:=W.dct ha ‹_›; exact old (.dK h1) rfl
  ·cases ht
 ·cases ht
theorem zk6 {e:Expr} {p2:Pos} {n:String} (hn:n∈zqR) (hg:Gl X "isinstance") (hm:X.mg "isinstance" = none) (hg2:Gl X x) (hm2:X.mg x=none) (hv:bootBuiltins x=some (.type n)) (ha:QE X cl ex e fa) (hx:autoParam (x ≠ "__name__") AutoP.a1._auto_1) (hdb:autoParam ((x == ("__debug__" : Str))=false) AutoP.a1._auto_1)
  (he:autoParam (starEach [e,.Name x p2] X.env=(false,eval e X.env)::starEach [.Name x p2] X.env) AutoP.a3._auto_1) (he2:autoParam (starEach [.Name x p2] X.env=(false,eval (.Name x p2) X.env)::starEach [] X.env) AutoP.a3._auto_1) (hpl:autoParam ((backTo pos (starEach [.Name x p2] X.env)).any (·.1)=false) AutoP.a3._auto_1) :
  QE X cl ex (.Call (.Name "isinstance" p) [e,.Name x p2] [] pos) (eUn (zio n) fa) :=
 ⟨PE.weak (zf6 (zpl hn) hg hm boot_isinstance (zbO ha.out (zbO (znM (v := .ty n) hg2 hm2 hv rfl hx hdb) zeT he2) he) (by decide) (by decide) he hpl) fun σ H Q hh=>ex3 hh fun α ρ m W hr h=>tD.use W hr h fun α1 m1 H1 d v E1 W1 hr1 rv q1=>by
  unfold zio at q1
  split at q1
  ·exact ⟨cl,α1,m1,d,v,_,rfl,W1,rv,‹_›,PQ.ok W1 q1 _ zg3⟩
  ·exact q1.elim⟩
def inB (x:D) (ds:List D):Option Bool:=if deep x && (pyOkL ds && PyData.canLayAll0 (pyL ds)) then some ((pyL ds).any fun y=>PyData.eqv y (py x)) else none
def inO (x y:D) (m:Sto):Option Bool:=match y with
 | .tup ds=>inB x ds
 | .lst ds=>inB x ds
 | .ob k=>match m[k]? with
  | some (.lst ds)=>inB x ds
  | some (.dct kvs)=>match x with
   | .int i=>some (zkT kvs (.inl i)).isSome
   | .str z=>some (zkT kvs (.inr z)).isSome
   | _=>none
  | _=>none
 | .str j=>match x with
  | .str i=>some (!(Builtin.Str.occurrences j i 0 j.length 1).isEmpty)
  | _=>none
 | _=>none
def inD (x y:D) (m:Sto):Res D:=match inO x y m with
 | some b => .ok (.bl b) m
 | none => .bad
def zi4 (x y:D) (m:Sto):Res D:=match inO x y m with
 | some b => .ok (.bl (!b)) m
 | none => .bad
def rInS (K:PySem.W.Frag) (f:Bool->Bool):R2:=fun vx vy H Q=>∃ (α : List Addr) (x:D) (ds:List D) (p:Addr) (ys:List V),vy = .ref p/\(SqL K H p ys∨SqT K H p ys)/\RepL K α H ds ys/\Rep K α H x vx/\deep x=true/\pyOkL ds=true/\PyData.canLayAll0 (pyL ds)=true/\Q (.bl (f ((pyL ds).any fun y=>PyData.eqv y (py x)))) H
def rInD (f:Bool->Bool):R2:=fun x y H Q=>∃ a o,y = .ref a/\DGet H a x o/\Q (.bl (f o.isSome)) H
def rInT (f:Bool->Bool):R2:=fun x y H Q=>∃ i j,x = .str i/\y = .str j/\Q (.bl (f (!(Builtin.Str.occurrences j i 0 j.length 1).isEmpty))) H
def zrU (K:PySem.W.Frag) (f:Bool->Bool):R2:=fun x y H Q=>rInS K f x y H Q∨rInD f x y H Q∨rInT f x y H Q
theorem op_inS (hu:X.A.units+65 < cLine):OpR X (compareOp .In) (rInS X.K id):=by
 intro pins s σ H vx vy v u Q I rx ry h
 obtain ⟨α,x,ds,p,ys,rfl,sq,r1,r2,d1,ok,cL,q⟩:=h
 cases ry
 rw [deep,Bool.and_eq_true] at d1
 obtain ⟨bs,h2⟩:=zco I d1.1 r2 rx
 have c2:=SeqAt.canLay_of_shaped d1.2
 have rm:=PyProof.Rows.room_in_shaped (A:=X.A) (xs:=pyL ds) d1.2 hu
 rcases sq with sq | sq
 ·obtain ⟨its,rv,⟨o,n,e1,e2,_,e3⟩,_⟩:=I.list sq
  obtain ⟨as,h1⟩:=rep_readsL I ok r1 rv
  exact SeqAt.in_list_reads (Reads.list e1 e2 e3 (by simpa using h1)) h2 cL c2 rm ⟨.bl _,H,I,rfl,q⟩
 ·obtain ⟨its,rv,⟨o,e1,e2,n,e3⟩,_⟩:=I.tuple sq
  obtain ⟨as,h1⟩:=rep_readsL I ok r1 rv
  exact SeqAt.in_tuple_reads (Reads.tuple e1 e2 e3 (by simpa using h1)) h2 cL c2 rm ⟨.bl _,H,I,rfl,q⟩
theorem znP (hu:X.A.units+65 < cLine):OpR X (compareOp .NotIn) (rInS X.K not):=by
 intro pins s σ H vx vy v u Q I rx ry h
 obtain ⟨α,x,ds,p,ys,rfl,sq,r1,r2,d1,ok,cL,q⟩:=h
 cases ry
 rw [deep,Bool.and_eq_true] at d1
 obtain ⟨bs,h2⟩:=zco I d1.1 r2 rx
 have c2:=SeqAt.canLay_of_shaped d1.2
 have rm:=PyProof.Rows.room_in_shaped (A:=X.A) (xs:=pyL ds) d1.2 hu
 rcases sq with sq | sq
 ·obtain ⟨its,rv,⟨o,n,e1,e2,_,e3⟩,_⟩:=I.list sq
  obtain ⟨as,h1⟩:=rep_readsL I ok r1 rv
  exact SeqAt.notIn_list_reads (Reads.list e1 e2 e3 (by simpa using h1)) h2 cL c2 rm ⟨.bl _,H,I,rfl,q⟩
 ·obtain ⟨its,rv,⟨o,e1,e2,n,e3⟩,_⟩:=I.tuple sq
  obtain ⟨as,h1⟩:=rep_readsL I ok r1 rv
  exact SeqAt.notIn_tuple_reads (Reads.tuple e1 e2 e3 (by simpa using h1)) h2 cL c2 rm ⟨.bl _,H,I,rfl,q⟩
theorem op_inD (hu:X.A.units+1 < cLine):OpR X (compareOp .In) (rInD id):=by
 intro pins s σ H x y v u Q I rx ry h
 obtain ⟨a,o,rfl,g,q⟩:=h
 cases ry
 exact d_in hu I g rx fun s' I'=>⟨.bl _,H,I',rfl,q⟩
theorem znQ (hu:X.A.units+1 < cLine):OpR X (compareOp .NotIn) (rInD not):=by
 intro pins s σ H x y v u Q I rx ry h
 obtain ⟨a,o,rfl,g,q⟩:=h
 cases ry
 exact zs9 hu I g rx fun s' I'=>⟨.bl _,H,I',rfl,q⟩
theorem hu65 {A:Around} {k:Nat} (hr:Room k A):A.units+65 < cLine:=by have:=hr.un; omega
theorem op_inA {k:Nat} (hr:Room k X.A):OpR X (compareOp .In) (zrU X.K id):=OpR.or (op_inS (hu65 hr)) (OpR.or (op_inD (zoO hr)) znV)
theorem znR {k:Nat} (hr:Room k X.A):OpR X (compareOp .NotIn) (zrU X.K not):=OpR.or (znP (hu65 hr)) (OpR.or (znQ (zoO hr)) ziY)
theorem zoN {x:D} (W:Wd K cl α m H) (e:inO x y m=some b) (rx:Rep K α H x vx) (ry:Rep K α H y vy) (q:Q (.bl (f b)) H):zrU K f vx vy H Q:=by
 have seq:∀ {ds:List D} {p:Addr} {ys:List V},inB x ds=some b->vy = .ref p->(SqL K H p ys∨SqT K H p ys)->RepL K α H ds ys->zrU K f vx vy H Q:=fun {ds p ys} e1 e2 e3 e4=>by
  unfold inB at e1
  split at e1
  ·rename_i hc
   rw [Bool.and_eq_true,Bool.and_eq_true] at hc
   exact .inl ⟨α,x,ds,p,ys,e2,e3,e4,rx,hc.1,hc.2.1,hc.2.2,by rw [Option.some.inj e1]; exact q⟩
  ·cases e1
 unfold inO at e
 split at e
 ·rw [Rep] at ry; obtain ⟨a,ys,rfl,h1,r1⟩:=ry; exact seq e rfl (.inr h1.sq) r1
 ·rw [Rep] at ry; obtain ⟨a,ys,rfl,_,h1,r1⟩:=ry; exact seq e rfl (.inl (.inl h1)) r1
 ·rw [Rep] at ry
  obtain ⟨a,ha,rfl⟩:=ry
  split at e
  ·obtain ⟨ys,h1,r1⟩:=W.lst ha ‹_›; exact seq e rfl (.inl (SqL.of h1)) r1
  ·obtain ⟨ys,h1,r1⟩:=W.dct ha ‹_›
   have key:∀ {k:L2.Key},vx=kV k->some (zkT _ k).isSome=some b->zrU K f vx (.ref a) H Q:=fun {k} e1 e2=>by
    refine .inr (.inl ⟨a,zjX ys k,rfl,by rw [e1]; exact DGet.k h1,?_⟩)
    have:(zjX ys k).isSome=b:=by
     rw [<- Option.some.inj e2]
     cases h:zkT _ k with
     | none=>rw [(RepKV.val r1).2 h]; rfl
     | some d=>obtain ⟨v,hv,_⟩:=(RepKV.val r1).1 d h; rw [hv]; rfl
    rw [this]
    exact q
   split at e
   ·rw [Rep] at rx; exact key (k := .inl _) rx e
   ·rw [Rep] at rx; exact key (k := .inr _) rx e
   ·cases e
  ·cases e
 ·split at e
  ·rw [Rep] at rx; rw [Rep] at ry; exact .inr (.inr ⟨_,_,rx,ry,by rw [Option.some.inj e]; exact q⟩)
  ·cases e
 ·cases e
theorem od_in:OpD K cl ex (zrU K id) inD:=fun α m H x y vx vy Q W rx ry h=>by
 unfold inD at h
 split at h
 ·exact zoN (f:=id) W ‹_› rx ry (PQ.ok W h _ zg3)
 ·exact h.elim
theorem zqn:OpD K cl ex (zrU K not) zi4:=fun α m H x y vx vy Q W rx ry h=>by
 unfold zi4 at h
 split at h
 ·exact zoN (f:=not) W ‹_› rx ry (PQ.ok W h _ zg3)
 ·exact h.elim
end
variable {ks:List (Option Expr)}
section
variable {i e value:Expr} {fi fv:EV} {fr:AV} {pos':Pos}
def zoC (d:D):Option L2.Key:=match d with
 | .int i=>some (.inl i)
 | .str z=>some (.inr z)
 | _=>none
def putS (x y v:D) (m:Sto):Res Unit:=match x with
 | .ob k=>match m[k]?,zoC y with
  | some (.dct kvs),some q=>if kvs.length < sizeLine then .ok () (m.set k (.dct (zny kvs q v))) else .bad
  | some (.lst ds),some (.inl i)=>match ixN ds.length i with
   | some j => .ok () (m.set k (.lst (ds.set j v)))
   | none => .bad
  | _,_ => .bad
 | _ => .bad
theorem zoB {k:L2.Key} (h:zoC d=some k) (r:Rep K α H d v):v=kV k:=by
 unfold zoC at h
 split at h
 ·cases h; rw [Rep] at r; exact r
 ·cases h; rw [Rep] at r; exact r
 ·cases h
def ziW (x y v:D) (m:Sto):Res Unit:=match x with
 | .ob k=>match m[k]? with
  | some (.dct kvs)=>match zoC y with
   | some q=>if kvs.length < sizeLine then .ok () (m.set k (.dct (zny kvs q v))) else .bad
   | none => .bad
  | _ => .bad
 | _ => .bad
def zpW (fo fi fv:EV):SV:=fun ρ m=>(fv ρ m).bind fun v m1=>(fo ρ m1).bind fun x m2=>(fi ρ m2).bind fun y m3=>(ziW x y v m3).bind fun _ m4 => .ok (.nx ρ) m4
theorem zrX (hu:X.A.units+1 < cLine) (ho:QE X cl ex o fo) (hi:QE X cl ex i fi) (hv:QE X cl ex value fv) (hs:swapsWith value (some (.Subscript o i pos')) pos.line X.env=pure false) :
  QS X cl ex (.Assign [.Subscript o i pos'] value pos) (zpW fo fi fv) :=
 ⟨PS.weak (zse hu ho.out hi.out hv.out hs) fun D σ H hh=>ex3 hh fun α ρ m W hr h=>tD.use W hr h fun α1 m1 H1 dv v E1 W1 hr1 rv q1=>tD.use W1 hr1 q1 fun α2 m2 H2 dx x E2 W2 hr2 rx q2=>tD.use W2 hr2 q2 fun α3 m3 H3 dy y E3 W3 hr3 ry q3=>by
  have rv:=rv.mono W1 (E2.trans E3)
  have rx:=rx.mono W2 E3
  unfold ziW at q3
  split at q3
  ·rw [Rep] at rx
   obtain ⟨a,ha,rfl⟩:=rx
   split at q3
   ·rename_i k _ kvs e
    split at q3
    ·rename_i q ek
     split at q3
     ·rename_i hc
      obtain ⟨ys,h1,r1⟩:=W3.dct ha e
      obtain ⟨W4,E4⟩:=W3.set (u := .dK (zgm ys q v)) (o := .dct (zny kvs q dv)) ha fun E=>⟨_,zaI,RepKV.put (rv.mono W3 E) (r1.mono W3 E)⟩
      refine ⟨a,_,rfl,by rw [zoB ek ry]; exact DPut.k h1 (by rw [<- r1.length]; exact hc),?_⟩
      exact (show PQ X.K cl ex (.ok (.nx ρ) (m3.set k (.dct (zny kvs q dv)))) α3 H3 fun fl α' _ H'=>zdO X.K D fl α' H' from q3) _ _ E4 W4 _ (hr3.mono W3 E4)
     ·exact q3.elim
    ·exact q3.elim
   ·exact q3.elim
  ·exact q3.elim⟩
def zgp:List (Str × EV)->En->Sto->Res (List (L2.Key × D))
 | [],_,m => .ok [] m
 | (k,f)::r,ρ,m=>(f ρ m).bind fun d m1=>(zgp r ρ m1).bind fun ps m2 => .ok ((.inr k,d)::ps) m2
def zoo (more:List (L2.Key × D)):List (L2.Key × D):=more.foldl (fun acc kv=>zny acc kv.1 kv.2) []
def zhe (fs:List (Str × EV)):EV:=fun ρ m=>(zgp fs ρ m).bind fun ps m1 => .ok (.ob m1.length) (m1++[.dct (zoo ps)])
inductive QPs (X:Cx) (cl:Str->Addr) (ex:XD):List (Option Expr)->List Expr->List (Str × EV)->Prop where
 | nil:QPs X cl ex [] [] []
 | cons {k:Str} {j} {pk:Pos} {v:Expr} {f:EV} {ks:List (Option Expr)} {vs:List Expr} {fs:List (Str × EV)}:QE X cl ex v f->QPs X cl ex ks vs fs->QPs X cl ex (some (.Constant (.str k) j pk)::ks) (v::vs) ((k,f)::fs)
theorem QPs.pps {vs:List Expr} {fs:List (Str × EV)} (h:QPs X cl ex ks vs fs):PPs X pos ks vs (fs.map fun q=>(tC (.str q.1),tD X.K cl ex q.2)):=by
 induction h with
 | nil=>exact zsf
 | cons hv _ ih=>exact zp8 zq2 hv.out ih
theorem QPs.keys {vs:List Expr} {fs:List (Str × EV)} (h:QPs X cl ex ks vs fs):ks.all (·.isSome)=true/\ks.length=vs.length/\ks.length=fs.length:=by
 induction h with
 | nil=>exact ⟨rfl,rfl,rfl⟩
 | cons _ _ ih=>exact ⟨by rw [List.all_cons,ih.1]; rfl,by rw [List.length_cons,List.length_cons,ih.2.1],by rw [List.length_cons,List.length_cons,ih.2.2]⟩
theorem ziF {K:PySem.W.Frag} {σ : L2.St} {ρ : En} {R:RD (List (L2.Key × D))}:∀ (fs:List (Str × EV)) {α : List Addr} {m:Sto} {H:Hp} {Q:List (V × V)->Hp->Prop},Wd K cl α m H->RepE K α H ρ σ -> PQ K cl ex (zgp fs ρ m) α H R →
  (∀ α1 m1 H1 ps vs,Ext α H α1 H1->Wd K cl α1 m1 H1->RepE K α1 H1 ρ σ -> ps.length=fs.length->RepKV K α1 H1 ps vs->R ps α1 m1 H1->Q (vs.map fun kv=>(kV kv.1,kv.2)) H1)->zkW (fs.map fun q=>(tC (.str q.1),tD K cl ex q.2)) σ H Q
 | [],α,m,H,Q,W,hr,h,hQ=>hQ α m H [] [] (Ext.refl W) W hr rfl rfl (PQ.ok W h)
 | (k,f)::r,α,m,H,Q,W,hr,h,hQ=>by
  refine tD.use W hr h fun α1 m1 H1 d v E1 W1 hr1 rv q1=>?_
  refine ziF (R:=fun ps α2 m2 H2=>R ((.inr k,d)::ps) α2 m2 H2) r W1 hr1 (PQ.mono (Ext.refl W1) q1.bind fun ps α2 m2 H2 E2 W2 q2=>PQ.ok W2 q2) fun α2 m2 H2 ps vs E2 W2 hr2 hl rps q2=>?_
  exact hQ α2 m2 H2 ((.inr k,d)::ps) ((.inr k,v)::vs) (E1.trans E2) W2 hr2 (by rw [List.length_cons,List.length_cons,hl]) ⟨v,vs,rfl,rv.mono W1 E2,rps⟩ q2
theorem ziP {K:PySem.W.Frag} {α : List Addr} {H:Hp}:∀ (ps:List (L2.Key × D)) {vs:List (L2.Key × V)} {qs:List (L2.Key × D)} {us:List (L2.Key × V)},RepKV K α H ps vs->RepKV K α H qs us->RepKV K α H (ps.foldl (fun acc kv=>zny acc kv.1 kv.2) qs) (zdE us vs)
 | [],_,_,_,h,h'=>by
  cases (show _=[] from h)
  exact h'
 | p::r,_,_,_,⟨v,r',e,h1,h2⟩,h'=>by
  subst e
  exact (show RepKV K α H _ (zdE (zgm _ p.1 v) r') from ziP r h2 (RepKV.put h1 h'))
theorem zr4 {vs:List Expr} {fs:List (Str × EV)} (h:QPs X cl ex ks vs fs) (h0:ks≠[]) (h15:ks.length<=15):QE X cl ex (.Dict ks vs pos) (zhe fs) :=
 ⟨PE.weak (zsr h.pps h.keys.1 h.keys.2.1 h0 h15) fun σ H Q hh=>ex3 hh fun α ρ m W hr q p hp=>by
  have s0:=Same.new (o := .dK []) hp
  have W0:=W.same s0
  have E0:=Ext.of_same W s0
  refine ziF (R:=fun ps α1 m1 H1=>PQ X.K cl ex (.ok (.ob m1.length) (m1++[.dct (zoo ps)])) α H fun d α' _ H'=>∀ v,Rep X.K α' H' d v->Q v H') fs W0 (hr.mono W E0) ?_ fun α1 m1 H1 ps us E1 W1 hr1 hl rps q1=>?_
  ·cases hf:zgp fs ρ m with
   | ok ps m1=>rw [show zhe fs ρ m=(zgp fs ρ m).bind _ from rfl,hf] at q; exact fun _ _ _ _=>q
   | exc c m1=>rw [show zhe fs ρ m=(zgp fs ρ m).bind _ from rfl,hf] at q; exact fun α2 H2 E2 W2=>q α2 H2 (E0.trans E2) W2
   | bad=>rw [show zhe fs ρ m=(zgp fs ρ m).bind _ from rfl,hf] at q; exact q
  have pn:p ∉ α := W.nin hp
  have pk:H1 p=some (.dK []):=E1.keep p _ zaI pn
  have E01:Ext α H α1 H1:=E0.trans E1
  have pn1:p ∉ α1:=fun z=>by
   obtain ⟨β,rfl,hb⟩:=E1.pre
   rcases List.mem_append.mp z with z | z
   ·exact pn z
   ·have:=hb p z
    rw [zaI] at this
    cases this
  refine ⟨pk,us,rfl,by rw [<- rps.length,hl,<- h.keys.2.2]; exact h15,?_⟩
  have keep:∀ a o,H1 a=some o->a≠p->upd H1 p (.dK (zdE [] us)) a=some o:=fun a o e n=>by rw [zav n]; exact e
  have kp:Kp α1 H1 (α1++[p]) (upd H1 p (.dK (zdE [] us))):=by
   refine ⟨⟨[p],rfl⟩,(fun a xs e=>keep a _ e fun z=>by rw [z,pk] at e; cases e),(fun a xs n e=>?_),(fun a xs e=>keep a _ e fun z=>by rw [z,pk] at e; cases e),fun a xs e=>keep a _ e fun z=>by rw [z,pk] at e; cases e⟩
   have hap:a≠p:=fun z=>by
    rcases e with e | ⟨_,e⟩ <;> rw [z,pk] at e <;> cases e
   refine ⟨fun z=>?_,?_⟩
   ·rcases List.mem_append.mp z with z | z
    ·exact n z
    ·exact hap (List.mem_singleton.mp z)
   ·rcases e with e | ⟨o,e⟩
    ·exact .inl (keep a _ e hap)
    ·exact .inr ⟨o,keep a _ e hap⟩
  have W2:=W1.join (u := .dK (zdE [] us)) (o := .dct (zoo ps)) pn1 kp ⟨_,zaI,ziP ps (rps.kp kp) (show RepKV X.K _ _ [] [] from rfl)⟩
  have E2:Ext α H (α1++[p]) (upd H1 p (.dK (zdE [] us))):=by
   obtain ⟨β,hβ,hb⟩:=E01.pre
   refine ⟨⟨β ++ [p],by rw [hβ,List.append_assoc],fun b hbm=>?_⟩,fun a o e n=>?_,fun a ha=>?_,fun a o u e=>keep a _ (E01.frzs a o u e) (zaq e hp)⟩
   ·rcases List.mem_append.mp hbm with z | z
    ·exact hb b z
    ·rw [List.mem_singleton.mp z]; exact hp
   ·exact keep a o (E01.keep a o e n) (zaq e hp)
   ·rw [zav (fun z=>pn (by rw [<- z]; exact ha))]; exact E01.there a ha
  refine q1 _ _ E2 W2 _ ?_
  rw [Rep]
  refine ⟨p,?_,rfl⟩
  rw [<- W1.len,List.getElem?_append_right (Nat.le_refl _)]
  simp⟩
def zp1 (ds:List D) (m:Sto):Res (List D):=match ds with
 | [.int n]=>if 0<=n/\n < 2 ^ 62 then .ok ((List.range n.toNat).map fun i:Nat => .int (n - 1 - i)) m else .bad
 | _ => .bad
theorem zno:∃ f:List D->Sto->Res (List D),f=zp1:=⟨_,rfl⟩
def revR:List D->Sto->Res (List D):=Classical.choose zno
theorem znp:revR=zp1:=Classical.choose_spec zno
theorem zr0 {a:Expr} {tg:Expr} {p2 pos2:Pos} (hg:Gl X "reversed") (hm:X.mg "reversed" = none) (hg2:Gl X "range") (hm2:X.mg "range" = none) (ha:QA X cl ex [a] fr) (hs2:autoParam (starEach [a] X.env=(false,eval a X.env)::starEach [] X.env) AutoP.a3._auto_1)
  (hs:autoParam (starEach [.Call (.Name "range" p2) [a] [] pos2] X.env=[(false,eval (.Call (.Name "range" p2) [a] [] pos2) X.env)]) AutoP.a3._auto_1):QI X cl ex tg (.Call (.Name "reversed" p) [.Call (.Name "range" p2) [a] [] pos2] [] pos) (ziB revR fr) :=
 ⟨PI.weak (pi_rev hg hm (ziX zqO hg2 hm2 boot_range ha.out (by decide) (by decide) hs2 rfl) hs) fun σ H R hh=>ex3 hh fun α ρ m W hr q=>tDA.use W hr q fun α1 m1 H1 d v E1 W1 hr1 rv q1=>by
  rw [znp] at q1; unfold zp1 at q1
  split at q1
  ·obtain ⟨h1,h2⟩:=PQ.if q1
   obtain ⟨w,rfl,rw'⟩:=rv.one_of
   rw [Rep] at rw'
   subst rw'
   refine ⟨_,rfl,h1.1,h1.2,fun pr hpr=>⟨pr,_,rfl,zaI,h1.1,h1.2,PQ.okS W1 (Same.new hpr) h2 _ (itd_f fun i α H=>by rw [Rep])⟩⟩
  ·exact q1.elim⟩
end
structure FnX (P:Program) (w:World) (K:PySem.W.Frag) (mg:Str->Option Value) (base:Heap) (cl:Str->Addr) (x:Str) (k n:Nat) (g:List D->Sto->Res D):Prop where
 ex:∃ (f:Addr) (fd:FuncData) (ps:List Str),mg x=some (.ref f)/\PySem.W.keepIn K (.ref f)=true/\Binds K fd ps []/\FnOk P w K mg base CX0 k f fd ps (spD K cl X0 n g)
variable {n:Nat} {g:List D->Sto->Res D}
theorem qe_fn {e:Expr} {fr:AV} {k:Nat} (h:FnX X.prog X.w X.K X.mg X.base cl x k n g) (hn:n=(e::es).length) (hr:Room k X.A) (hg:Gl X x)
  (ha:QA X cl X0 (e::es) fr) (hlen:∀ ρ m ds m1,fr ρ m = .ok ds m1->ds.length=(e::es).length) (hdb:autoParam ((x == ("__debug__" : Str))=false) AutoP.a1._auto_1) (he:autoParam (starEach (e::es) X.env=(false,eval e X.env)::starEach es X.env) AutoP.a3._auto_1) (hpl:autoParam ((backTo pos (starEach es X.env)).any (·.1)=false) AutoP.a3._auto_1) :
  QE X cl X0 (.Call (.Name x p) (e::es) [] pos) (eFn g fr):=by
 obtain ⟨f,fd,ps,h1,h2,h3,h4⟩:=h.ex
 exact zr5 h4 hn hr hg h1 h2 h3 ha hlen hdb he hpl
variable {P:Program} {mg:Str->Option Value} {base:Heap} {qual:Str} {st:Stmt} {fd:FuncData} {N ps:List Str} {body:SV}
theorem FnX.mk' {w:World} {f:Addr} {k:Nat} (F:Fun K x qual st f fd) (b:Binds K fd ps []) (m:mg x=some (.ref f)) (S:FnScope N ps (zah st)) (hn:n=ps.length)
  (h:∀ (cdv:Value) (A:Around) (outer:List PySem.Env) (s:Shared) (H:Hp) (E:XK),Room k (A.deeper (envOfC qual (zah st) s.heap.objs.size f cdv))->QSs (zkF CX0 P w K mg base N qual (zah st) f cdv A outer s H E).nox cl X0 (zbe st) body):FnX P w K mg base cl x (k+1) n (zaY N.length body) :=
 ⟨f,fd,ps,m,F.kp,b,F.ok S (fun vs H Q E h=>by rw [<- hn]; exact h.1) fun cdv A outer s H vs Q E hr q=>⟨_,(h cdv A outer s H E hr).out,fn_d q⟩⟩
mutual
def clsd (n:Nat):D->Bool
 | .ob k=>decide (k < n)
 | .tup ds=>clsdL n ds
 | .lst ds=>clsdL n ds
 | .scr ds=>clsdL n ds
 | .exn _ ds=>clsdL n ds
 | _=>true
def clsdL (n:Nat):List D->Bool
 | []=>true
 | d::r=>clsd n d && clsdL n r
end
variable {β : List Addr} {m1:Sto}
section
mutual
theorem Rep.clsd:∀ {d:D} {v:V},Rep K α H d v->MD.clsd α.length d=true
 | .non,_,_=>by simp [MD.clsd]
 | .bl _,_,_=>by simp [MD.clsd]
 | .int _,_,_=>by simp [MD.clsd]
 | .str _,_,_=>by simp [MD.clsd]
 | .flt _,_,_=>by simp [MD.clsd]
 | .byt _,_,_=>by simp [MD.clsd]
 | .ob k,_,h=>by
  rw [Rep] at h
  obtain ⟨a,h1,_⟩:=h
  rw [MD.clsd]
  exact decide_eq_true (List.getElem?_eq_some_iff.mp h1).1
 | .tup ds,_,h=>by
  rw [Rep] at h
  obtain ⟨_,_,_,_,h2⟩:=h
  rw [MD.clsd]
  exact RepL.clsd h2
 | .lst ds,_,h=>by
  rw [Rep] at h
  obtain ⟨_,_,_,_,_,h2⟩:=h
  rw [MD.clsd]
  exact RepL.clsd h2
 | .scr ds,_,h=>by
  rw [Rep] at h
  obtain ⟨_,_,_,_,h2⟩:=h
  rw [MD.clsd]
  exact RepL.clsd h2
 | .exn _ ds,_,h=>by
  rw [Rep] at h
  obtain ⟨_,_,_,_,_,_,_,_,h2⟩:=h
  rw [MD.clsd]
  exact RepL.clsd h2
theorem RepL.clsd:∀ {ds:List D} {vs:List V},RepL K α H ds vs->clsdL α.length ds=true
 | [],_,_=>by simp [clsdL]
 | _::_,_,h=>by
  rw [RepL] at h
  obtain ⟨_,_,_,h1,h2⟩:=h
  rw [clsdL,Bool.and_eq_true]
  exact ⟨Rep.clsd h1,RepL.clsd h2⟩
end
mutual
theorem Rep.less:∀ {d:D} {v:V},MD.clsd α.length d=true->Rep K (α ++ β) H d v->Rep K α H d v
 | .non,_,_,h=>by simpa [Rep] using h
 | .bl _,_,_,h=>by simpa [Rep] using h
 | .int _,_,_,h=>by simpa [Rep] using h
 | .str _,_,_,h=>by simpa [Rep] using h
 | .flt _,_,_,h=>by simpa [Rep] using h
 | .byt _,_,_,h=>by simpa [Rep] using h
 | .ob k,_,c,h=>by
  rw [Rep] at h ⊢
  obtain ⟨a,h1,h2⟩:=h
  rw [MD.clsd] at c
  rw [List.getElem?_append_left (of_decide_eq_true c)] at h1
  exact ⟨a,h1,h2⟩
 | .tup ds,_,c,h=>by
  rw [Rep] at h ⊢
  obtain ⟨a,xs,e,h1,h2⟩:=h
  rw [MD.clsd] at c
  exact ⟨a,xs,e,h1,RepL.less c h2⟩
 | .lst ds,_,c,h=>by
  rw [Rep] at h ⊢
  obtain ⟨a,xs,e,n,h1,h2⟩:=h
  rw [MD.clsd] at c
  exact ⟨a,xs,e,fun z=>n (List.mem_append_left _ z),h1,RepL.less c h2⟩
 | .scr ds,_,c,h=>by
  rw [Rep] at h ⊢
  obtain ⟨a,xs,e,h1,h2⟩:=h
  rw [MD.clsd] at c
  refine ⟨a,xs,e,?_,RepL.less c h2⟩
  rcases h1 with h1 | h1
  ·exact .inl ⟨fun z=>h1.1 (List.mem_append_left _ z),h1.2⟩
  ·exact .inr h1
 | .exn _ ds,_,c,h=>by
  rw [Rep] at h ⊢
  obtain ⟨a,C,dd,xs,e,n,h1,h2,h3⟩:=h
  rw [MD.clsd] at c
  exact ⟨a,C,dd,xs,e,n,h1,h2,RepL.less c h3⟩
theorem RepL.less:∀ {ds:List D} {vs:List V},clsdL α.length ds=true->RepL K (α ++ β) H ds vs->RepL K α H ds vs
 | [],_,_,h=>by rw [RepL] at h ⊢; exact h
 | _::_,_,c,h=>by
  rw [RepL] at h ⊢
  obtain ⟨v,r,e,h1,h2⟩:=h
  rw [clsdL,Bool.and_eq_true] at c
  exact ⟨v,r,e,Rep.less c.1 h1,RepL.less c.2 h2⟩
end
theorem RepKV.less {H0:Hp}:∀ {ds:List (L2.Key × D)} {vs us:List (L2.Key × V)},RepKV K α H0 ds us->RepKV K (α ++ β) H ds vs->RepKV K α H ds vs
 | [],_,_,_,h=>h
 | _::_,_,_,⟨_,_,_,c1,c2⟩,⟨v,r,e,h1,h2⟩=>⟨v,r,e,h1.less c1.clsd,RepKV.less c2 h2⟩
theorem RepF.less {H0:Hp}:∀ {ds:List (Str × D)} {vs us:List (Str × V)},RepF K α H0 ds us->RepF K (α ++ β) H ds vs->RepF K α H ds vs
 | [],_,_,_,h=>h
 | _::_,_,_,⟨_,_,_,c1,c2⟩,⟨v,r,e,h1,h2⟩=>⟨v,r,e,h1.less c1.clsd,RepF.less c2 h2⟩
theorem Wd.less {H0:Hp} (W0:Wd K cl α m H0) (W:Wd K cl (α ++ β) m1 H) (e:m1.take m.length=m):Wd K cl α m H:=by
 refine ⟨W0.len,(List.nodup_append.mp W.nd).1,fun k a o h1 h2=>?_⟩
 have hk:=(List.getElem?_eq_some_iff.mp h1).1
 have hm:k < m.length:=(List.getElem?_eq_some_iff.mp h2).1
 have h3:m1[k]?=some o:=by
  rw [<- e,List.getElem?_take_of_lt hm] at h2
  exact h2
 have q:=W.at' k a o (by rw [List.getElem?_append_left hk]; exact h1) h3
 have q0:=W0.at' k a o h1 h2
 cases o with
 | lst ds=>obtain ⟨xs,a1,a2⟩:=q; obtain ⟨_,_,b2⟩:=q0; exact ⟨xs,a1,a2.less b2.clsd⟩
 | dct ds=>obtain ⟨xs,a1,a2⟩:=q; obtain ⟨_,_,b2⟩:=q0; exact ⟨xs,a1,RepKV.less b2 a2⟩
 | ins c ds=>obtain ⟨dx,xs,a1,a2⟩:=q; obtain ⟨_,_,_,b2⟩:=q0; exact ⟨dx,xs,a1,RepF.less b2 a2⟩
 | hid=>exact q
end
def frz (m:Sto) (n:Nat) (d:D):D:=match d with
 | .ob k=>if n<=k then match m[k]? with
  | some (.lst xs) => .lst xs
  | _ => .ob k else .ob k
 | d=>d
open Classical in
def locF (g:List D->Sto->Res D):List D->Sto->Res D:=fun ds m=>(g ds m).bind fun d m1=>if m1.take m.length=m/\clsd m.length (frz m1 m.length d)=true then .ok (frz m1 m.length d) m else .bad
theorem zoW (m:Sto) (n:Nat) (d:D):frz m n d=d∨∃ k xs,d = .ob k/\n<=k/\m[k]?=some (.lst xs)/\frz m n d = .lst xs:=by
 cases d with
 | ob k =>
  by_cases hk:n<=k
  ·cases h:m[k]? with
   | none=>left; simp [frz,h]
   | some o =>
    cases o with
    | lst xs=>right; exact ⟨k,xs,rfl,hk,h,by simp [frz,hk,h]⟩
    | dct _=>left; simp [frz,h]
    | ins _ _=>left; simp [frz,h]
    | hid=>left; simp [frz,h]
  ·left; simp [frz,hk]
 | _=>left; rfl
theorem zrS (W:Wd K cl (α ++ β) m1 H) (e:α.length=m.length) (c:clsd m.length (frz m1 m.length d)=true) (r:Rep K (α ++ β) H d v):Rep K α H (frz m1 m.length d) v:=by
 rw [<- e] at c ⊢
 rcases zoW m1 α.length d with h | ⟨k,xs,rfl,hk,hx,h⟩
 ·rw [h] at c ⊢
  exact Rep.less c r
 ·rw [h] at c ⊢
  rw [Rep] at r
  obtain ⟨a,h1,rfl⟩:=r
  obtain ⟨ys,h2,r2⟩:=W.lst h1 hx
  rw [clsd] at c
  rw [Rep]
  refine ⟨a,ys,rfl,fun z=>?_,.inl h2,r2.less c⟩
  obtain ⟨j,hj,hja⟩:=List.mem_iff_getElem.mp z
  obtain ⟨hk2,hka⟩:=List.getElem?_eq_some_iff.mp h1
  have:j=k:=(List.getElem_inj (i:=j) (j:=k) (h₀ := by rw [List.length_append]; omega) (h₁ := hk2) W.nd).mp (by rw [List.getElem_append_left hj,hja,hka])
  omega
open Classical in
theorem FnX.loc {w:World} {k:Nat} (h:FnX P w K mg base cl x k n g):FnX P w K mg base cl x k n (locF g):=by
 obtain ⟨f,fd,ps,h1,h2,h3,h4⟩:=h.ex
 refine ⟨f,fd,ps,h1,h2,h3,h4.imp fun vs H Q E ⟨hn,α,m,ds,W,r,q⟩=>⟨hn,α,m,ds,W,r,?_⟩⟩
 unfold locF at q
 cases hg:g ds m with
 | bad=>rw [hg] at q; exact q.elim
 | exc c m1=>rw [hg] at q; exact q
 | ok d m1 =>
  rw [hg] at q
  have q':PQ K cl X0 (if m1.take m.length=m/\clsd m.length (frz m1 m.length d)=true then .ok (frz m1 m.length d) m else .bad) α H fun d α' _ H'=>∀ v,Rep K α' H' d v->Q v H':=q
  obtain ⟨⟨c1,c2⟩,q2⟩:=PQ.if q'
  intro α1 H1 E1 W1 v rv
  obtain ⟨β,rfl,hb⟩:=E1.pre
  have E2:Ext α H α H1:=⟨⟨[],by simp,fun _ h=>nomatch h⟩,E1.keep,E1.there,E1.frzs⟩
  exact q2 α H1 E2 (W.less W1 c1) v (zrS W1 W.len c2 rv)
theorem fnO {w:World} {f:Addr} {k:Nat} (F:Fun K x qual st f fd) (S:FnScope N ps (zah st)) (hn:n=ps.length)
  (h:∀ (cdv:Value) (A:Around) (outer:List PySem.Env) (s:Shared) (H:Hp) (E:XK),Room k (A.deeper (envOfC qual (zah st) s.heap.objs.size f cdv))->QSs (zkF CX0 P w K mg base N qual (zah st) f cdv A outer s H E).nox cl X0 (zbe st) body):FnOk P w K mg base CX0 (k+1) f fd ps (spD K cl X0 n (zaY N.length body)) :=
 F.ok S (fun vs H Q E h=>by rw [<- hn]; exact h.1) fun cdv A outer s H vs Q E hr q=>⟨_,(h cdv A outer s H E hr).out,fn_d q⟩
def spLaw (K:PySem.W.Frag):Sp:=fun vs H Q _=>∃ (a:Addr) (ns:List Int),vs=[.ref a]/\SqL K H a (ns.map V.int)/\ns.length<=63/\∀ H',Q (.bl true) H'
theorem ziQ {K:PySem.W.Frag} {α : List Addr} {H:Hp}:∀ ns:List Int,RepL K α H (ns.map D.int) (ns.map V.int)
 | []=>by simp [RepL]
 | a::r=>by
  rw [List.map_cons,List.map_cons,RepL]
  exact ⟨_,_,rfl,by rw [Rep],ziQ r⟩
theorem law_sp (h:∀ ns:List Int,ns.length<=63->∃ a m,g [.scr (ns.map D.int)] [] = .ok a m/\a = .bl true):∀ vs H Q E,spLaw K vs H Q E->spD K cl X0 1 g vs H Q E:=by
 rintro vs H Q E ⟨a,ns,rfl,hS,hlen,q⟩
 obtain ⟨_,m',e,rfl⟩:=h ns hlen
 refine ⟨rfl,[],[],[.scr (ns.map D.int)],⟨rfl,List.nodup_nil,fun k a o h=>by simp at h⟩,?_,?_⟩
 ·rw [RepL]
  refine ⟨_,_,rfl,?_,by rw [RepL]⟩
  rw [Rep]
  refine ⟨a,_,rfl,?_,ziQ ns⟩
  rcases hS with hS | hS
  ·exact .inl ⟨by simp,hS⟩
  ·exact .inr hS
 ·rw [e]
  intro α' H' _ _ v r
  rw [Rep] at r
  subst r
  exact q H'
theorem law_fn {w:World} {k:Nat} {f:Addr} (F:FnOk P w K mg base CX0 k f fd ps (spD K cl X0 1 g)) (h:∀ ns:List Int,ns.length<=63->∃ a m,g [.scr (ns.map D.int)] [] = .ok a m/\a = .bl true):FnOk P w K mg base CX0 k f fd ps (spLaw K):=F.imp (law_sp h)
variable {us:List Value}
theorem usS (hl:us.length=n+1):∃ a r,us=a::r/\r.length=n:=by
 cases us with
 | nil=>exact absurd hl (by simp)
 | cons a r=>exact ⟨a,r,rfl,Nat.succ.inj hl⟩
theorem us0 (hl:us.length=0):us=[]:=List.length_eq_zero_iff.mp hl
theorem us1 (hl:us.length=1):∃ (a0:Value),us=[a0]:=by
 obtain ⟨a0,r,rfl,h⟩:=usS hl
 obtain rfl:=us0 h
 exact ⟨a0,rfl⟩
theorem us2 (hl:us.length=2):∃ (a0 a1:Value),us=[a0,a1]:=by
 obtain ⟨a0,r,rfl,h⟩:=usS hl
 obtain ⟨a1,rfl⟩:=us1 h
 exact ⟨a0,a1,rfl⟩
theorem us3 (hl:us.length=3):∃ (a0 a1 a2:Value),us=[a0,a1,a2]:=by
 obtain ⟨a0,r,rfl,h⟩:=usS hl
 obtain ⟨a1,a2,rfl⟩:=us2 h
 exact ⟨a0,a1,a2,rfl⟩
theorem us4 (hl:us.length=4):∃ (a0 a1 a2 a3:Value),us=[a0,a1,a2,a3]:=by
 obtain ⟨a0,r,rfl,h⟩:=usS hl
 obtain ⟨a1,a2,a3,rfl⟩:=us3 h
 exact ⟨a0,a1,a2,a3,rfl⟩
theorem us5 (hl:us.length=5):∃ (a0 a1 a2 a3 a4:Value),us=[a0,a1,a2,a3,a4]:=by
 obtain ⟨a0,r,rfl,h⟩:=usS hl
 obtain ⟨a1,a2,a3,a4,rfl⟩:=us4 h
 exact ⟨a0,a1,a2,a3,a4,rfl⟩
end MD
set_option autoImplicit false
namespace HT
open PySem PySem.Spec PyProof.Rows L2
section
variable {prog:Program} {w:World} {A:Around} {E:Value->Shared->Prop} {s:Shared}
theorem getItem_tuple_all {t sl:Addr} {items:Array Value} {vl vu:Value} {lo hi:Option Int} {Q:Value->Shared->Prop} (ht:IsTup s.heap t items) (hs:s.heap.IsSliceOf sl vl vu .none) (pl:IsPart vl lo) (pu:IsPart vu hi)
  (hw:sIx items.size 0 lo=0/\sIx items.size items.size hi=items.size)
  (h:Q (.ref t) s):wpAny (model prog w) A (getItem (.ref t) (.ref sl)) Q E s:=by
 obtain ⟨os,hos,hcs,hds⟩:=id hs
 have hTs:s.TypeIs (.ref sl) "slice" := ⟨os,hos,hcs⟩
 unfold getItem
 try with_reducible refine wpAny_holding ?_
 first | refine wpAny_bind (wpAny_pure ?_) | skip
 refine wpAny_bind (wpAny_sequenceKey ht.typeIs (by decide) ?_)
 refine wpAny_bind (wpAny_callSpecial?_slot (name:=Str.ofString "__getitem__") ht.typeIs PyProof.Rows.slot_tuple_getitem
  (wpAny_call_entry PyProof.Rows.slot_tuple_getitem ht.typeIs entry_tuple_getitem ?_ (args_tuple_getitem _ _)))
 show wpAny _ _ (Builtin.Tuple.tupleItemsOf (.ref t) >>= _) _ _ s
 refine wpAny_bind (tupleItemsOf_ ht ?_)
 refine wpAny_bind (wpAny_typeOf hTs ?_)
 rw [if_pos (by decide)]
 refine wpAny_bind (zds hs pl pu ?_)
 have hyes:(((sIx items.size 0 lo:Nat):Int) == 0 && (1:Int) == 1 && (sIx items.size items.size hi - sIx items.size 0 lo) == items.size)=true:=by
  rw [hw.1,hw.2]
  simp
 show wpAny _ _ (if (((sIx items.size 0 lo:Nat):Int) == 0 && (1:Int) == 1 && (sIx items.size items.size hi - sIx items.size 0 lo) == items.size)=true then _ else _) _ _ s
 rw [if_pos hyes]
 unfold Builtin.Tuple.tupleIsExact
 refine wpAny_bind (wpAny_bind (wpAny_typeOf ht.typeIs (wpAny_pure ?_)))
 rw [if_pos (by decide)]
 refine wpAny_bind (wpAny_rule ?_)
 exact wpAny_pure ⟨_,rfl,wpAny_pure h⟩
end
end HT
namespace MD
open PySem PySem.Spec PyProof.Rows L2
def rSlW (K:PySem.W.Frag):V->Option Int->Option Int->Hp->VK->Prop:=fun x lo hi H Q=>∃ a xs,x = .ref a/\SqT K H a xs ∧
 (HT.sIx xs.length 0 lo=0/\HT.sIx xs.length xs.length hi=xs.length)/\Q (.ref a) H
variable {X:Cx}
theorem zrF:SlR X (rSlW X.K):=by
 intro pins s σ H x v vl vu lo hi sl Q I rx hs pl pu h
 obtain ⟨a,xs,rfl,hx,hw,q⟩:=h
 cases rx
 obtain ⟨its,r,ht,hz⟩:=I.tuple hx
 have hlen:its.toArray.size=xs.length:=by rw [List.size_toArray]; exact r.length.symm
 refine ⟨"tuple", _,PyProof.Rows.slot_tuple_getitem.lookup,ht.typeIs,?_⟩
 exact HT.getItem_tuple_all ht hs pl pu (by rw [hlen]; exact hw) ⟨.ref a,H,I,rfl,q⟩
def slA (x:D) (lo hi:Option Int) (m:Sto):Res D:=match x with
 | .tup ds => .ok (.tup (zix ds lo hi)) m
 | d=>slD d lo hi m
theorem zta {τ : Type} {xs:List τ} {lo hi:Option Int} (h:HT.sIx xs.length 0 lo=0/\HT.sIx xs.length xs.length hi=xs.length):zix xs lo hi=xs:=by
 unfold zix
 rw [h.1,h.2]
 simp
def eSlA (f:EV) (lo hi:OV):EV:=fun ρ m=>(f ρ m).bind fun x m1=>(lo ρ m1).bind fun l m2=>(hi ρ m2).bind fun h m3=>slA x l h m3
section
variable {cl:Str->Addr} {ex:XD} {e:Expr} {fa:EV} {lo hi:OV} {el eh:Option Expr} {pos p2:Pos}
theorem qe_slA (he:QE X cl ex e fa) (hl:QO X cl ex el lo) (hh:QO X cl ex eh hi):QE X cl ex (.Subscript e (.Slice el eh none p2) pos) (eSlA fa lo hi) :=
 ⟨PE.weak (zk9 (SlR.or zrF (SlR.or zq0 (SlR.or zm6 zqZ))) he.out hl.out hh.out) fun σ H Q hh=>ex3 hh fun α ρ m W hr h =>
  tD.use W hr h fun α1 m1 H1 d v E1 W1 hr1 rv q1=>tDO.use W1 hr1 q1 fun α2 m2 H2 l E2 W2 hr2 q2=>tDO.use W2 hr2 q2 fun α3 m3 H3 u E3 W3 hr3 q3=>by
   have rv:=rv.mono W1 (E2.trans E3)
   by_cases ht:∃ ds,d = .tup ds
   ·obtain ⟨ds,rfl⟩:=ht
    replace q3:PQ X.K cl ex (Res.ok (D.tup (zix ds l u)) m3) α3 H3 _:=q3
    rw [Rep] at rv
    obtain ⟨a,xs,rfl,h1,r1⟩:=rv
    by_cases hn:HT.sIx xs.length 0 l=0/\HT.sIx xs.length xs.length u=xs.length
    ·rw [zta (by rw [r1.length]; exact hn)] at q3
     exact .inl ⟨a,xs,rfl,h1.sq,hn,PQ.ok W3 q3 _ (by rw [Rep]; exact ⟨a,xs,rfl,h1,r1⟩)⟩
    ·refine .inr (.inl ⟨a,xs,rfl,h1.sq,hn,fun p hp=>?_⟩)
     exact PQ.okS W3 (Same.new hp) q3 _ (zby W3 hp (r1.cut l u))
   ·have e:slA d l u m3=slD d l u m3:=by cases d <;> first | rfl | exact absurd ⟨_,rfl⟩ ht
    rw [e] at q3
    unfold slD at q3
    split at q3
    ·exact absurd ⟨_,rfl⟩ ht
    ·rw [Rep] at rv
     obtain ⟨a,xs,rfl,_,h1,r1⟩:=rv
     exact .inr (.inr (.inl ⟨a,xs,rfl,.inl h1,fun p hp=>PQ.okS W3 (Same.new hp) q3 _ (zca W3 hp (r1.cut l u))⟩))
    ·rw [Rep] at rv
     obtain ⟨a,xs,rfl,h1,r1⟩:=rv
     exact .inr (.inr (.inl ⟨a,xs,rfl,h1.sq,fun p hp=>PQ.okS W3 (Same.new hp) q3 _ (zca W3 hp (r1.cut l u))⟩))
    ·rw [Rep] at rv
     obtain ⟨hc,q3⟩:=PQ.if q3
     exact .inr (.inr (.inr ⟨_,rv,hc,PQ.ok W3 q3 _ zrT⟩))
    ·rw [Rep] at rv
     obtain ⟨a,ha,rfl⟩:=rv
     split at q3
     ·obtain ⟨xs,h1,r1⟩:=W3.lst ha ‹_›
      exact .inr (.inr (.inl ⟨a,xs,rfl,SqL.of h1,fun p hp=>PQ.okS W3 (Same.new hp) q3 _ (zca W3 hp (r1.cut l u))⟩))
     ·exact q3.elim
    ·exact q3.elim⟩
end
end MD
set_option autoImplicit false
namespace HT
open PySem PySem.Spec PyProof.Rows L2
end HT
namespace MD
open PySem PySem.Spec PyProof.Rows L2
variable {X:Cx} {K:PySem.W.Frag} {cl:Str->Addr} {ex:XD} {pos:Pos}
section
variable {α : List Addr} {m:Sto} {H:Hp}
theorem zk7:QE X cl ex (.Dict [] [] pos) (zhe []) :=
 ⟨PE.weak zqe fun σ H Q hh=>ex3 hh fun α ρ m W hr q p hp=>by
  obtain ⟨W2,E2⟩:=W.new (u := .dK []) (o := .dct []) hp ⟨_,zaI,(show RepKV X.K _ _ [] [] from rfl)⟩
  have q':PQ X.K cl ex (.ok (.ob m.length) (m++[.dct []])) α H fun d α' _ H'=>∀ v,Rep X.K α' H' d v->Q v H':=q
  refine q' _ _ E2 W2 _ ?_
  rw [Rep]
  refine ⟨p,?_,rfl⟩
  rw [<- W.len,List.getElem?_append_right (Nat.le_refl _),Nat.sub_self]
  rfl⟩
end
def zit:Nat:=1000000
def zhw:SV:=by walk_at "#5Fu:w#(tyu;`$I&{iVED;$"
def zdK:List D->Sto->Res D:=zaY 3 zhw
def zew:SV:=by walk_at "#Cu~tB5Fv2w#$u<Xw$2+{j/u+(t?Ht?GHY6u;HYv2;2"
def zc7:List D->Sto->Res D:=locF (zaY 5 zew)
def zlo:SV:=by walk_at "#;t%(tC$"
def zbC:List D->Sto->Res D:=zaY 2 zlo
def zhv:SV:=by walk_at "#v3(&v!tz$uf"
def zdJ:List D->Sto->Res D:=zaY 3 zhv
def zlv:SV:=by walk_at "#Rv!+{ktz$2dv4ug"
def zgO:List D->Sto->Res D:=zaY 5 zlv
def zhB:SV:=by walk_at "#RvzuSju:uR9t{"
def zcv:List D->Sto->Res D:=zaY 1 zhB
def zlm:SV:=by walk_at "#[t7{l$(;$t;u5u=vcy8y9tW2w%ug"
def zgG:List D->Sto->Res D:=zaY 3 zlm
def zhA:SV:=by walk_at "#5u+9j$t?)uTt..tP0s5t|$t*>tvv|v5xGRv!u>w&`v6Yt(!v7v|v5uUR{m/v6txv4v7v|v5xH5t}9Hv6t|v6t*SRv!u>w&`v|It)t(!t;w&"
def zdM:List D->Sto->Res D:=zaY 9 zhA
def zjj:SV:=by walk_at "#tvjMxI;Fv7jMxJ;u5)t;$"
def zcj:List D->Sto->Res D:=zaY 2 zjj
def zll:SV:=by walk_at "#Rvv=xK9$I&y:ugt.x33st~{nVtX"
def zdp:List D->Sto->Res D:=zaY 2 zll
def zgF:SV:=by walk_at "#tvjMxI;2v7jMxJR{o1Vw'Idw')!t;H"
def zc4:List D->Sto->Res D:=zaY 4 zgF
def zlq:SV:=by walk_at "#w(E.twvf&{pV+xLu?6t.0tP>sC{qUuAdt(tUESu;uhtD+{rtA9$IuBtA9juB)w)t&.;uh"
def zgI:List D->Sto->Res D:=zaY 9 zlq
def zlu:SV:=by walk_at "#;vcy;y<MxMzaxD{s1tBt~{tu^{uP{v(2)6"
def zcw:List D->Sto->Res D:=zaY 2 zlu
def zlp:SV:=by walk_at "#;vcy;y<MxM+vv=xK2&xLu?!t.w*st~w_+v!dv4tU6"
def zdq:List D->Sto->Res D:=zaY 3 zlp
def zgM:SV:=by walk_at "#w+u|w`y=({wu|w`y>("
def zbh:List D->Sto->Res D:=zaY 1 zgM
def zex:SV:=by walk_at "#w+&{xugy?wawa$(2"
def zaQ:List D->Sto->Res D:=zaY 3 zex
def zgN:SV:=by walk_at "#RyAU_tztCt{!"
def zb7:List D->Sto->Res D:=zaY 2 zgN
def zkz:SV:=by walk_at "#w+u|w`yB(y?wawa$w%ug2"
def zef:List D->Sto->Res D:=zaY 3 zkz
def zdZ:SV:=by walk_at "#w+&yCUVtuy2u|w`yDjPwYj$"
def zaM:List D->Sto->Res D:=zaY 3 zdZ
def zln:SV:=by walk_at "#RyE+xLu?6"
def zfk:List D->Sto->Res D:=zaY 2 zln
def zfD:SV:=by walk_at "#twvf$t.x33srt8Hu52uiVtXt;i"
def zcu:List D->Sto->Res D:=zaY 4 zfD
def zoV:SV:=by walk_at "#CyFu?VtYtwvfHt..x{t.0tP>ssC{yV+{zu?tUtxuAt&Srt7yGt)iv3tDt(!t)t;i"
def zjq:List D->Sto->Res D:=zaY 9 zoV
section
variable {o i:Expr} {fo fi:EV}
def putL (x y v:D) (m:Sto):Res Unit:=match x,y with
 | .ob k,.int i=>match m[k]? with
  | some (.lst ds)=>match ixN ds.length i with
   | some j => .ok () (m.set k (.lst (ds.set j v)))
   | none => .bad
  | _ => .bad
 | _,_ => .bad
def gI (fo fi:EV):GV:=fun d ρ m=>(fo ρ m).bind fun x m1=>(fi ρ m1).bind fun y m2=>(putL x y d m2).bind fun _ m3 => .ok ρ m3
theorem RepL.put {α : List Addr} {H:Hp} {d:D} {v:V} (h:Rep K α H d v):∀ {ds:List D} {vs:List V} (j:Nat),RepL K α H ds vs->RepL K α H (ds.set j d) (vs.set j v)
 | [],vs,j,r=>by
  rw [RepL] at r
  subst r
  simp [RepL]
 | e::ds,vs,j,r=>by
  rw [RepL] at r
  obtain ⟨u,us,rfl,r1,r2⟩:=r
  cases j with
  | zero=>rw [List.set_cons_zero,List.set_cons_zero,RepL]; exact ⟨v,us,rfl,h,r2⟩
  | succ j=>rw [List.set_cons_succ,List.set_cons_succ,RepL]; exact ⟨u,_,rfl,r1,RepL.put h j r2⟩
theorem zr1 (ho:QE X cl ex o fo) (hi:QE X cl ex i fi) (ha:autoParam (∀ v,assign (.Subscript o i pos) X.env v=(do
   let ov <- holding [v] (eval o X.env)
   let iv <- holding [v,ov] (eval i X.env)
   standAt pos
   holding [v,ov,iv] (setItem ov iv v)
   release [v,ov,iv] [])) AutoP.a2._auto_1):QG X cl ex (.Subscript o i pos) (gI fo fi) :=
 ⟨PG.weak (pg_sub ho.out hi.out zpN ha) fun v σ H Q ⟨α,ρ,m,d,W,hr,rv,h⟩=>tD.use W hr h fun α1 m1 H1 dx x E1 W1 hr1 rx q1=>tD.use W1 hr1 q1 fun α2 m2 H2 dy y E2 W2 hr2 ry q2=>by
  have rv:=rv.mono W (E1.trans E2)
  have rx:=rx.mono W1 E2
  unfold putL at q2
  split at q2
  ·rw [Rep] at rx
   rw [Rep] at ry
   obtain ⟨a,ha,rfl⟩:=rx
   subst ry
   split at q2
   ·rename_i ds e
    split at q2
    ·rename_i j' ej
     obtain ⟨ys,h1,r1⟩:=W2.lst ha e
     obtain ⟨W4,E4⟩:=W2.set (u := .lst (ys.set j' v)) (o := .lst (ds.set j' d)) ha fun E=>⟨_,zaI,RepL.put (rv.mono W2 E) j' (r1.mono W2 E)⟩
     refine ⟨a,ys,_,j',rfl,rfl,h1,by rw [<- r1.length]; exact ej,?_⟩
     exact (show PQ X.K cl ex (.ok ρ (m2.set _ (.lst (ds.set j' d)))) α2 H2 _ from q2) _ _ E4 W4 _ (hr2.mono W2 E4)
    ·exact q2.elim
   ·exact q2.elim
  ·exact q2.elim⟩
end
def zf8:SV:=by walk_at "#Cy:UtB[v8yC1uCVt,v`V6nR{{+vv=xK$2t.w*st~{|dtU6"
def zaR:List D->Sto->Res D:=zaY 3 zf8
end MD
namespace L2
open PySem PySem.Spec PyProof.Rows
variable {X:Cx} {e:Expr} {te:TE} {pos:Pos}
end L2
set_option autoImplicit false
namespace MD
open PySem PySem.Spec PyProof.Rows L2
def zsJ (x y:D) (m:Sto):Res D:=match x,y with
 | .int i,.int j=>if i.natAbs.log2 < 1100/\j.natAbs.log2 < 1100 then .ok (.int (i * j)) m else .bad
 | _,_ => .bad
theorem zoi:∃ f:D->D->Sto->Res D,f=zsJ:=⟨_,rfl⟩
def zsK:D->D->Sto->Res D:=Classical.choose zoi
theorem zoj:zsK=zsJ:=Classical.choose_spec zoi
theorem zjM {a:Int} (h:a.natAbs.log2 < 1100):Builtin.Int.intBits a<=2 ^ 20:=by
 unfold Builtin.Int.intBits
 split
 ·exact Nat.zero_le _
 ·exact Nat.le_trans (Nat.succ_le_of_lt h) (by decide)
variable {X:Cx}
theorem zib:OpR X (binaryOp .Mult) (rI IntMulOk fun i j => .int (i * j)):=opI fun _ _ _ _ _ _ _ hc q=>mul_int q hc
variable {K:PySem.W.Frag} {cl:Str->Addr} {ex:XD} {τ : Type}
theorem zij:OpD K cl ex (rI IntMulOk fun i j => .int (i * j)) zsK:=fun α m H x y vx vy Q W rx ry h=>by
 rw [zoj] at h; unfold zsJ at h
 split at h
 ·rw [Rep] at rx ry; obtain ⟨hc,h⟩:=PQ.if h; exact ⟨_,_,rx,ry,IntMulOk.of_bits (zjM hc.1) (zjM hc.2),PQ.ok W h _ zfa⟩
 ·exact h.elim
open Classical in
def grd (k:Nat) (o:MO) (m:Sto) (r:Res τ):Res τ := if m[k]?=some o then r else .bad
variable {m:Sto}
theorem zrb {k:Nat} {o:MO} {r:Res τ} (h:m[k]?=some o):grd k o m r=r:=if_pos h
def zot (k:Nat) (o:MO) (g:GV) (body:SV):List D->En->Sto->Res Fl
 | [],ρ,m=>grd k o m (.ok (.nx ρ) m)
 | d::r,ρ,m=>grd k o m ((g d ρ m).bind fun ρ1 m1=>(body ρ1 m1).bind fun fl m2=>match fl with
  | .nx ρ2=>zot k o g body r ρ2 m2
  | .ct ρ2=>zot k o g body r ρ2 m2
  | .bk ρ2 => .ok (.nx ρ2) m2
  | .rt d => .ok (.rt d) m2)
abbrev OI:=En->Sto->Res (Nat × MO × List D)
def zpt (d:D) (m:Sto):Res (Nat × MO × List D):=match d with
 | .ob k=>match m[k]? with
  | some (.lst xs) => .ok (k,.lst xs,xs) m
  | _ => .bad
 | _ => .bad
def zth (fa:EV):OI:=fun ρ m=>(fa ρ m).bind zpt
def sForO (it:OI) (g:GV) (body:SV):SV:=fun ρ m=>(it ρ m).bind fun t m1=>zot t.1 t.2.1 g body t.2.2 ρ m1
def zfQ (k:Nat) (o:MO) (g:GV) (c:TV) (el:EV) (ρ : En):List D->Sto->Res (List D)
 | [],m=>grd k o m (.ok [] m)
 | d::r,m=>grd k o m ((g d ρ m).bind fun ρ1 m1=>(c ρ1 m1).bind fun b m2=>if b=true then (el ρ1 m2).bind fun x m3=>(zfQ k o g c el ρ r m3).bind fun xs m4 => .ok (x::xs) m4 else zfQ k o g c el ρ r m2)
def zgX (n:Nat) (it:OI) (g:GV) (c:TV) (el:EV):AV:=fun ρ m=>(it ρ m).bind fun t m1=>if t.2.2.length<=1000000 then zfQ t.1 t.2.1 g c el (ρ ++ List.replicate n none) t.2.2 m1 else .bad
def ItO (K:PySem.W.Frag) (cl:Str->Addr) (α : List Addr) (H:Hp) (J:It) (k:Nat) (o:MO) (ds:List D):Prop :=
 ∀ (i:Nat) (α1:List Addr) (m1:Sto) (H1:Hp),Ext α H α1 H1->Wd K cl α1 m1 H1->m1[k]?=some o->(∀ d,ds[i]?=some d->J.go i H1/\∀ x H2,J.yld i H1 x H2->Same H1 H2/\Rep K α1 H2 d x)/\(i=ds.length->J.stop i H1)
def tDIO (K:PySem.W.Frag) (cl:Str->Addr) (ex:XD) (f:OI):TI:=fun σ H R=>∃ α ρ m,Wd K cl α m H/\RepE K α H ρ σ /\ PQ K cl ex (f ρ m) α H fun t α' _ H'=>∀ J,ItO K cl α' H' J t.1 t.2.1 t.2.2->R J H'
structure QIO (X:Cx) (cl:Str->Addr) (ex:XD) (tg it:Expr) (f:OI):Prop where
 out:PI X tg it (tDIO X.K cl ex f)
variable {H:Hp} {σ : L2.St}
section
variable {α α':List Addr} {m1:Sto} {H':Hp} {ρ : En}
theorem ito_l {k:Nat} {a:Addr} {ds:List D} (ha:α[k]?=some a):ItO K cl α H (Itl K a) k (.lst ds) ds:=fun i α1 m1 H1 E1 W1 hk=>by
 obtain ⟨β,rfl,_⟩:=E1.pre
 have hl:=(List.getElem?_eq_some_iff.mp ha).1
 obtain ⟨vs,h1,r⟩:=W1.at' k a (.lst ds) (by rw [List.getElem?_append_left hl]; exact ha) hk
 have sq:SqL K H1 a vs := .inl (.inl h1)
 have un:∀ ys,SqL K H1 a ys->True:=fun _ _=>trivial
 refine ⟨fun d e=>?_,fun e=>⟨vs,sq,by rw [e,r.length]; exact Nat.le_refl _⟩⟩
 obtain ⟨v,h3,h4⟩:=r.get e
 refine ⟨⟨vs,v,sq,h3⟩,fun x H2 y=>?_⟩
 obtain ⟨rfl,y⟩:=y
 have:=y vs sq
 rw [h3] at this
 cases this
 exact ⟨Same.refl _,h4⟩
end
variable {tg it:Expr} {fa:EV} {gt:GV} {pos:Pos}
section
variable {e:Expr} {fr:OI} {f:SV} {sts:List Stmt}
theorem qi_obj (hq:QE X cl ex e fa):QIO X cl ex tg e (zth fa) :=
 ⟨PI.weak (znH hq.out) fun σ H R hh=>ex3 hh fun α ρ m W hr q=>⟨α,ρ,m,W,hr,PQ.mono (Ext.refl W) q.bind fun d α1 m1 H1 E1 W1 q v rv=>by
  unfold zpt at q
  split at q
  ·rename_i k
   split at q
   ·rename_i xs hk
    rw [Rep] at rv
    obtain ⟨a,ha,rfl⟩:=rv
    obtain ⟨vs,h1,r⟩:=W1.at' k a _ ha hk
    exact ⟨a,rfl,⟨vs,.inl (.inl h1)⟩,PQ.ok W1 q _ (ito_l ha)⟩
   ·exact q.elim
  ·exact q.elim⟩⟩
end
variable {ta:TV}
section
variable {fr:OI}
theorem zm1 {n:Nat} {fin:List V->Hp->Prop} (h:∃ α ρ m,Wd K cl α m H/\RepE K α H ρ σ /\ PQ K cl ex (zgX n fr gt ta fa ρ m) α H fun ds α' _ H'=>∀ vs,RepL K α' H' ds vs->fin vs H') :
  zpJ n (tDIO K cl ex fr) (tDG K cl ex gt) (tDT K cl ex ta) (tD K cl ex fa) fin σ H:=by
 obtain ⟨α,ρ,m,W,hr,h⟩:=h
 refine ⟨α,ρ,m,W,hr,PQ.mono (Ext.refl W) h.bind fun t α1 m1 H1 E1 W1 q J hJ=>?_⟩
 obtain ⟨k,o,ds⟩:=t
 obtain ⟨hk,q⟩:=PQ.if q
 have hr1:=hr.mono W E1
 refine zpf (k:=ds.length) (fun i ys H2=>∃ α2 m2 done,Ext α1 H1 α2 H2/\Wd K cl α2 m2 H2/\RepL K α2 H2 done ys/\done.length<=i/\PQ K cl ex ((zfQ k o gt ta fa (ρ ++ List.replicate n none) (ds.drop i) m2).bind fun xs m4 => .ok (done++xs) m4) α2 H2 fun ds α' _ H'=>∀ vs,RepL K α' H' ds vs->fin vs H') hk ?_ ?_ ?_ ?_
 ·refine ⟨α1,m1,[],Ext.refl W1,W1,by rw [RepL],Nat.le_refl _,?_⟩
  simp only [List.nil_append,List.drop_zero,Res.bind_ok']
  exact q
 ·rintro i ys H2 ⟨_,_,done,_,_,r,l,_⟩
  rw [<- r.length]
  exact l
 ·rintro i ys H2 hi ⟨α2,m2,done,E2,W2,r2,l2,q2⟩
  have hd:ds[i]?=some ds[i]:=by simp [hi]
  rw [List.drop_eq_getElem_cons hi,zfQ] at q2
  have q2':m2[k]?=some o/\PQ K cl ex (((gt ds[i] (ρ ++ List.replicate n none) m2).bind fun ρ1 m1=>(ta ρ1 m1).bind fun b m2=>if b=true then (fa ρ1 m2).bind fun x m3=>(zfQ k o gt ta fa (ρ ++ List.replicate n none) (ds.drop (i+1)) m3).bind fun xs m4 => .ok (x::xs) m4 else zfQ k o gt ta fa (ρ ++ List.replicate n none) (ds.drop (i+1)) m2).bind fun xs m4 => .ok (done++xs) m4) α2 H2 fun ds α' _ H'=>∀ vs,RepL K α' H' ds vs->fin vs H':=by
   unfold grd at q2
   split at q2
   ·exact ⟨‹_›,q2⟩
   ·exact q2.elim
  obtain ⟨hko,q2⟩:=q2'
  obtain ⟨g1,g2⟩:=(hJ i α2 m2 H2 E2 W2 hko).1 _ hd
  refine ⟨g1,fun x H3 y=>?_⟩
  obtain ⟨sm,rx⟩:=g2 x H3 y
  have Es:=Ext.of_same W2 sm
  have W3:=W2.same sm
  rw [Res.bind_assoc] at q2
  have E23:=E2.trans Es
  refine ⟨α2,ρ ++ List.replicate n none,m2,ds[i],W3,(hr1.mono W1 E23).more n,rx,PQ.mono Es q2.bind fun ρ4 α4 m4 H4 E4 W4 q4 σ4 hr4=>?_⟩
  rw [Res.bind_assoc] at q4
  refine tDT.use W4 hr4 q4 fun α5 m5 H5 b E5 W5 hr5 q5=>?_
  have E45:=E4.trans E5
  cases b with
  | false=>exact ⟨α5,m5,done,E23.trans E45,W5,(r2.mono W2 Es).mono W3 E45,Nat.le_succ_of_le l2,q5⟩
  | true =>
   have q5':PQ K cl ex (((fa ρ4 m5).bind fun x m3=>(zfQ k o gt ta fa (ρ ++ List.replicate n none) (ds.drop (i+1)) m3).bind fun xs m4 => .ok (x::xs) m4).bind fun xs m4 => .ok (done++xs) m4) α5 H5 fun ds α' _ H'=>∀ vs,RepL K α' H' ds vs->fin vs H':=q5
   rw [Res.bind_assoc] at q5'
   refine tD.use W5 hr5 q5' fun α6 m6 H6 d v E6 W6 hr6 rv q6=>?_
   rw [Res.bind_assoc] at q6
   refine ⟨α6,m6,done++[d],E23.trans (E45.trans E6),W6,RepL.append (((r2.mono W2 Es).mono W3 E45).mono W5 E6) (RepL.one rv),by rw [List.length_append]; show done.length+1<=i+1; omega,?_⟩
   simp only [List.append_assoc,List.singleton_append]
   exact q6
 ·rintro ys H2 ⟨α2,m2,done,E2,W2,r2,l2,q2⟩
  rw [List.drop_of_length_le (Nat.le_refl _),zfQ] at q2
  have q2':m2[k]?=some o/\PQ K cl ex (.ok (done++[]) m2) α2 H2 fun ds α' _ H'=>∀ vs,RepL K α' H' ds vs->fin vs H':=by
   unfold grd at q2
   split at q2
   ·exact ⟨‹_›,q2⟩
   ·exact q2.elim
  obtain ⟨hko,q3⟩:=q2'
  refine ⟨(hJ ds.length α2 m2 H2 E2 W2 hko).2 rfl,?_⟩
  rw [List.append_nil] at q3
  exact PQ.ok W2 q3 ys r2
end
section
variable {N0:List Str} {e:Expr} {ifs:List Expr} {fr:OI} {scope:Scope} {xs:List Str} {clo:List (Str × Addr)}
theorem zp4 (hc:X.calm=true) (hx:X.xe=fun _ _=>False) (S:CompOk X N0 scope xs clo) (hi:QIO X cl ex tg it fr)
  (hg:∀ C s H fp,QG (X.comp N0 scope xs clo C s H fp) cl ex tg gt) (hf:∀ C s H fp,PIf (X.comp N0 scope xs clo C s H fp) ifs (tDT X.K cl ex ta)) (he:∀ C s H fp,QE (X.comp N0 scope xs clo C s H fp) cl ex e fa)
  (hs:autoParam (∀ x,foldedSetIterable it X.env x=pure x) AutoP.a2._auto_1):QE X cl ex (.ListComp e [⟨tg,it,ifs,0⟩] scope pos) (eFn gL1 (zgX xs.length fr gt ta fa)) :=
 ⟨PE.weak (znL (g:=tDG X.K cl ex gt) (tf:=tDT X.K cl ex ta) (te:=tD X.K cl ex fa) hc hx S hi.out (fun C s H fp=>(hg C s H fp).out) hf (fun C s H fp=>(he C s H fp).out) hs) fun σ H Q hh=>ex3 hh fun α ρ m W hr h=>zm1 ⟨α,ρ,m,W,hr,PQ.mono (Ext.refl W) h.bind fun ds α1 m1 H1 E1 W1 q vs rv p hp=>PQ.okS W1 (Same.new hp) q _ (zca W1 hp rv)⟩⟩
end
def zlr:SV:=by walk_at "#5J{}u:Cu~tB5PwbPwbPwbPwbw,w,w,w,w,v2w#u+(uTt?J{~u<5u=G`$JyHt%YxxxNJ>J|!u:rt7wc&yIv4xx|#w$2/t%&yIv4H!t;xOw^xPy(2xPyJ$xPuUF"
def zfl:List D->Sto->Res D:=zaY 5 zlr
def zjp:SV:=by walk_at "#XyKwdvdt8v0u!!tQ9w-FxvyLv0tZ[t8v0u!!5t%9w-$ty5PyM9w-$|$w-;2mX|%(MuUGx4uU)5x4uUv25GGx4yJ``Hw.|&`w.|'u<5t%`YJ|(J|)u<5t%`YGt%YJyHJ|*J|+u<;t%PyMYJ|,$"
def zau:List D->Sto->Res D:=zaY 5 zjp
def zoT:SV:=by walk_at "#;9$u#uC16"
def zbg:List D->Sto->Res D:=zaY 2 zoT
def zgJ:SV:=by walk_at "#w/_tTtztCt{v9v:$w0;t%t|u#uj!tC$"
def zbq:List D->Sto->Res D:=zaY 3 zgJ
def zhy:SV:=by walk_at "#w18SE3[ukHIt[|-!w2ukw.7t[xG+xQUV6v7w.7CyNu>Iu#8vg!v:2tYw(v9v:2ubG`Iu#8S!)!t..tP0st[uU+uluDtUESuRu=uh`uBt)tC26w2vdukw.>t7yOumw/_tTv;)x<8xRv;JxRtzu#8|.!JxRw3t[xHv91t,z]tx6mt[|/!"
def zdL:List D->Sto->Res D:=zaY 8 zhy
def zgL:SV:=by walk_at "#5M|0tyXxS37v98yPt,u~6twuDu>)u#1t&.Cucw4ujw5S8xTxyt&05`t|u=H`u$uhJyPG)u=HuhJSt*>w$Yw6txuA+|1Ut(uAw7ui+y+tUt,ucx=8>8xT8|28|38|4u^x70w7"
def zc9:List D->Sto->Res D:=zaY 8 zgL
def zjl:SV:=by walk_at "#w1udtB[uk2u$t[xI!v72u$t[yQ!m5G)u#1E3t[xJd+xQUd6"
def ze1:List D->Sto->Res D:=zaY 4 zjl
def zhz:SV:=by walk_at "#CuluS9umv2t~|5UtAH)w0uiv<w4uj808u{w8v<w4ujw508S8xUw8tu"
def zda:List D->Sto->Res D:=zaY 3 zhz
def zjm:SV:=by walk_at "#Cucw9w4w5|6t&D5G$&uc_xp78xN8|7w0ui1Vv<w9x=w5yR6v<w9_8>8xNxp|8w7"
def ze2:List D->Sto->Res D:=zaY 3 zjm
def zjn:SV:=by walk_at "#C|9u?tBCuluDv<_w4w5xU6tYt~|:UVt&3uiVv<8u{8xU8xTw8d+|;U6"
def zdY:List D->Sto->Res D:=zaY 4 zjn
end MD
set_option autoImplicit false
namespace L2
open PySem PySem.Spec PyProof.Rows
end L2
namespace MD
open PySem L2
variable {K:PySem.W.Frag} {cl:Str->Addr} {ex:XD}
end MD
set_option autoImplicit false
namespace MD
open PySem PySem.Spec PyProof.Rows L2
def zpA (c f:Str) (x:D) (m:Sto):Res D:=match x with
 | .ob k=>match m[k]? with
  | some (.ins c' fs)=>if c'=c then opt (fs.lookup f) m else .bad
  | _ => .bad
 | _ => .bad
def zcX (c f:Str) (fa:EV):EV:=fun ρ m=>(fa ρ m).bind (zpA c f)
def zgn (f:Str) (v:D):List (Str × D)->List (Str × D)
 | []=>[(f,v)]
 | (g,x)::r=>if g=f then (g,v)::r else (g,x)::zgn f v r
def setM (c f:Str) (x y:D) (m:Sto):Res Unit:=match x with
 | .ob k=>match m[k]? with
  | some (.ins c' fs)=>if c'=c/\fs.length < 1000 then .ok () (m.set k (.ins c (zgn f y fs))) else .bad
  | _ => .bad
 | _ => .bad
def zeM (c f:Str) (fo fv:EV):SV:=fun ρ m=>(fv ρ m).bind fun y m1=>(fo ρ m1).bind fun x m2=>(setM c f x y m2).bind fun _ m3 => .ok (.nx ρ) m3
def zdx (c mth:Str) (x:D) (m:Sto):Bool:=match x with
 | .ob k=>match m[k]? with
  | some (.ins c' fs)=>decide (c'=c) && (fs.lookup mth).isNone
  | _=>false
 | _=>false
def zbQ (c mth:Str) (g:List D->Sto->Res D) (fo:EV) (fr:AV):EV:=fun ρ m=>(fo ρ m).bind fun x m1=>if zdx c mth x m1=true then (fr ρ m1).bind fun ds m2=>g (x::ds) m2 else .bad
def mkEnd (n:Nat) (v:D) (m:Sto):Res D:=match v with
 | .non => .ok (.ob n) m
 | _ => .bad
def mkM (c:Str) (g:List D->Sto->Res D) (ds:List D) (m:Sto):Res D:=(g (.ob m.length::ds) (m++[.ins c []])).bind (mkEnd m.length)
variable {K:PySem.W.Frag} {cl:Str->Addr} {ex:XD} {α : List Addr} {H:Hp} {c:Str}
section
variable {m:Sto}
theorem RepF.look {f:Str}:∀ {ds:List (Str × D)} {xs:List (Str × V)},RepF K α H ds xs->(∀ d,ds.lookup f=some d->∃ v,xs.lookup f=some v/\Rep K α H d v)/\(ds.lookup f=none->xs.lookup f=none)
 | [],_,h=>by
  cases (show _=[] from h)
  exact ⟨fun d e=>(nomatch e),fun _=>rfl⟩
 | p::ds,_,⟨v,r,rfl,h1,h2⟩=>by
  obtain ⟨a,b⟩:=RepF.look (f:=f) h2
  obtain ⟨g,x⟩:=p
  simp only [List.lookup_cons]
  cases hg:f == g with
  | true=>exact ⟨fun d e=>by simp only [Option.some.injEq] at e; subst e; exact ⟨v,rfl,h1⟩,fun e=>by simp at e⟩
  | false=>exact ⟨a,b⟩
theorem RepF.put {f:Str} {d:D} {v:V} (hv:Rep K α H d v):∀ {ds:List (Str × D)} {xs:List (Str × V)},RepF K α H ds xs->RepF K α H (zgn f d ds) (zg5 f v xs)
 | [],_,h=>by
  cases (show _=[] from h)
  exact ⟨v,[],rfl,hv,rfl⟩
 | p::ds,_,⟨u,r,rfl,h1,h2⟩=>by
  obtain ⟨g,x⟩:=p
  unfold zgn zg5
  by_cases hg:g=f
  ·rw [if_pos hg]
   show RepF K α H ((g,d)::ds) (if g=f then (g,v)::r else (g,u)::zg5 f v r)
   rw [if_pos hg]
   exact ⟨v,r,rfl,hv,h2⟩
  ·rw [if_neg hg]
   show RepF K α H ((g,x)::zgn f d ds) (if g=f then (g,v)::r else (g,u)::zg5 f v r)
   rw [if_neg hg]
   exact ⟨u,_,rfl,h1,RepF.put hv h2⟩
theorem RepF.length:∀ {ds:List (Str × D)} {xs:List (Str × V)},RepF K α H ds xs->ds.length=xs.length
 | [],_,h=>by cases (show _=[] from h); rfl
 | p::ds,_,⟨u,r,rfl,h1,h2⟩=>by rw [List.length_cons,List.length_cons,RepF.length h2]
theorem Wd.ins (W:Wd K cl α m H) {k:Nat} {a:Addr} {ds:List (Str × D)} (h1:α[k]?=some a) (h2:m[k]?=some (.ins c ds)):∃ dx xs,H a=some (.ins (cl c) dx xs)/\RepF K α H ds xs:=W.at' k a _ h1 h2
end
variable {x:Str} {n:Nat} {mm:Sto} {pl:Sem Bool} {P:Program} {mg:Str->Option Value} {base:Heap} {qual:Str} {st:Stmt} {fd:FuncData} {N ps:List Str} {body:SV}
section
variable {X:Cx} {o e value:Expr} {es:List Expr} {f m:Str} {pos pos' apos p:Pos} {fa fv:EV} {fr:AV} {k:Nat} {g:List D->Sto->Res D}
theorem zaV (he:QE X cl ex e fa) (hc:Cls X.K (cl c)) (hn:NoAttr X.K (cl c) f) (hb:autoParam (attributeBase e f X.env (eval e X.env)=eval e X.env) AutoP.a3._auto_1):QE X cl ex (.Attribute e f pos) (zcX c f fa) :=
 ⟨PE.weak (pe_fld he.out hb) fun σ H Q hh=>ex3 hh fun α ρ m W hr h=>tD.use W hr h fun α1 m1 H1 d v E1 W1 hr1 rv h1=>by
  unfold zpA at h1
  split at h1
  ·rename_i k
   split at h1
   ·rename_i c' fs hk
    obtain ⟨hcc,h2⟩:=PQ.if h1
    clear h1
    subst hcc
    rw [Rep] at rv
    obtain ⟨a,ha,rfl⟩:=rv
    obtain ⟨dx,xs,hx,rf⟩:=W1.ins ha hk
    cases hl:fs.lookup f with
    | none=>rw [hl] at h2; exact h2.elim
    | some d =>
     rw [hl] at h2
     obtain ⟨v,hv,rv⟩:=rf.look.1 d hl
     exact ⟨a,_,dx,xs,v,rfl,hx,hc,hn,hv,PQ.ok W1 h2 v rv⟩
   ·exact h1.elim
  ·exact h1.elim⟩
theorem zeP (ho:QE X cl ex o fa) (hv:QE X cl ex value fv) (hc:Cls X.K (cl c)) (hn:NoAttr X.K (cl c) f) (hs:autoParam (swapsWith value (some (.Attribute o f pos')) pos.line X.env=pure false) AutoP.a3._auto_1):QS X cl ex (.Assign [.Attribute o f pos'] value pos) (zeM c f fa fv) :=
 ⟨PS.weak (ps_fld ho.out hv.out hs) fun D σ H hh=>ex3 hh fun α ρ m W hr h=>tD.use W hr h fun α1 m1 H1 d v E1 W1 hr1 rv h1=>tD.use W1 hr1 h1 fun α2 m2 H2 d2 v2 E2 W2 hr2 rv2 h2=>by
  unfold setM at h2
  split at h2
  ·rename_i k
   split at h2
   ·rename_i c' fs hk
    by_cases hcc:c'=c/\fs.length < 1000
    ·rw [if_pos hcc] at h2
     obtain ⟨rfl,hl⟩:=hcc
     rw [Rep] at rv2
     obtain ⟨a,ha,rfl⟩:=rv2
     obtain ⟨dx,xs,hx,rf⟩:=W2.ins ha hk
     have rv':=rv.mono W1 E2
     refine ⟨a,_,dx,xs,rfl,hx,hc,hn,by rw [<- rf.length]; exact hl,?_⟩
     obtain ⟨W3,E3⟩:=W2.set (u := .ins (cl c') dx (zg5 f v xs)) (o := .ins c' (zgn f d fs)) ha fun E=>⟨dx,_,zaI,(rf.put rv').mono W2 E⟩
     exact h2 _ _ E3 W3 _ (hr2.mono W2 E3)
    ·rw [if_neg hcc] at h2
     exact h2.elim
   ·exact h2.elim
  ·exact h2.elim⟩
structure FnM (P:Program) (w:World) (K:PySem.W.Frag) (mg:Str->Option Value) (base:Heap) (cl:Str->Addr) (c m:Str) (k n:Nat) (g:List D->Sto->Res D):Prop where
 ex:∃ (f:Addr) (fd:FuncData) (ps:List Str),Meth K (cl c) m f/\Binds K fd ps []/\FnOk P w K mg base CX0 k f fd ps (spD K cl X0 n g)
structure FnC (P:Program) (w:World) (K:PySem.W.Frag) (mg:Str->Option Value) (base:Heap) (cl:Str->Addr) (c:Str) (k n:Nat) (g:List D->Sto->Res D):Prop where
 ex:∃ (f:Addr) (fd:FuncData) (ps:List Str),mg c=some (.ref (cl c))/\Mk K (cl c) f/\Binds K fd ps []/\FnOk P w K mg base CX0 k f fd ps (spD K cl X0 n g)
theorem zgD {d:D} {v:V} (W:Wd K cl α mm H) (h:zdx c m d mm=true) (rv:Rep K α H d v):∃ a dx fs,v = .ref a/\H a=some (.ins (cl c) dx fs)/\fs.lookup m=none:=by
 unfold zdx at h
 split at h
 ·rename_i k
  split at h
  ·rename_i c' fs hk
   rw [Bool.and_eq_true,decide_eq_true_eq,Option.isNone_iff_eq_none] at h
   obtain ⟨rfl,h2⟩:=h
   rw [Rep] at rv
   obtain ⟨a,ha,rfl⟩:=rv
   obtain ⟨dx,xs,hx,rf⟩:=W.ins ha hk
   exact ⟨a,dx,xs,rfl,hx,rf.look.2 h2⟩
  ·cases h
 ·cases h
theorem zcM (h:FnM X.prog X.w X.K X.mg X.base cl c m k n g) (ho:QE X cl X0 o fa) (hc:Cls X.K (cl c)) (hn:n=(e::es).length+1) (hr:Room k X.A) (ha:QA X cl X0 (e::es) fr) (hlen:∀ ρ m ds m1,fr ρ m = .ok ds m1->ds.length=(e::es).length)
  (hst:autoParam (starEach (e::es) X.env=(false,eval e X.env)::starEach es X.env) AutoP.a3._auto_1) (hpl:autoParam ((backTo pos (starEach es X.env)).any (·.1)=false) AutoP.a3._auto_1)
  (ht:autoParam (eval (.Call (.Attribute o m apos) (e::es) [] pos) X.env=(do
   let ov <- eval o X.env
   standAt apos.atName
   let (f,first) <- holding [ov] (getMethod ov m pl)
   callWith pos f first (backTo pos (starEach (e::es) X.env)) (backToKw pos (keywordEach [] X.env)))) AutoP.a3._auto_1):QE X cl X0 (.Call (.Attribute o m apos) (e::es) [] pos) (zbQ c m g fa fr):=by
 obtain ⟨f,fd,ps,h1,h2,h3⟩:=h.ex
 refine ⟨PE.weak (zsp (E:=E0) ho.out hc h1 h3 hr h2 .nil zqh ha.out hst hpl ht) fun σ H Q hh=>ex3 hh fun α ρ mm W hr h=>tD.use W hr h fun α1 m1 H1 d v E1 W1 hr1 rv q1=>?_⟩
 obtain ⟨hi,q1⟩:=PQ.if q1
 obtain ⟨a,dx,fs,rfl,ea,el⟩:=zgD W1 hi rv
 refine ⟨a,dx,fs,rfl,ea,el,?_⟩
 cases hf:fr ρ m1 with
 | bad=>rw [hf] at q1; exact q1.elim
 | exc c m2=>exact tDA.exc W1 hr1 hf q1
 | ok ds m2 =>
  rw [hf] at q1
  refine tDA.at W1 hr1 hf fun α2 H2 vs E2 W2 hr2 rvs=>?_
  refine ⟨?_,α2,m2,d::ds,W2,?_,PQ.mono E2 q1 fun _ _ _ _ _ _ z=>z⟩
  ·rw [List.append_nil,List.length_cons,<- rvs.length,hlen ρ m1 ds m2 hf,hn]
  ·rw [List.append_nil,RepL]
   exact ⟨_,_,rfl,rv.mono W1 E2,rvs⟩
theorem zbz (h:FnM X.prog X.w X.K X.mg X.base cl c m k n g) (ho:QE X cl X0 o fa) (hc:Cls X.K (cl c)) (hn:n=1) (hr:Room k X.A)
  (ht:autoParam (eval (.Call (.Attribute o m apos) [] [] pos) X.env=(do
   let ov <- eval o X.env
   standAt apos.atName
   let (f,first) <- holding [ov] (getMethod ov m pl)
   callWith pos f first (backTo pos (starEach [] X.env)) (backToKw pos (keywordEach [] X.env)))) AutoP.a3._auto_1):QE X cl X0 (.Call (.Attribute o m apos) [] [] pos) (zbQ c m g fa zaj):=by
 obtain ⟨f,fd,ps,h1,h2,h3⟩:=h.ex
 refine ⟨PE.weak (zqc (E:=E0) ho.out hc h1 h3 hr h2 .nil zqh ht) fun σ H Q hh=>ex3 hh fun α ρ mm W hr h=>tD.use W hr h fun α1 m1 H1 d v E1 W1 hr1 rv q1=>?_⟩
 obtain ⟨hi,q1⟩:=PQ.if q1
 obtain ⟨a,dx,fs,rfl,ea,el⟩:=zgD W1 hi rv
 refine ⟨a,dx,fs,rfl,ea,el,?_⟩
 refine ⟨by rw [hn]; rfl,α1,m1,[d],W1,?_,q1⟩
 rw [List.append_nil,RepL]
 exact ⟨_,_,rfl,rv,by rw [RepL]⟩
theorem zsN {ds:List D} {vs:List V} {Q:VK} {R:RD D} (W:Wd K cl α mm H) (r:RepL K α H ds vs) (hl:n=ds.length+1) (h:PQ K cl X0 (mkM c g ds mm) α H R) (hR:∀ d α' m' H',R d α' m' H'->∀ v,Rep K α' H' d v->Q v H') :
  ∀ x dx,H x=none->H dx=none->dx≠x->spD K cl X0 n g (.ref x::(vs++[])) (upd (upd H dx (.own x)) x (.ins (cl c) dx [])) (fun v H2=>v = .non/\Q (.ref x) H2) E0:=by
 intro x dx hx hdx hne
 have sm:Same H (upd H dx (.own x)):=Same.new hdx
 have Wa:=W.same sm
 have Ea:=Ext.of_same W sm
 have hx2:upd H dx (.own x) x=none:=by rw [zav (Ne.symm hne)]; exact hx
 obtain ⟨Wb,Eb⟩:=Wa.new (u := .ins (cl c) dx []) (o := .ins c []) hx2 ⟨dx,[],zaI,rfl⟩
 have hob:Rep K (α ++ [x]) (upd (upd H dx (.own x)) x (.ins (cl c) dx [])) (.ob mm.length) (.ref x):=by
  rw [Rep]
  refine ⟨x,?_,rfl⟩
  rw [<- W.len,List.getElem?_append_right (Nat.le_refl _)]
  simp
 refine ⟨by rw [List.append_nil,List.length_cons,<- r.length,hl],α ++ [x],mm++[.ins c []],.ob mm.length::ds,Wb,?_,?_⟩
 ·rw [List.append_nil,RepL]
  exact ⟨_,_,rfl,hob,(r.mono W Ea).mono Wa Eb⟩
 ·unfold mkM at h
  refine PQ.mono (Ea.trans Eb) h.bind fun d α1 m1 H1 E1 W1 q v rv=>?_
  cases d with
  | non =>
   rw [Rep] at rv
   exact ⟨rv,hR _ _ _ _ (PQ.ok W1 (show PQ K cl X0 (.ok (.ob mm.length) m1) α1 H1 R from q)) _ (hob.mono Wb E1)⟩
  | _=>exact q.elim
theorem zr2 (h:FnC X.prog X.w X.K X.mg X.base cl c k n g) (hn:n=(e::es).length+1) (hr:Room (k+1) X.A) (hg:Gl X c) (ha:QA X cl X0 (e::es) fr) (hlen:∀ ρ m ds m1,fr ρ m = .ok ds m1->ds.length=(e::es).length) (hdb:autoParam ((c == ("__debug__" : Str))=false) AutoP.a1._auto_1)
  (he:autoParam (starEach (e::es) X.env=(false,eval e X.env)::starEach es X.env) AutoP.a3._auto_1) (hpl:autoParam ((backTo pos (starEach es X.env)).any (·.1)=false) AutoP.a3._auto_1):QE X cl X0 (.Call (.Name c p) (e::es) [] pos) (eFn (mkM c g) fr):=by
 obtain ⟨f,fd,ps,h1,h2,h3,h4⟩:=h.ex
 refine ⟨PE.weak (zsq (E:=E0) h2 h4 hr hg h1 h3 .nil zqh ha.out hdb he hpl) fun σ H Q hh=>ex3 hh fun α ρ mm W hr h=>?_⟩
 unfold eFn at h
 cases hf:fr ρ mm with
 | bad=>rw [hf] at h; exact h.elim
 | exc c m2=>exact tDA.exc W hr hf h
 | ok ds m1 =>
  rw [hf] at h
  exact tDA.at W hr hf fun α1 H1 v E1 W1 hr1 rv=>zsN W1 rv (by rw [hn,hlen ρ mm ds m1 hf]) (PQ.mono E1 h fun _ _ _ _ _ _ z=>z) fun _ _ _ _ z=>z
theorem FnM.mk' {w:World} {f:Addr} {k:Nat} (F:Fun K x qual st f fd) (b:Binds K fd ps []) (m:Meth K (cl c) x f) (S:FnScope N ps (zah st)) (hn:n=ps.length)
  (h:∀ (cdv:Value) (A:Around) (outer:List PySem.Env) (s:Shared) (H:Hp) (E:XK),Room k (A.deeper (envOfC qual (zah st) s.heap.objs.size f cdv))->QSs (zkF CX0 P w K mg base N qual (zah st) f cdv A outer s H E).nox cl X0 (zbe st) body):FnM P w K mg base cl c x (k+1) n (zaY N.length body) :=
 ⟨f,fd,ps,m,b,F.ok S (fun vs H Q E h=>by rw [<- hn]; exact h.1) fun cdv A outer s H vs Q E hr q=>⟨_,(h cdv A outer s H E hr).out,fn_d q⟩⟩
theorem FnC.mk' {w:World} {f:Addr} {k:Nat} (F:Fun K x qual st f fd) (b:Binds K fd ps []) (mc:mg c=some (.ref (cl c))) (m:Mk K (cl c) f) (S:FnScope N ps (zah st)) (hn:n=ps.length)
  (h:∀ (cdv:Value) (A:Around) (outer:List PySem.Env) (s:Shared) (H:Hp) (E:XK),Room k (A.deeper (envOfC qual (zah st) s.heap.objs.size f cdv))->QSs (zkF CX0 P w K mg base N qual (zah st) f cdv A outer s H E).nox cl X0 (zbe st) body):FnC P w K mg base cl c (k+1) n (zaY N.length body) :=
 ⟨f,fd,ps,mc,m,b,F.ok S (fun vs H Q E h=>by rw [<- hn]; exact h.1) fun cdv A outer s H vs Q E hr q=>⟨_,(h cdv A outer s H E hr).out,fn_d q⟩⟩
end
end MD
set_option autoImplicit false
namespace L2
open PySem PySem.Spec PyProof.Rows
theorem zhm:∀ (bs:List Bool),((List.range bs.length).any fun i=>bs.getD i false)=bs.any id
 | []=>rfl
 | b::r=>by
  rw [List.length_cons,List.range_succ_eq_map,List.any_cons,List.any_map,List.any_cons]
  have e:((fun i=>(b::r).getD i false) ∘ Nat.succ)=fun i=>r.getD i false:=by
   funext i
   simp
  rw [e,zhm r]
  simp
theorem zpq {bs:List Bool} {its:List Value} (r:Vals (bs.map V.bl) its) {i:Nat} {v:Value} (h:its.toArray[i]?=some v):v = .bool (bs.getD i false):=by
 have hi:i < its.length:=by
  have:=(Array.getElem?_eq_some_iff.mp h).1
  simpa using this
 have hl:=r.length
 rw [List.length_map] at hl
 have:=zlL r h
 rw [this]
 congr 1
 simp [List.getD,show i < bs.length by omega]
theorem zpo {X:Cx} (hc:X.calm=true):CallR X (.builtin "any") (fun xs H Q=>∃ (l:Addr) (bs:List Bool),xs=[.ref l]/\SqL X.K H l (bs.map V.bl)/\Q (.bl (bs.any id)) H):=by
 intro pins s σ H xs us Q I r h
 obtain ⟨l,bs,rfl,hq,q⟩:=h
 obtain ⟨u,rfl,rx⟩:=zcn r
 cases rx
 obtain ⟨its,r',pl,hz⟩:=I.list hq
 have hl:=pl.isList
 have hlt:l < s.heap.objs.size:=by obtain ⟨_,e,_⟩:=hl; exact Heap.lt_size e
 have hlen:bs.length=its.length:=by rw [<- r'.length,List.length_map]
 refine call_any_walk (wpAny_pyIter_list hl ?_)
 refine ⟨s.heap.objs.size,_,_,its.toArray.size,_,_,fun i=>bs.getD i false,rfl,Walks.list (A:=X.A.in1) (I.ok.hd hc) _ l (Nat.ne_of_lt hlt) its.toArray,⟨⟨_,Heap.get?_push_size _ rfl,rfl,rfl⟩,hl.push _⟩,fun i v s' Q' E' hP hQ=>?_,fun h' tk hk=>?_⟩
 ·rw [zpq r' hP]
  exact wpAny_truthy_bool hQ
 ·rw [List.size_toArray,<- hlen,zhm]
  exact ⟨.bl (bs.any id),H,I.kept fun b o e=>hk b o (fun z=>Nat.ne_of_lt (Heap.lt_size e) (List.mem_singleton.mp z)) (Heap.get?_push_of_some _ e),rfl,q⟩
end L2
namespace MD
open PySem PySem.Spec PyProof.Rows L2
def anyF (ds:List D) (m:Sto):Res D:=match ds with
 | [d]=>match (lOf d m).bind zkK with
  | some bs => .ok (.bl (bs.any id)) m
  | none => .bad
 | _ => .bad
theorem fd_any {K:PySem.W.Frag} {cl:Str->Addr} {ex:XD}:FnD K cl ex (fun xs H Q=>∃ (l:Addr) (bs:List Bool),xs=[.ref l]/\SqL K H l (bs.map V.bl)/\Q (.bl (bs.any id)) H) anyF:=fun α m H x vx Q W rx h=>by
 unfold anyF at h
 split at h
 ·split at h
  ·rename_i ns e
   obtain ⟨v,rfl,rv⟩:=rx.one_of
   obtain ⟨xs,e1,e2⟩:=Option.bind_eq_some_iff.mp e
   obtain ⟨p,ys,rfl,h1,r1⟩:=zin W e1 rv
   rw [zgU e2 r1] at h1
   exact ⟨p,ns,rfl,h1,PQ.ok W h _ zg3⟩
  ·exact h.elim
 ·exact h.elim
end MD
namespace PySem
open Sem (wp)
open Builtin
end PySem
set_option autoImplicit false
namespace L2
open PySem PySem.Spec PyProof.Rows
end L2
namespace MD
open PySem PySem.Spec PyProof.Rows L2
def zmz:SV:=by walk_at "#5Fu:5)tyXyKwduk2(5`2Ityu;t{u:;$"
def zcr:List D->Sto->Res D:=zaY 3 zmz
def zlt:SV:=by walk_at "#[uE$iuitTw')u^y!tD+tryQ6w%tAjF6t;9u5I$"
def zey:List D->Sto->Res D:=zaY 2 zlt
def zgH:SV:=by walk_at "#RySu>)w%w'I6"
def zbY:List D->Sto->Res D:=zaY 1 zgH
def zfE:SV:=by walk_at "#RyStAj)!"
def zbk:List D->Sto->Res D:=zaY 1 zfE
def zfy:SV:=by walk_at "#CyTu?tBv3GG&yUugt|)&|</jtu&yVug"
def zbD:List D->Sto->Res D:=zaY 3 zfy
def zjr:SV:=by walk_at "#;u=$&yE+vv=vf2t.w*suR`GHIY!u5)"
def zd0:List D->Sto->Res D:=zaY 3 zjr
def zhx:SV:=by walk_at "#CyTu?tYCw_/weuE$iFG)$+yUUt&.Cw_+v!V/u[7)ubu[7)E0Cw_+|=/jVdt,yVUt&>v3GGuhuB&yF/jtUtXw&"
def zc8:List D->Sto->Res D:=zaY 8 zhx
def ze4:SV:=by walk_at "#Cv`UtBRulxD|>tTu>&yN1tu)E3uRtDdw't}2H6"
def zcP:List D->Sto->Res D:=zaY 3 ze4
def ze0:SV:=by walk_at "#v=zZ$v=wf(&u~!v=u,unv=u-unx:vh(F"
def zbG:List D->Sto->Res D:=zaY 2 ze0
def zcd:SV:=by walk_at "#rv8|?w:F1!xVm"
def za6:List D->Sto->Res D:=zaY 2 zcd
def zeZ:SV:=by walk_at "#Rv`uFwfx8"
def zak:List D->Sto->Res D:=zaY 1 zeZ
def zct:SV:=by walk_at "#59v>u$u$u:w+Px~umPwYt%uoum"
def zaW:List D->Sto->Res D:=zaY 2 zct
def zc6:SV:=by walk_at "#5weuEtOu-un&u~!&u~uFu-(tB5t}t}uo)9v>u$Fv2[t7wcHtOvh(w$2tXmR|A+y%|BD|C2u<uRPwcYt}uo$!"
def zbc:List D->Sto->Res D:=zaY 4 zc6
def zcN:SV:=by walk_at "#5u+v>u$t?)t?u$t.x33sCuV_tzt}uo)2tY[t7yGtOu,untk&uVtUtztOu,(HtYt;PyOtC$t}GuoHY"
def za3:List D->Sto->Res D:=zaY 5 zcN
def zdv:SV:=by walk_at "#R|DuFwftW"
def zaJ:List D->Sto->Res D:=zaY 2 zdv
def zcO:SV:=by walk_at "#5u+9v>I2uTt?It.w*s[uzh|E|Fx8;Mu.w2x9h|G|H(tX;MxWw2x9h|I|J(v4;M|KmR|Lw:FtAv>I21/hwgwh(d6"
def zaz:List D->Sto->Res D:=zaY 5 zcO
def zc5:SV:=by walk_at "#5itytwuDuCw:It&3v?uk&yW/vxtX&yW/vxtuuEhwiwjvwtXitkHtyt;2"
def zaT:List D->Sto->Res D:=zaY 4 zc5
def zcV:SV:=by walk_at "#XupwkyXtW5u7(tBtv2tCv>)xVmC|M/vx/h|N|OtWV1E3Xw$tOwftW;H"
def zck:List D->Sto->Res D:=zaY 4 zcV
def zdu:SV:=by walk_at "#v=u,(weuEtOu,un$&uVuFu,tWrt7wc$tOvh(x:u-(weuEtOu-un$&uVuFu-tWm"
def za4:List D->Sto->Res D:=zaY 2 zdu
def zb6:SV:=by walk_at "#ruz&yYvAu.tT!v=vh(uox:u-unv?uz&yYvAu}8=!uz&yAtAt{_tzuo)!up|P|Q(tAt{!xV"
def zbo:List D->Sto->Res D:=zaY 2 zb6
def zjk:SV:=by walk_at "#[wltQu#ud!FtQumt[u.!mt[u}+uV_tzt}t{&ucw9x=udv916w7"
def zdX:List D->Sto->Res D:=zaY 2 zjk
def zed:SV:=by walk_at "#uiuFu,(uFu-(uFvhx8"
def za9:List D->Sto->Res D:=zaY 1 zed
def zfC:SV:=by walk_at "#RuluS9umtyt~xQUw;)6"
def zb1:List D->Sto->Res D:=zaY 2 zfC
def zee:SV:=by walk_at "#XxS.0tA9j$Iw;$!tvv{v5xGu;uB`uqYt*0v?tQv{v5uUt7|RuBuqtk9uqu=vcy8y9uquA!Yw%/uqE0rtQv{v5xHu;uB`v{It}9Huqt|uqt*0t;t%uBtC99jt{"
def zbP:List D->Sto->Res D:=zaY 7 zee
def ze3:SV:=by walk_at "#w(tYtwvf9umt..tP0sC|S1t(VtUtTw3tvu#tXFtku=w&&uctTv;)x<v;J>v9v:v6w7tCv6t*>mu;YtDtxtY;Y"
def zbH:List D->Sto->Res D:=zaY 8 ze3
def zcs:SV:=by walk_at "#XupwkyXtWRuluDuCw:Iw0uEhwiwjvwtui2!"
def zb5:List D->Sto->Res D:=zaY 2 zcs
end MD
set_option autoImplicit false
namespace L2
open PySem PySem.Spec PyProof.Rows
variable {vs:Array Value}
theorem zdb {h:Heap} {a:Addr} {o:Obj} {i:Nat} {x:Value} (he:h.get? a=some o) (hd:o.data = .fields vs):(h.update a (Obj.mapFields fun z=>z.setIfInBounds i x)).get? a=some { o with data := .fields (vs.setIfInBounds i x) }:=by
 obtain ⟨c,d,dt,sl⟩:=o
 simp only at hd
 subst hd
 exact Heap.get?_update_self _ he rfl
variable {M:Model} {A:Around} {E:Value->Shared->Prop} {s:Shared}
theorem zko {nx fr ln fl la:Value} {pl:List Value} (hp:IsPlace pl) {Q:Value->Shared->Prop}
  (h:∀ ts:Array Value,3 < ts.size->Q (.ref s.heap.objs.size) { s with heap:=s.heap.push { cls := .type "traceback", data := .fields ts } }):wpAny M A (EntryCells.newEntry nx fr ln fl la pl) Q E s:=by
 unfold EntryCells.newEntry newFields
 refine wpAny_newObj_type (h _ ?_) ?_
 ·simp
 ·show Array.size _<=sizeLine+2
  have e:sizeLine=16777216:=by decide
  rcases hp with rfl | ⟨a,b,c,d,c9,b10,_,rfl⟩ <;> simp <;> omega
variable {base:Heap} {env:Env} {outer:List Env} {L:Addr} {oe:Obj} {Q:Unit->Shared->Prop}
theorem zlC {e:Addr} {head:Value} {hb:Bool} (fr:A.frames=some (env::outer)) (ff:s.heap.FunFrames base (env::outer)) (hL:env.frame=some L)
  (he:s.heap.get? e=some oe) (hd:oe.data = .fields vs) (hv:1 < vs.size)
  (h:∀ h':Heap,(∀ b o,b ∉ frs (env::outer)->b≠e->s.heap.get? b=some o->h'.get? b=some o)->(∀ b o,b≠e->s.heap.get? b=some o->∃ sl,h'.get? b=some { o with slots:=sl }) →
   (∃ vs',h'.get? e=some { oe with data := .fields vs' }/\vs'[1]?=some (.ref s.heap.objs.size))->(∃ oT ts,h'.get? s.heap.objs.size=some oT/\oT.data = .fields ts/\ts[3]?=some .none)->Q () { s with heap:=h' }) :
  wpAny M A (do
   let a <- frameOf env
   let pl <- entryPlaceOf L hb
   let b <- EntryCells.newEntry head a Value.none (rawInt ↑L) Value.none pl
   setField (Value.ref e) 1 b) (fun _ s'=>wpAny M A (setFlight (.ref e) none) Q E s') E s:=by
 have nfe:e ∉ frs (env::outer):=fun z=>by
  obtain ⟨_,o,ho,hn⟩:=ff.mem z
  rw [he] at ho
  cases ho
  exact hn _ hd
 refine wpAny_bind (wpAny_frameOf_fun fr ff hL fun h1 so=>?_)
 obtain ⟨sz,k1,k2⟩:=so
 refine wpAny_bind (wpAny_entryPlaceOf fun pl hp=>wpAny_bind (zko hp fun ts hts=>?_))
 have he1:h1.get? e=some oe:=by rw [k1 e nfe]; exact he
 have he2:(h1.push { cls := .type "traceback", data := .fields ts }).get? e=some oe:=Heap.get?_push_of_some _ he1
 have ne:h1.objs.size≠e:=Nat.ne_of_gt (Heap.lt_size he1)
 refine wpAny_setField he2 hd hv ?_
 unfold setFlight
 refine wpAny_bind (wpAny_field (zdb he2 hd) rfl (by rw [Array.getElem?_setIfInBounds]; simp [hv]; rfl) ?_)
 have hT:((h1.push { cls := .type "traceback", data := .fields ts }).update e (Obj.mapFields fun z=>z.setIfInBounds 1 (.ref h1.objs.size))).get? h1.objs.size=some { cls := .type "traceback", data := .fields ts }:=by
  rw [Heap.get?_update_ne _ _ _ _ ne]; exact Heap.get?_push_size _ rfl
 show wpAny M A (setField (.ref h1.objs.size) 3 .none) Q E _
 refine wpAny_setField hT rfl hts ?_
 rw [show s.heap.objs.size=h1.objs.size from sz.symm] at h
 refine h _ (fun b o nb hb q=>?_) (fun b o hb q=>?_) ⟨vs.setIfInBounds 1 (.ref h1.objs.size),?_,?_⟩ ⟨_,ts.setIfInBounds 3 .none,zdb hT rfl,rfl,?_⟩
 ·have q1:h1.get? b=some o:=by rw [k1 b nb]; exact q
  rw [Heap.get?_update_ne _ _ _ _ (Nat.ne_of_lt (Heap.lt_size q1)),Heap.get?_update_ne _ _ _ _ hb]
  exact Heap.get?_push_of_some _ q1
 ·obtain ⟨sl,q1⟩:=k2 b o q
  refine ⟨sl,?_⟩
  rw [Heap.get?_update_ne _ _ _ _ (Nat.ne_of_lt (Heap.lt_size q1)),Heap.get?_update_ne _ _ _ _ hb]
  exact Heap.get?_push_of_some _ q1
 ·rw [Heap.get?_update_ne _ _ _ _ ne.symm]
  exact zdb he2 hd
 ·rw [Array.getElem?_setIfInBounds]; simp [hv]
 ·rw [Array.getElem?_setIfInBounds]; simp [hts]
def TbO (T:Addr):Heap->Prop:=fun h=>∃ o vs,h.get? T=some o/\o.data = .fields vs
theorem zmr {e:Addr} (fr:A.frames=some (env::outer)) (ff:s.heap.FunFrames base (env::outer)) (hL:env.frame=some L)
  (he:s.heap.get? e=some oe) (hd:oe.data = .fields vs)
  (hh:vs[1]?=some .none∨∃ T oT ts,vs[1]?=some (.ref T)/\T≠e/\s.heap.get? T=some oT/\oT.data = .fields ts/\ts[3]?=some .none)
  (h:∀ h':Heap,(∀ b o,b ∉ frs (env::outer)->b≠e->vs[1]?≠some (.ref b)->s.heap.get? b=some o->h'.get? b=some o)->(∀ b o,b≠e->vs[1]?≠some (.ref b)->s.heap.get? b=some o->∃ sl,h'.get? b=some { o with slots:=sl })->(∀ T,vs[1]?=some (.ref T)->TbO T h') →
   (∃ vs',h'.get? e=some { oe with data := .fields vs' }/\vs'[1]?=some (.ref s.heap.objs.size))->(∃ oT ts,h'.get? s.heap.objs.size=some oT/\oT.data = .fields ts/\ts[3]?=some .none)->Q () { s with heap:=h' }) :
  wpAny M A (noteFrame (.ref e) env) (fun _ s'=>wpAny M A (setFlight (.ref e) none) Q E s') E s:=by
 unfold noteFrame
 rw [hL]
 rcases hh with hv | ⟨T,oT,ts,hv,ne,hT,hdT,h3⟩
 ·have h1:1 < vs.size:=by have:=(Array.getElem?_eq_some_iff.mp hv).1; exact this
  refine wpAny_bind (wpAny_field he hd hv ?_)
  refine zlC (head := .none) fr ff hL he hd h1 fun h' k1 k2 k3 k4=>h h' (fun b o a c _ q=>k1 b o a c q) (fun b o a _ q=>k2 b o a q) (fun T z=>?_) k3 k4
  rw [hv] at z; cases z
 ·have h1:1 < vs.size:=by have:=(Array.getElem?_eq_some_iff.mp hv).1; exact this
  have h3':3 < ts.size:=by have:=(Array.getElem?_eq_some_iff.mp h3).1; exact this
  refine wpAny_bind (wpAny_field he hd hv ?_)
  refine wpAny_bind (wpAny_field hT hdT h3 ?_)
  refine wpAny_bind (wpAny_setField hT hdT h3' ?_)
  have nT:T ∉ frs (env::outer):=fun z=>by
   obtain ⟨_,o,ho,hn⟩:=ff.mem z
   rw [hT] at ho
   cases ho
   exact hn _ hdT
  have hT':=zdb (i:=3) (x := .none) hT hdT
  have he':(s.heap.update T (Obj.mapFields fun z=>z.setIfInBounds 3 .none)).get? e=some oe:=by rw [Heap.get?_update_ne _ _ _ _ ne.symm]; exact he
  have ff':(s.heap.update T (Obj.mapFields fun z=>z.setIfInBounds 3 .none)).FunFrames base (env::outer):=by
   clear h fr
   have go:∀ l:List Env,T ∉ frs l->s.heap.FunFrames base l->(s.heap.update T (Obj.mapFields fun z=>z.setIfInBounds 3 .none)).FunFrames base l:=by
    intro l
    induction l with
    | nil=>exact fun _ q=>by simp only [Heap.FunFrames]
    | cons x l ih =>
     intro hn q
     simp only [Heap.FunFrames] at q ⊢
     obtain ⟨q1,⟨L,o,a,b,c,d⟩,q3⟩:=q
     have hn' : ¬ (L=T∨T∈frs l):=by
      intro z
      refine hn ?_
      unfold frs
      rw [List.filterMap_cons,a]
      rcases z with z | z
      ·rw [z]; exact List.mem_cons_self ..
      ·exact List.mem_cons_of_mem _ z
     exact ⟨q1,⟨L,o,a,b,by rw [Heap.get?_update_ne _ _ _ _ fun z=>hn' (.inl z)]; exact c,d⟩,ih (fun z=>hn' (.inr z)) q3⟩
   exact go _ nT ff
  have zs:(s.heap.update T (Obj.mapFields fun z=>z.setIfInBounds 3 .none)).objs.size=s.heap.objs.size:=Heap.size_update ..
  refine zlC (head := .ref T) fr ff' hL he' hd h1 fun h' k1 k2 k3 k4=>h h' (fun b o a c n q=>k1 b o a c ?_) (fun b o a n q=>k2 b o a ?_) (fun T' z=>?_) (by simpa only [zs] using k3) (by simpa only [zs] using k4)
  ·rw [Heap.get?_update_ne _ _ _ _ fun z=>n (by rw [hv,z])]; exact q
  ·rw [Heap.get?_update_ne _ _ _ _ fun z=>n (by rw [hv,z])]; exact q
  ·rw [hv] at z; cases z
   have:=k1 T _ nT ne hT'
   exact ⟨_,_,this,rfl⟩
end L2
set_option autoImplicit false
namespace L2
open PySem PySem.Spec PyProof.Rows MD
structure Fly (C:Value) (dd:Option Addr) (e:Addr) (H:Hp) (h:Heap):Prop where
 te:H e=some (.ext (zro C dd e))
 lies:∃ o vs,h.get? e=some o/\o.cls=C/\o.dict=dd/\o.data = .fields vs/\(vs[1]?=some .none∨∃ T oT ts,vs[1]?=some (.ref T)/\T≠e/\H T=some (.ext (TbO T))/\h.get? T=some oT/\oT.data = .fields ts/\ts[3]?=some .none)
variable {P:Program} {H:Hp} {h:Heap} {C:Value} {dd:Option Addr}
theorem zq5 {w:World} {e:Addr} (x:zro C dd e h):ObjOk P w H h e (.ext (zro C dd e)):=by
 refine ⟨x,?_,fun h1 h2 a k=>?_⟩
 ·obtain ⟨o,_,q,_⟩:=x
  exact ⟨o,q⟩
 ·obtain ⟨o,vs,q,r⟩:=a
  exact ⟨o,vs,k o q,r⟩
theorem zsC {w:World} {T:Addr} (x:TbO T h):ObjOk P w H h T (.ext (TbO T)):=by
 refine ⟨x,?_,fun h1 h2 a k=>?_⟩
 ·obtain ⟨o,_,q,_⟩:=x
  exact ⟨o,q⟩
 ·obtain ⟨o,vs,q,r⟩:=a
  exact ⟨o,vs,k o q,r⟩
variable {a:Addr}
theorem ObjOk.has {w:World} {o:HO} (x:ObjOk P w H h a o):∃ u,h.get? a=some u:=by
 cases o with
 | lst xs=>obtain ⟨_,_,_,_,e⟩:=x; exact ⟨_,e⟩
 | tup xs=>obtain ⟨_,_,_,_,u,e,_⟩:=x; exact ⟨u,e⟩
 | dK kvs=>obtain ⟨_,_,_,_,o,_,_,e,_⟩:=x; exact ⟨_,e⟩
 | dT kvs=>obtain ⟨_,_,_,_,o,_,_,e,_⟩:=x; exact ⟨_,e⟩
 | set S n=>obtain ⟨o,_,_,_,e,_⟩:=x; exact ⟨_,e⟩
 | ins C dx fs=>obtain ⟨_,_,_,e,_⟩:=x; exact ⟨_,e⟩
 | own y=>exact x
 | xd fs=>obtain ⟨_,⟨_,_,_,e,_⟩,_⟩:=x; exact ⟨_,e⟩
 | rng lo hi=>obtain ⟨_,_,_,e⟩:=x; exact ⟨_,e⟩
 | frz ob u=>obtain ⟨e,_⟩:=x; exact ⟨_,e⟩
 | tbl ps=>exact ⟨_,show h.get? a=some _ from x⟩
 | met f y=>exact ⟨_,show h.get? a=some _ from x⟩
 | ext φ => exact x.2.1
theorem HOk.none {w:World} (x:HOk P w H h) (e:h.get? a=Option.none):H a=Option.none:=by
 cases q:H a with
 | none=>rfl
 | some u =>
  obtain ⟨o,z⟩:=(x a u q).has
  rw [e] at z
  cases z
variable {M:Model} {A:Around} {Q:Unit->Shared->Prop} {E:Value->Shared->Prop}
section
variable {X:Cx} {pins:List (Addr × Obj)} {σ : St} {s:Shared} {e:Addr}
theorem zqx {h':Heap} {args:List Value} (I:Inv X pins σ H s) (hm:s.heap.MadeExcOf h' e C args):H e=none/\Inv X pins σ (upd H e (.ext (zro C none e))) { s with heap:=h' }/\Fly C none e (upd H e (.ext (zro C none e))) h':=by
 have hn:=I.hok.none hm.new
 obtain ⟨t,he,_⟩:=hm.there
 have ne:∀ b o,s.heap.get? b=some o->b≠e:=fun b o q z=>by rw [z,hm.new] at q; cases q
 refine ⟨hn,?_,zaI,_,_,he,rfl,rfl,rfl,.inl rfl⟩
 refine I.un (t':=s.toks) (h':=h') ⟨fun b o q _ _ _=>hm.keeps b o q,fun b o q _ _ _=>⟨_,hm.keeps b o q⟩,fun b o q n _=>by rw [zav (ne b o q)]; exact n,fun b o q _=>⟨_,hm.keeps b o q⟩,fun b xs q=>by rw [zav (zaq q hn)]; exact q,fun b o u q=>by rw [zav (zaq q hn)]; exact q,fun b ps q=>⟨#[],by rw [zav (zaq q hn),q]; simp⟩⟩ fun b u q=>?_
 by_cases hb:b=e
 ·subst hb
  rw [zaI] at q
  cases q
  exact zq5 ⟨_,_,he,rfl,rfl,rfl⟩
 ·rw [zav hb] at q
  exact (I.hok b u q).stay (fun c v _ z=>hm.keeps c v z) (fun c z=>by rw [zav (zaq z hn)]; exact z) fun c xs z=>by rw [zav (zaq z hn)]; exact z
theorem zi9 (I:Inv X pins σ H s) (hk:X.stack=X.env::X.outer) (hA:A.frames=X.A.frames) (F:Fly C dd e H s.heap)
  (h:∀ s' H',s'.os=s.os->Same H H'->Inv X pins σ H' s'->Fly C dd e H' s'.heap->Q () s'):wpAny M A (noteFrame (.ref e) X.env) (fun _ s'=>wpAny M A (setFlight (.ref e) none) Q E s') E s:=by
 obtain ⟨te,o,vs,ho,hc,hdd,hd,hl⟩:=F
 have hf:X.env.frame=some X.env.locals:=by
  rcases I.ok.stk with z | ⟨_,z⟩
  ·rw [hk] at z
   have:=congrArg List.length z
   simp at this
  ·exact z
 have fr:A.frames=some (X.env::X.outer):=by rw [hA,<- hk]; exact I.ok.frames
 have ff:s.heap.FunFrames X.base (X.env::X.outer):=hk ▸ I.stack
 refine zmr fr ff hf ho hd (hl.imp id fun ⟨T,oT,ts,a,b,c,d,f,g⟩=>⟨T,oT,ts,a,b,d,f,g⟩) fun h' k1 k2 k3 k4 k5=>?_
 have hn:H s.heap.objs.size=none:=I.hok.fresh (Nat.le_refl _)
 have trk:∀ b,vs[1]?=some (.ref b)->H b=some (.ext (TbO b)):=fun b z=>by
  rcases hl with q | ⟨T,oT,ts,a,_,c,_⟩
  ·rw [q] at z; cases z
  ·rw [a] at z; cases z; exact c
 have nf:∀ b u,H b=some u->b ∉ frs (X.env::X.outer):=fun b u q z=>by
  have:=I.stkFree b (hk ▸ z)
  rw [q] at this; cases this
 obtain ⟨vs',he',hv'⟩:=k4
 obtain ⟨oT,ts,hT,hdT,h3⟩:=k5
 have exo:zro C dd e h':=⟨_,vs',he',hc,hdd,rfl⟩
 have ssz:∀ b o,s.heap.get? b=some o->b≠s.heap.objs.size:=fun b o q=>Nat.ne_of_lt (Heap.lt_size q)
 have un:Un (frs X.stack) [] H (upd H s.heap.objs.size (.ext (TbO s.heap.objs.size))) s.heap h':=by
  rw [hk]
  refine ⟨fun b u q n hb _=>k1 b u hb (fun z=>by rw [z,te] at n; cases n) (fun z=>by rw [trk b z] at n; cases n) q,fun b u q n hb _=>k2 b u (fun z=>by rw [z,te] at n; cases n) (fun z=>by rw [trk b z] at n; cases n) q,fun b u q n _=>by rw [zav (ssz b u q)]; exact n,fun b u q _=>?_,fun b xs q=>by rw [zav (zaq q hn)]; exact q,fun b o u q=>by rw [zav (zaq q hn)]; exact q,fun b ps q=>⟨#[],by rw [zav (zaq q hn),q]; simp⟩⟩
  by_cases hb:b=e
  ·rw [hb]; exact ⟨_,he'⟩
  ·by_cases hv:vs[1]?=some (.ref b)
   ·obtain ⟨o,_,q,_⟩:=k3 b hv
    exact ⟨o,q⟩
   ·obtain ⟨sl,q⟩:=k2 b u hb hv q
    exact ⟨_,q⟩
 have hok:HOk X.prog X.w (upd H s.heap.objs.size (.ext (TbO s.heap.objs.size))) h':=fun b u q=>by
  by_cases hb:b=s.heap.objs.size
  ·subst hb
   rw [zaI] at q
   cases q
   exact zsC ⟨oT,ts,hT,hdT⟩
  ·rw [zav hb] at q
   by_cases he:b=e
   ·subst he
    rw [te] at q
    cases q
    exact zq5 exo
   ·by_cases hv:vs[1]?=some (.ref b)
    ·rw [trk b hv] at q
     cases q
     exact zsC (k3 b hv)
    ·refine (I.hok b u q).stay (fun c v hc z=>?_) (fun c z=>by rw [zav (zaq z hn)]; exact z) fun c xs z=>by rw [zav (zaq z hn)]; exact z
     rcases hc with rfl | hc
     ·exact k1 c v (nf c u q) he hv z
     ·exact k1 c v (nf c _ hc) (fun z=>by rw [z,te] at hc; cases hc) (fun z=>by rw [trk c z] at hc; cases hc) z
 refine h _ _ rfl (MD.Same.new hn) (I.call (g':=s.gens) (t':=s.toks) (d':=s.drawn) un hok I.bare fun b z=>absurd z (by simp)) ⟨?_,_,vs',he',hc,hdd,rfl,.inr ⟨_,oT,ts,hv',?_,zaI,hT,hdT,h3⟩⟩
 ·rw [zav (zaq te hn)]; exact te
 ·exact (ssz e o ho).symm
theorem zow (I:Inv X pins σ H s) (hk:X.stack=X.env::X.outer) (hA:A.frames=X.A.frames) (F:Fly C dd e H s.heap)
  (h:∀ s' H',s'.os=s.os->Same H H'->Inv X pins σ H' s'->Fly C dd e H' s'.heap->Q () s'):wpAny M A (leaving X.env (.ref e)) Q E s:=by
 unfold leaving
 exact wpAny_bind (zi9 I hk hA F h)
def CXx (P:Program) (w:World):CXT:=fun outer H s E v s'=>∃ e C dd H',v = .ref e/\s'.os=s.os/\AllBare s'.gens/\Un (frs outer) [] H H' s.heap s'.heap/\HOk P w H' s'.heap/\Fly C dd e H' s'.heap/\E C dd H'
end
end L2
set_option autoImplicit false
namespace MD
open PySem PySem.Spec PyProof.Rows L2
def Res.pu {α : Type} (r:Res α):Res α := match r with
 | .exc _ _ => .bad
 | r=>r
def ePu (f:EV):EV:=fun ρ m=>(f ρ m).pu
def aPu (f:AV):AV:=fun ρ m=>(f ρ m).pu
def tPu (f:TV):TV:=fun ρ m=>(f ρ m).pu
def sPu (f:SV):SV:=fun ρ m=>(f ρ m).pu
variable {K:PySem.W.Frag} {cl:Str->Addr} {α : List Addr} {H:Hp}
theorem PQ.pu {ex:XD} {τ : Type} {r:Res τ} {R:RD τ} (h:PQ K cl ex r.pu α H R):PQ K cl X0 r α H R:=by
 cases r with
 | ok d m=>exact h
 | exc c m=>exact h.elim
 | bad=>exact h
def FlyC (K:PySem.W.Frag) (cl:Str->Addr) (c:Exc) (e:Addr) (α : List Addr) (H:Hp) (h:Heap):Prop:=∃ dd xs,PySem.W.nsIn K mainGlobals c.cls=some (some (.ref (cl c.cls)))/\Fly (.ref (cl c.cls)) dd e H h/\XdAt H dd xs/\RepL K α H c.args xs
def XP (X:Cx) (cl:Str->Addr) (pins:List (Addr × Obj)) (σ : L2.St) (W:XD) (v:Value) (s':Shared):Prop :=
 ∃ e H' c α' m',v = .ref e/\Inv X pins σ H' s'/\FlyC X.K cl c e α' H' s'.heap/\Wd X.K cl α' m' H'/\∀ α2 H2,Ext α' H' α2 H2->Wd X.K cl α2 m' H2->W c α2 m' H2
def XPs (X:Cx) (cl:Str->Addr) (pins:List (Addr × Obj)) (W:XD) (v:Value) (s':Shared):Prop:=∃ σ,XP X cl pins σ W v s'
section
variable (X:Cx) (cl:Str->Addr)
structure YE (e:Expr) (f:EV):Prop where
 out:∀ (pins:List (Addr × Obj)) (s:Shared) (σ : L2.St) (H:Hp) (Q:VK) (W:XD),Inv X pins σ H s->tD X.K cl W f σ H Q->wpAny (model X.prog X.w) X.A (eval e X.env) (EP X pins σ Q) (XP X cl pins σ W) s
structure YS (st:Stmt) (f:SV):Prop where
 out:∀ (pins:List (Addr × Obj)) (s:Shared) (σ : L2.St) (H:Hp) (D:Ends) (W:XD),Inv X pins σ H s->tDS X.K cl W f D σ H->wpAny (model X.prog X.w) X.A (exec st X.env) (SP X pins D) (XPs X cl pins W) s
structure YSs (st:List Stmt) (f:SV):Prop where
 out:∀ (pins:List (Addr × Obj)) (s:Shared) (σ : L2.St) (H:Hp) (D:Ends) (W:XD),Inv X pins σ H s->tDS X.K cl W f D σ H->wpAny (model X.prog X.w) X.A (execs st X.env) (SP X pins D) (XPs X cl pins W) s
end
variable {X:Cx} {es:List Expr} {pos p:Pos} {st:Stmt} {W:XD} {σ : L2.St} {pins:List (Addr × Obj)} {s:Shared}
section
variable {e:Expr} {f g:EV} {ta:TV} {fr:AV} {sts sts':List Stmt} {fs gs:SV}
theorem tDT.pu {Q:Bool->Hp->Prop} (h:tDT X.K cl W (tPu ta) σ H Q):tDT X.K cl X0 ta σ H Q:=ex3 h fun α ρ m W hr h=>⟨α,ρ,m,W,hr,PQ.pu h⟩
theorem tDS.pu {D:Ends} (h:tDS X.K cl W (sPu fs) D σ H):tDS X.K cl X0 fs D σ H:=ex3 h fun α ρ m W hr h=>⟨α,ρ,m,W,hr,PQ.pu h⟩
theorem zhJ (hx:X.xe=fun _ _=>False) (h:QS X cl X0 st fs):YS X cl st (sPu fs) :=
 ⟨fun pins s σ H D W I q=>wpAny_mono (h.out pins s σ H D I q.pu) (fun _ _ z=>z) fun _ _ z=>by rw [hx] at z; exact z.elim⟩
theorem zmQ:YSs X cl [] zbL:=⟨fun pins s σ H D W I hh=>ex3 hh fun α ρ m W hr h=>wpAny_execs_nil ⟨σ,H,I,PQ.ok W h σ hr⟩⟩
theorem zcm (h1:YS X cl st fs):YSs X cl [st] fs:=⟨fun pins s σ H D W I h=>by
 refine wpAny_execs_cons (thn (h1.out pins s σ H D W I h) fun f s1 q=>?_)
 cases f with
 | next=>exact wpAny_execs_nil q
 | ret v=>exact q
 | brk=>exact q
 | cont=>exact q⟩
theorem zcC (h1:YS X cl st fs) (h2:YSs X cl sts gs):YSs X cl (st::sts) (zaw fs gs):=⟨fun pins s σ H D W I hh=>by
 refine wpAny_execs_cons (thn (h1.out pins s σ H { D with nx:=fun σ1 H1=>tDS X.K cl W gs D σ1 H1 } W I ?_) fun f s1 q=>?_)
 ·exact ex3 hh fun α ρ m W0 hr h=>⟨α,ρ,m,W0,hr,PQ.mono (Ext.refl W0) h.bind fun fl α1 m1 H1 E1 W1 q=>by
   cases fl with
   | nx ρ1=>exact fun σ1 hr1=>⟨α1,ρ1,m1,W1,hr1,q⟩
   | rt d=>exact PQ.ok W1 q
   | bk ρ1=>exact PQ.ok W1 q
   | ct ρ1=>exact PQ.ok W1 q⟩
 ·cases f with
  | next =>
   obtain ⟨σ',H',I',q⟩:=q
   exact h2.out pins s1 σ' H' D W I' q
  | ret v=>exact q
  | brk=>exact q
  | cont=>exact q⟩
structure YB (X:Cx) (cl:Str->Addr) (st:Stmt) (f:SV):Prop where
 out:∀ (pins:List (Addr × Obj)) (s:Shared) (σ : L2.St) (H:Hp) (D:Ends) (W:XD),Inv X pins σ H s->tDS X.K cl W f D σ H->wpAny (model X.prog X.w) X.A (exec st X.env) (SP X pins D) (XP X cl pins σ W) s
theorem XP.up {v:Value} (h:XP X cl pins σ W v s):XPs X cl pins W v s:=⟨σ,h⟩
theorem zpB (hx:X.xe=fun _ _=>False) {c:Expr} (hc:QT X cl X0 c ta) (ha:YSs X cl sts fs) (hb:YSs X cl sts' gs):YS X cl (.If c sts sts' pos) (sIf (tPu ta) fs gs):=⟨fun pins s σ H D W I hh=>by
 refine wpAny_If (wpAny_mono (hc.out pins s σ H (fun b H1=>tDS X.K cl W (if b=true then fs else gs) D σ H1) I ?_) (fun d s1 ⟨H1,I1,q1⟩=>?_) fun _ _ z=>by rw [hx] at z; exact z.elim)
 ·refine tDT.pu (W:=W) (ex3 hh fun α ρ m W0 hr h=>tDT.use W0 hr h fun α1 m1 H1 d E1 W1 hr1 h1=>⟨α1,ρ,m1,W1,hr1,?_⟩)
  cases d <;> exact h1
 ·cases d with
  | true=>exact ha.out pins s1 σ H1 D W I1 q1
  | false=>exact hb.out pins s1 σ H1 D W I1 q1⟩
theorem zeg (he:YE X cl e f) (hs:autoParam (swapsWith e none pos.line X.env=pure false) AutoP.a3._auto_1):YB X cl (.Expr e pos) (zbi f):=⟨fun pins s σ H D W I hh=>by
 refine wpAny_Expr_any (wpAny_mono (he.out pins s σ H (fun _ H1=>D.nx σ H1) W I (ex3 hh fun α ρ m W hr h=>tD.use W hr h fun α1 m1 H1 d v E1 W1 hr1 rv h1=>PQ.ok W1 h1 _ hr1)) (fun v s1 ⟨x,H1,I1,r1,q1⟩=>⟨σ,H1,I1,q1⟩) fun _ _ z=>z) I.quiet hs⟩
end
theorem YB.ys {f:SV} (h:YB X cl st f):YS X cl st f:=⟨fun pins s σ H D W I q=>wpAny_mono (h.out pins s σ H D W I q) (fun _ _ z=>z) fun _ _ z=>z.up⟩
def exE (K:PySem.W.Frag) (cl:Str->Addr) (E:XK):XD:=fun c α' _ H'=>∀ dd xs,PySem.W.nsIn K mainGlobals c.cls=some (some (.ref (cl c.cls)))->XdAt H' dd xs->RepL K α' H' c.args xs->E (.ref (cl c.cls)) dd H'
def spX (K:PySem.W.Frag) (cl:Str->Addr) (n:Nat) (g:List D->Sto->Res D):Sp:=fun vs H Q E=>vs.length=n/\∃ α m ds,Wd K cl α m H/\RepL K α H ds vs/\PQ K cl (exE K cl E) (g ds m) α H fun d α' _ H'=>∀ v,Rep K α' H' d v->Q v H'
variable {n:Nat} {N:List Str} {body:SV} {vs:List V} {Q:VK}
theorem fn_x {E:XK} (h:spX K cl n (zaY N.length body) vs H Q E):tDS K cl (exE K cl E) body { nx:=fun _ H'=>Q .non H',rt:=Q } (L2.start N vs) H:=by
 obtain ⟨_,α,m,ds,W,r,q⟩:=h
 refine ⟨α,_,m,W,zhl r,PQ.mono (Ext.refl W) q.bind fun fl α1 m1 H1 E1 W1 q1=>?_⟩
 cases fl with
 | nx ρ => exact fun σ _=>PQ.ok W1 q1 _ (by rw [Rep])
 | rt d=>exact PQ.ok W1 q1
 | bk ρ => exact q1.elim
 | ct ρ => exact q1.elim
variable {x:Str} {f:Addr} {fd:FuncData} {ps:List Str}
theorem fn_okx {P:Program} {w:World} {mg:Str->Option Value} {base:Heap} {qual:Str} {k:Nat} (F:Fun K x qual st f fd) (S:FnScope N ps (zah st)) (hn:n=ps.length)
  (h:∀ (cdv:Value) (A:Around) (outer:List PySem.Env) (s:Shared) (H:Hp) (E:XK),Room k (A.deeper (envOfC qual (zah st) s.heap.objs.size f cdv))->YSs (zkF (CXx P w) P w K mg base N qual (zah st) f cdv A outer s H E).nox cl (zbe st) body):FnOk P w K mg base (CXx P w) (k+1) f fd ps (spX K cl n (zaY N.length body)):=by
 obtain ⟨oc,od,kV,doc,pm,an,cdv,ct,osl,rfl,lk,hcd⟩:=F.ex
 refine fn_of lk hcd S (fun vs H Q E h=>by rw [<- hn]; exact h.1) fun A outer s H vs Q E hr hsp=>?_
 refine ⟨fun D σ H1=>tDS K cl (exE K cl E) body D σ H1,fun pins s1 σ H1 D I hw=>?_,fn_x hsp⟩
 refine wpAny_mono ((h cdv A outer s H E hr).out pins s1 σ H1 D (exE K cl E) (I.wish _) hw) (fun _ _ q=>q.unwish) fun v s2 hv=>?_
 obtain ⟨σ',e,H',c,α',m',rfl,I',⟨dd,xs,hns,F,hxd,hrl⟩,Wd',hW⟩:=hv
 have I2:=I'.unwish
 refine zow I2 rfl rfl F fun s3 H3 hos sm I3 F3=>?_
 have Es:=Ext.of_same Wd' sm
 exact ⟨e,_,dd,H3,rfl,I3.os,I3.bare,I3.base,I3.hok,F3,hW α' H3 Es (Wd'.same sm) dd xs hns ((Es.kp Wd').xdAt hxd) (hrl.mono Wd' Es)⟩
section
variable {e:Expr} {fr:AV} {k:Nat} {g:List D->Sto->Res D}
theorem zrN {us:List Value} {m:Sto} {ds:List D} (F:FnOk X.prog X.w X.K X.mg X.base (CXx X.prog X.w) k f fd ps (spX X.K cl n g)) (hr:Room k X.A) (hb:Binds X.K fd ps [])
  (I:Inv X pins σ H s) (r:Vals vs us) (hn:vs.length=n) (W0:Wd X.K cl α m H) (rd:RepL X.K α H ds vs) (q:PQ X.K cl W (g ds m) α H fun d α' _ H'=>∀ v,Rep X.K α' H' d v->Q v H'):wpAny (model X.prog X.w) X.A (call (.ref f) us) (EP X pins σ Q) (XP X cl pins σ W) s:=by
 let E:XK:=fun C dd H2=>∃ c α2 m2 xs,C = .ref (cl c.cls)/\PySem.W.nsIn X.K mainGlobals c.cls=some (some (.ref (cl c.cls)))/\XdAt H2 dd xs/\RepL X.K α2 H2 c.args xs/\Wd X.K cl α2 m2 H2/\∀ α3 H3,Ext α2 H2 α3 H3->Wd X.K cl α3 m2 H3->W c α3 m2 H3
 have hq:PQ X.K cl (exE X.K cl E) (g ds m) α H fun d α' _ H'=>∀ v,Rep X.K α' H' d v->Q v H':=by
  cases hg:g ds m with
  | ok d m1=>rw [hg] at q; exact q
  | bad=>rw [hg] at q; exact q
  | exc c m1 =>
   rw [hg] at q
   exact fun α2 H2 E2 W2 dd xs h1 h2 h3=>⟨c,α2,m1,xs,rfl,h1,h2,h3,W2,fun α3 H3 E3 W3=>q α3 H3 (E2.trans E3) W3⟩
 have h:spX X.K cl n g vs H Q E:=⟨hn,α,m,ds,W0,rd,hq⟩
 have hl:us.length=ps.length:=by rw [<- r.length]; exact F.len _ _ _ _ h
 refine wpAny_call (codeAny_mono (F.run X.A X.stack s H ⟨us,[]⟩ us vs Q E hr I.env0 (by have:=hb s us I.kIn (by simpa using hl); simpa using this) r h) fun r s' hq=>?_)
 cases r with
 | error v =>
  obtain ⟨e,C,dd,H',rfl,os,bare,un,hok,F,c,α2,m2,xs,rfl,h1,h2,h3,h4,h5⟩:=hq
  exact ⟨e,H',c,α2,m2,rfl,I.call' (ch:=[]) os un hok bare (fun b z=>absurd z (by simp)),⟨dd,xs,h1,F,h2,h3⟩,h4,h5⟩
 | ok fl =>
  cases fl with
  | ret u=>exact I.after hq
  | next=>exact False.elim hq
  | brk=>exact False.elim hq
  | cont=>exact False.elim hq
end
end MD
set_option autoImplicit false
namespace L2
open PySem PySem.Spec PyProof.Rows MD
variable {M:Model} {A:Around} {s:Shared} {E:Value->Shared->Prop}
theorem Looks.go {α : Type} {t:Sem α} {r:α} {Q:α -> Shared->Prop} (h:PySem.W.Looks M s.heap t r) (q:Q r s):wpAny M A t Q E s:=h A Q E s (fun _ _ z=>z) q
theorem zsZ:builtinKind "BaseException.__getattribute__" = some .slot:=by kernel_rfl
theorem zqI:splitId "BaseException.__getattribute__" = some ("BaseException", "__getattribute__"):=by kernel_rfl
theorem zs1 (a b:Value):argsOk "BaseException.__getattribute__" { pos:=[a,b] }:=by kernel_rfl
theorem zqJ:entryFor table "BaseException.__getattribute__" = some Builtin.«object.__getattribute__» := by kernel_rfl
structure ExA (K:PySem.W.Frag) (C:Addr):Prop where
 ga:PySem.W.findIn K (.ref C) "__getattribute__" = some (some (.builtin "BaseException.__getattribute__"))
 no:PySem.W.findIn K (.ref C) "__getattr__" = some none
 sub:PySem.W.subIn K (.ref C) (.type "BaseException")=some true
 obj:PySem.W.mroIn K C (.type "object")=some true
 cls:∀ od,PySem.W.findObj K C od "__class__" = some (.bind (.builtin "getset_descriptor.__get__") (.builtin "object.__class__"))
variable {prog:Program} {K:PySem.W.Frag} {C:Addr} {oe:Obj} {od:Option Obj} {tk:Tok}
theorem ga_run {w:World} {e:Addr} {Q:PySem.Fin->Shared->Prop} (kin:K.In s.heap) (F:ExA K C) (hi:PySem.W.InstAt s.heap e oe C od) (q:Q (.done (.ret (.ref C))) s):wpAny (model prog w) A (Builtin.«object.__getattribute__» { pos:=[.ref e,.str "__class__" tk] }) Q E s:=by
 unfold Builtin.«object.__getattribute__»
 refine wpAny_bind (wpAny_pure ?_)
 refine wpAny_bind (wpAny_pure ?_)
 refine wpAny_bind (wpAny_typeOf_ref hi.at_ ?_)
 rw [hi.cls]
 refine wpAny_bind (Looks.go (PySem.W.looks_find (h:=s.heap) kin hi (F.cls od)) ?_)
 show wpAny (model prog w) A (holding [_] (call _ [_,_,_]) >>= _) _ _ _
 exact wpAny_bind (wpAny_holding (wpAny_call (PySem.W.class_get kin hi F.obj (wpAny_pure q))))
theorem zs0 {w:World} {R:Result->Shared->Prop} {e:Addr} (kin:K.In s.heap) (F:ExA K C) (hi:PySem.W.InstAt s.heap e oe C od) (q:R (.ok (.ret (.ref C))) s):codeAny (model prog w) A (Code.call (.builtin "BaseException.__getattribute__") { pos:=[.ref e,.str "__class__" tk] }) R s:=by
 have ha:=zs1 (.ref e) (.str "__class__" tk)
 refine codeAny_call_builtin PySem.F.attrBase_ValueError.toExcAttrFacts.ga.plain zqJ ?_
 refine PySem.W.check_slot (i := "BaseException.__getattribute__") (owner := "BaseException") (n := "__getattribute__") (self := .ref e) (rest:=[.str "__class__" tk]) (kw:=[]) zsZ zqI ?_ ha ?_
 ·refine fun A Q E s1 hs q=>?_
  unfold isInstance
  refine wpAny_bind (wpAny_typeOf_ref (hs _ _ hi.at_) ?_)
  rw [hi.cls]
  exact PySem.W.looks_subIn kin F.sub A Q E s1 hs q
 ·exact ga_run kin F hi q
theorem zo1 {w:World} {e:Addr} {Q:Option Value->Shared->Prop} (kin:K.In s.heap) (F:ExA K C) (hi:PySem.W.InstAt s.heap e oe C od) (q:Q (some (.ref C)) { s with toks:=s.toks+1 }):wpAny (model prog w) A (getAttr? (.ref e) "__class__") Q E s:=by
 have he:=hi.at_
 have hc:=hi.cls
 unfold getAttr?
 refine wpAny_bind (wpAny_mkText ?_)
 unfold getAttrBy?
 refine wpAny_bind (wpAny_attempt ?_)
 unfold getAttrBy
 refine wpAny_holding ?_
 refine wpAny_bind (wpAny_typeOf_ref (s:={ s with toks:=s.toks+1 }) he ?_)
 rw [hc]
 refine wpAny_bind (Looks.go (PySem.W.looks_findIn (h:=s.heap) kin F.ga) ?_)
 show wpAny (model prog w) A (getAttrByItsOwn _ _ _ _ _ _) _ _ _
 unfold getAttrByItsOwn
 refine wpAny_bind (Looks.go (PySem.W.looks_hook (h:=s.heap) kin (r:=none) F.no) ?_)
 refine wpAny_bind (wpAny_attempt (wpAny_holding ?_))
 show wpAny (model prog w) A (boundAndCalled _ _ _) _ _ _
 unfold boundAndCalled
 rw [PySem.F.attrBase_ValueError.toExcAttrFacts.ga.bind]
 refine wpAny_bind (wpAny_pure ?_)
 refine wpAny_call (pos:=[.ref e,.str "__class__" s.toks]) (zs0 (s:={ s with toks:=s.toks+1 }) kin F hi ?_)
 show wpAny (model prog w) A (handedOut (.ref C)) _ _ _
 exact wpAny_pure (wpAny_pure q)
abbrev Cx.marked (X:Cx) (e:Addr):Cx:={ X with A:=X.A.mark (some (.ref e)),calm:=false }
variable {Q:Unit->Shared->Prop}
section
variable {X:Cx} {pins:List (Addr × Obj)} {σ : St} {H:Hp} {C:Value} {dd:Option Addr} {e:Addr}
theorem Inv.mark (I:Inv X pins σ H s) (e:Addr):Inv (X.marked e) pins σ H s :=
 ⟨⟨I.ok.mod,I.ok.kind,I.ok.glob,I.ok.blt,I.ok.above,I.ok.inj,I.ok.has,I.ok.cab,(fun z=>nomatch z),I.ok.frames,I.ok.stk,I.ok.exf,I.ok.bs,I.ok.bsz,I.ok.noex,I.ok.exfs,I.ok.funs,I.ok.frf⟩,I.os,I.bare,I.base,I.loc,I.cell,I.free,I.freeC,I.pin,I.hok,I.len⟩
theorem Inv.unmark (I:Inv (X.marked e) pins σ H s) (h:X.calm=true->X.A.handled=none):Inv X pins σ H s :=
 ⟨⟨I.ok.mod,I.ok.kind,I.ok.glob,I.ok.blt,I.ok.above,I.ok.inj,I.ok.has,I.ok.cab,h,I.ok.frames,I.ok.stk,I.ok.exf,I.ok.bs,I.ok.bsz,I.ok.noex,I.ok.exfs,I.ok.funs,I.ok.frf⟩,I.os,I.bare,I.base,I.loc,I.cell,I.free,I.freeC,I.pin,I.hok,I.len⟩
theorem zmC (I:Inv X pins σ H s) (F:Fly C dd e H s.heap) (h:∀ s',s'.os=s.os->Inv X pins σ H s'->Q () s'):wpAny M A (setFlight (.ref e) none) Q E s:=by
 obtain ⟨te,o,vs,ho,hc,hdd,hd,hl⟩:=F
 unfold setFlight
 rcases hl with hv | ⟨T,oT,ts,hv,ne,tT,hT,hdT,h3⟩
 ·exact wpAny_bind (wpAny_field ho hd hv (wpAny_pure (h s rfl I)))
 ·refine wpAny_bind (wpAny_field ho hd hv ?_)
  have h3':3 < ts.size:=(Array.getElem?_eq_some_iff.mp h3).1
  show wpAny M A (setField (.ref T) 3 .none) Q E s
  refine wpAny_setField hT hdT h3' (h _ rfl ?_)
  have e1:upd H T (.ext (TbO T))=H:=by
   funext b
   by_cases hb:b=T
   ·rw [hb,zaI,tT]
   ·rw [zav hb]
  have:=I.write (x:=T) (e:=T) (o := .ext (TbO T)) (t':=s.toks) (h':=s.heap.update T (Obj.mapFields fun z=>z.setIfInBounds 3 .none)) (by rw [tT]; trivial) (.inl rfl) (fun b u hb q=>by rw [Heap.get?_update_ne _ _ _ _ hb]; exact q) ⟨_,zdb hT hdT⟩ (zsC ⟨_,_,zdb hT hdT,rfl⟩)
  rw [e1] at this
  exact this
theorem zmV {i:Nat} {x:Str} {v:V} (I:Inv X pins σ H s) (hN:X.N.Nodup) (hi:X.N[i]?=some x) (hk:X.env.scope.names.lookup x=some .local) (hv:σ[i]?=some (some v)) (h:∀ s',Inv X pins (σ.set i none) H s'->Q () s'):wpAny M A (unbindName X.env x) Q E s:=by
 obtain ⟨m,hn,hl⟩:=id I.loc
 have hcls:(X.env.scope.kind == .class || (X.env.scope.kind == .module && X.env.locals != X.env.globals))=false:=by rw [I.ok.kind]; rfl
 have hiσ : i < σ.length:=by rw [I.len]; exact (List.getElem?_eq_some_iff.mp hi).1
 have cne:=I.cne
 obtain ⟨u0,_,lk⟩:=hl i x v hi hv (.inl hk)
 have hm:m x=some u0:=by
  rcases lk with ⟨_,z⟩ | ⟨z,_⟩
  ·exact z
  ·have z':X.env.scope.names.lookup x=some .cell∨X.env.scope.names.lookup x=some .free:=z
   rw [hk] at z'
   rcases z' with z | z <;> cases z
 refine wpAny_unbindName_local hk hn hm hcls fun h' u hn' hs=>?_
 obtain ⟨oL,_,_,hoL,_⟩:=id hn
 have tracked:HOk X.prog X.w H h':=fun b ob e=>by
  refine (I.hok b ob e).stay (fun c w' hc q=>(hs.2 c ?_).trans q) (fun _ q=>q) fun _ _ q=>q
  rintro rfl
  rcases hc with rfl | hc
  ·rw [I.free] at e; cases e
  ·rw [I.free] at hc; cases hc
 refine h _ ⟨I.ok,I.os,I.bare,⟨fun b o e n hb hx=>?_,fun b o e n hb hx=>?_,I.base.free,fun b o e hx=>?_,I.base.tups,I.base.frzs,I.base.tbls⟩,⟨_,hn',fun j y v' e1 e2 e3=>?_⟩,fun y c e=>?_,I.free,I.freeC,fun p hp=>?_,tracked,by simpa using I.len⟩
 ·exact (hs.2 b (Nat.ne_of_lt (Nat.lt_of_lt_of_le (Heap.lt_size e) I.ok.above))).trans (I.base.keep b o e n hb hx)
 ·obtain ⟨sl,e1⟩:=I.base.slot b o e n hb hx
  exact ⟨sl,(hs.2 b (Nat.ne_of_lt (Nat.lt_of_lt_of_le (Heap.lt_size e) I.ok.above))).trans e1⟩
 ·obtain ⟨o',e1⟩:=I.base.there b o e hx
  exact ⟨o',(hs.2 b (Nat.ne_of_lt (Nat.lt_of_lt_of_le (Heap.lt_size e) I.ok.above))).trans e1⟩
 ·by_cases hj:j=i
  ·subst hj
   rw [List.getElem?_set_self hiσ] at e2
   cases e2
  ·rw [List.getElem?_set_ne (Ne.symm hj)] at e2
   obtain ⟨u',r',q⟩:=hl j y v' e1 e2 e3
   refine ⟨u',r',?_⟩
   rcases q with ⟨k,e⟩ | ⟨k,c,e,z⟩
   ·refine .inl ⟨k,?_⟩
    have:y≠x:=fun e=>hj (zik hN e1 (e ▸ hi))
    simp [this,e]
   ·exact .inr ⟨k,c,e,z.sameBut hs (cne y c e)⟩
 ·obtain ⟨w',z⟩:=I.cell y c e
  exact ⟨w',z.sameBut hs (cne y c e)⟩
 ·obtain ⟨e,n,ne,nf,d⟩:=I.pin p hp
  exact ⟨(hs.2 p.1 ne).trans e,n,ne,nf,d⟩
end
theorem zkt {e D:Addr} {b:Bool} {Q:Bool->Shared->Prop} (kin:K.In s.heap) (he:s.heap.get? e=some oe) (hc:oe.cls = .ref C) (h1:PySem.W.subIn K (.ref D) (.type "BaseException")=some true) (h2:PySem.W.typeIn K (.ref D)=some (.type "type")) (h3:(PySem.W.clsIn K D).isSome=true) (h4:PySem.W.subIn K (.ref C) (.ref D)=some b) (q:Q b s):wpAny M A (excMatches (.ref e) (.ref D)) Q E s:=by
 have hD:∃ o cd,s.heap.get? D=some o/\o.data = .cls cd:=by
  unfold PySem.W.clsIn at h3
  split at h3
  ·rename_i c d cd sl hl
   exact ⟨_,cd,kin _ _ hl,rfl⟩
  ·cases h3
 obtain ⟨oD,cd,hD,hdD⟩:=hD
 unfold excMatches
 refine wpAny_bind ?_
 unfold isInstance
 refine wpAny_bind (Looks.go (PySem.W.looks_typeIn (h:=s.heap) kin h2) ?_)
 rw [show isSubtype (.type "type") (.type "tuple")=pure false from rfl]
 refine wpAny_pure (wpAny_bind (wpAny_pure ?_))
 show wpAny M A (forIn [Value.ref D] PUnit.unit _ >>= _) Q E s
 rw [List.forIn_cons]
 refine wpAny_bind (wpAny_bind (wpAny_bind ?_))
 unfold isExcClass isType loadHead
 refine wpAny_bind (wpAny_bind (wpAny_loadPart hD ?_))
 rw [hdD]
 refine wpAny_pure ?_
 refine Looks.go (PySem.W.looks_subIn (h:=s.heap) kin h1) ?_
 refine wpAny_pure ?_
 show wpAny M A (forIn ([]:List Value) PUnit.unit _) _ E s
 rw [List.forIn_nil]
 refine wpAny_pure (wpAny_bind (wpAny_typeOf_ref he ?_))
 rw [hc,List.forIn_cons]
 refine wpAny_bind (wpAny_bind (wpAny_bind (Looks.go (PySem.W.looks_subIn (h:=s.heap) kin h4) ?_)))
 cases b with
 | true=>exact wpAny_pure (wpAny_pure (wpAny_pure q))
 | false =>
  refine wpAny_pure ?_
  show wpAny M A (forIn ([]:List Value) (none,()) _) _ E s
  rw [List.forIn_nil]
  exact wpAny_pure (wpAny_pure q)
end L2
set_option autoImplicit false
namespace MD
open PySem PySem.Spec PyProof.Rows L2
structure TxE (K:PySem.W.Frag) (cl:Str->Addr) (es rs:List Str):Prop where
 ns:∀ c∈es,PySem.W.nsIn K mainGlobals c=some (some (.ref (cl c)))
 tab:zre K es=true
 rai:zrf K rs=true
 sub:∀ c∈rs,c∈es
variable {K:PySem.W.Frag} {cl:Str->Addr} {es:List Str} {c:Str} {C:Addr}
section
variable {rs:List Str} {d:Str}
theorem TxE.row (T:TxE K cl es rs) (hc:c∈es):askB K (cl c)=true/\PySem.W.kitOne K (.ref (cl c)) (.type "ValueError")=some true/\PySem.W.kitOne K (.type "NoneType") (.ref (cl c))=some false/\∀ d∈es,PySem.W.kitOne K (.ref (cl c)) (.ref (cl d))=some (isX c d)/\PySem.W.subIn K (.ref (cl c)) (.ref (cl d))=some (isX c d):=by
 have h:=List.all_eq_true.mp T.tab c hc
 rw [T.ns c hc] at h
 simp only [Bool.and_eq_true,beq_iff_eq] at h
 obtain ⟨⟨⟨h1,h2⟩,h3⟩,h4⟩:=h
 refine ⟨h1,h2,h3,fun d hd=>?_⟩
 have h:=List.all_eq_true.mp h4 d hd
 rw [T.ns d hd] at h
 simpa only [Bool.and_eq_true,beq_iff_eq] using h
theorem zqS (h:askB K C=true):ExA K C:=by
 unfold askB at h
 simp only [Bool.and_eq_true,beq_iff_eq] at h
 obtain ⟨⟨⟨⟨⟨⟨⟨⟨h1,h2⟩,h3⟩,h4⟩,h5⟩,h6⟩,h7⟩,h8⟩,h9⟩:=h
 refine ⟨h1,h2,h3,h4,fun od=>?_⟩
 obtain ⟨cd,hcd⟩:=Option.isSome_iff_exists.mp h5
 unfold PySem.W.findObj
 rw [hcd,Option.bind_some,h6,Option.bind_some]
 simp only [h7,Option.bind_some,h8]
theorem TxE.exa (T:TxE K cl es rs) (hc:c∈es):ExA K (cl c):=zqS (T.row hc).1
theorem zo0 {h:Heap} {bmB:List Value} {newId:String} (kin:K.In h) (x:PySem.W.excIn K C bmB newId=true):∃ nm q N bs bm hdct sn sub ab col dd k0 k1 k2 k3 k5,∃ mN:Str->Option Value,
  h.get? C=some (excClassObj nm q C N bs bm hdct sn sub ab col dd k0 k1 k2 k3 k5 newId)/\h.Ns N mN/\mN "__init__" = none/\OwnTail h bmB bm:=by
 unfold PySem.W.excIn at x
 split at x
 ·rename_i dd cd sl hl
  split at x
  ·rename_i C' bm k0 k1 k2 k3 n k5 hm hs
   simp only [Bool.and_eq_true,beq_iff_eq,Bool.not_eq_true'] at x
   obtain ⟨⟨⟨⟨⟨e1,e2⟩,e3⟩,e4⟩,e5⟩,e6⟩:=x
   subst e1 e2
   have hg:=kin _ _ hl
   obtain ⟨nm,bs,mro,N,q,hd,sn,sub,ab,col,del⟩:=cd
   obtain ⟨sl⟩:=sl
   simp only at hm hs e3 e5 e6
   subst hm hs e3
   exact ⟨nm,q,N,bs,bm,hd,sn,sub,ab,col,dd,k0,k1,k2,k3,k5,h.nsMap N,hg,Heap.Ns.of_isNs (PySem.W.isNs_of_in kin e5),PySem.W.nsMap_none_of_in kin e5 e6,PySem.W.tail_of_in kin e4⟩
  ·cases x
 ·cases x
theorem TxE.exc (T:TxE K cl es rs) (hc:c∈rs):PySem.W.excIn K (cl c) bmV "ValueError.__new__" = true:=by
 have h:=List.all_eq_true.mp T.rai c hc
 rw [T.ns c (T.sub c hc)] at h
 exact h
end
def zni (c:Str) (fr:AV):SV:=fun ρ m=>(fr ρ m).bind fun _ m1 => .exc ⟨c,[]⟩ m1
variable {X:Cx} {as:List Expr} {np pos:Pos} {x:Str}
section
variable {rs:List Str} {e:Expr} {fr:AV} {cpos:Pos}
theorem zhK (hx:X.xe=fun _ _=>False) (hc:X.calm=true) (T:TxE X.K cl es rs) (hr:x∈rs) (hg:Gl X x) (ha:QA X cl X0 (e::as) fr) (hlen:∀ ρ m ds m1,fr ρ m = .ok ds m1->ds.length=(e::as).length) (hsz:autoParam ((e::as).length<=sizeLine) AutoP.a1._auto_1) (hdb:autoParam ((x == ("__debug__" : Str))=false) AutoP.a1._auto_1)
  (he:autoParam (starEach (e::as) X.env=(false,eval e X.env)::starEach as X.env) AutoP.a3._auto_1) (hpl:autoParam ((backTo cpos (starEach as X.env)).any (·.1)=false) AutoP.a3._auto_1):YB X cl (.Raise (some (.Call (.Name x np) (e::as) [] cpos)) none pos) (zni x (aPu fr)):=⟨fun pins s σ H D W I hh=>by
 have hm:X.mg x=some (.ref (cl x)):=PySem.W.mg_of I.mod.kin I.mod.glob (T.ns x (T.sub x hr))
 obtain ⟨nm,q,N,bs,bm,hdct,sn,sub,ab,col,dd,k0,k1,k2,k3,k5,mN,h1,h2,h3,h4⟩:=zo0 I.mod.kin (T.exc hr)
 have hbm:bm.contains (.type "BaseException")=true:=by
  have:=(T.exa (T.sub x hr)).sub
  have hl:∃ o,X.K.lookup (cl x)=some o/\o=(excClassObj nm q (cl x) N bs bm hdct sn sub ab col dd k0 k1 k2 k3 k5 "ValueError.__new__"):=by
   have:=T.exc hr
   unfold PySem.W.excIn at this
   split at this
   ·rename_i z
    have z':=I.mod.kin _ _ z
    rw [h1] at z'
    exact ⟨_,z,(Option.some.inj z').symm⟩
   ·cases this
  obtain ⟨o,hl,rfl⟩:=hl
  have e1:PySem.W.clsIn X.K (cl x)=some { name:=nm,bases:=bs,mro:=Value.ref (cl x)::bm,ns:=N,qualname:=q,hasDict:=hdct,slotNames:=sn,subclasses:=sub,abstract:=ab,collection:=col }:=by
   unfold PySem.W.clsIn
   rw [hl]
  have e2:PySem.W.mroIn X.K (cl x) (.type "BaseException")=some true:=this
  unfold PySem.W.mroIn at e2
  rw [e1,Option.bind_some] at e2
  simpa using e2
 refine wpAny_Raise_call_subT (nm:=nm) (q:=q) (C:=cl x) (N:=N) (bs:=bs) (hdct:=hdct) (sn:=sn) (sub:=sub) (ab:=ab) (col:=col) (dd:=dd) (k0:=k0) (k1:=k1) (k2:=k2) (k3:=k3) (k5:=k5) PySem.F.excBase_ValueError hbm (I.ok.hd hc) (by rw [he]; exact hpl) h3 (zfh I hg hm ?_ hdb)
 refine ⟨rfl,?_⟩
 rw [he]
 refine PySem.Calls.evalArgs_plain ?_
 have ha':=ha.out cpos pins s σ H (fun vs H1=>∃ α1 m1,Wd X.K cl α1 m1 H1/\vs.length=(e::as).length/\PQ X.K cl W (.exc ⟨x,[]⟩ m1:Res Fl) α1 H1 fun fl α' _ H'=>zdO X.K D fl α' H') I (ex3 hh fun α ρ m W0 hr h=>by
  have h':PQ X.K cl W ((aPu fr ρ m).bind fun _ m1=>(.exc ⟨x,[]⟩ m1:Res Fl)) α H fun fl α' _ H'=>zdO X.K D fl α' H':=h
  unfold aPu at h'
  cases hf:fr ρ m with
  | bad=>rw [hf] at h'; exact h'.elim
  | exc c m1=>rw [hf] at h'; exact h'.elim
  | ok ds m1 =>
   rw [hf] at h'
   exact tDA.at W0 hr hf fun α1 H1 v E1 W1 hr1 rv=>⟨α1,m1,W1,by rw [<- rv.length,hlen ρ m ds m1 hf],fun α2 H2 E2 W2=>h' α2 H2 (E1.trans E2) W2⟩)
 rw [he] at ha'
 refine wpAny_mono ha' (fun us s1 ⟨vs,H1,I1,r,α1,m1,W1,hl,q⟩=>⟨rfl,by rw [<- r.length,hl]; exact hsz,I1.bk _ _ h1,h2.keeps I1.bk,h4.keeps I1.bk,fun h' a hmade=>?_⟩) fun _ _ z=>by rw [hx] at z; exact z.elim
 obtain ⟨hn,I2,F2⟩:=zqx I1 hmade
 have sm:Same H1 _:=Same.new (o := .ext (zro (.ref (cl x)) none a)) hn
 have Es:=Ext.of_same W1 sm
 exact ⟨a,_,⟨x,[]⟩,α1,m1,rfl,I2,⟨none,[],T.ns x (T.sub x hr),F2,.inl ⟨rfl,rfl⟩,by rw [RepL]⟩,W1.same sm,fun α2 H2 E2 W2=>q α2 H2 (Es.trans E2) W2⟩⟩
end
def zs2 (i:Nat) (fl:Fl):Fl:=match fl with
 | .nx ρ => .nx (ρ.set i none)
 | .rt d => .rt d
 | .bk ρ => .bk (ρ.set i none)
 | .ct ρ => .ct (ρ.set i none)
def zrL (es:List Str) (h:Str) (fb:SV) (i:Nat) (fs:SV):SV:=fun ρ m=>match fb ρ m with
 | .ok fl m1 => .ok fl m1
 | .bad => .bad
 | .exc c m1=>if (es.contains c.cls && isX c.cls h)=true then (fs (ρ.set i (some (.exn c.cls c.args))) m1).bind fun fl m2 => .ok (zs2 i fl) m2 else .bad
variable {α : List Addr} {H:Hp} {σ : L2.St} {i:Nat}
theorem RepE.drop {ρ : En} (h:RepE K α H ρ σ):RepE K α H (ρ.set i none) (σ.set i none):=by
 refine ⟨by rw [List.length_set,List.length_set,h.len],fun j e hj=>?_⟩
 by_cases hij:i=j
 ·subst hij
  have hl:i < ρ.length:=by
   have:=(List.getElem?_eq_some_iff.mp hj).1
   rwa [List.length_set] at this
  rw [List.getElem?_set_self hl] at hj
  cases hj
 ·rw [List.getElem?_set_ne hij] at hj ⊢
  exact h.at' j e hj
section
variable {rs:List Str} {h n:Str} {bst b0:Stmt} {suite:List Stmt} {fb fs:SV} {hp:Pos}
theorem qs_try (hx:X.xe=fun _ _=>False) (hk:X.stack=X.env::X.outer) (T:TxE X.K cl es rs) (hh:h∈es) (hg:Gl X h) (hN:X.N.Nodup) (hi:X.N[i]?=some n) (hl:X.env.scope.names.lookup n=some .local) (hb:YB X cl bst fb) (hs:∀ e,QSs (X.marked e) cl X0 (b0::suite) fs) (hdb:autoParam ((h == ("__debug__" : Str))=false) AutoP.a1._auto_1) :
  QS X cl X0 (.Try [bst] [.ExceptHandler (some (.Name h np)) (some n) (b0::suite) hp] [] [] pos) (zrL es h fb i fs):=⟨fun pins s σ H D I hh0=>by
 rw [hx]
 obtain ⟨α,ρ,m,W0,hr,hq⟩:=hh0
 refine wpAny_Try_except ?_
 unfold zrL at hq
 have fin:∀ W:XD,tDS X.K cl W fb D σ H->(∀ v s',XP X cl pins σ W v s'->wpAny (model X.prog X.w) X.A (noteFrame v X.env) (fun _ s₂ => wpAny (model X.prog X.w) X.A (setFlight v none) (fun _ s₃ => wpAny (model X.prog X.w) X.A (handleBy v X.env [.ExceptHandler (some (.Name h np)) (some n) (b0::suite) hp]) (SP X pins D) (fun _ _=>False) s₃) (fun _ _=>False) s₂) (fun _ _=>False) s') →
   wpAny (model X.prog X.w) X.A (execs [bst] X.env) (fun f s₁ => match f with
    | .next=>wpAny (model X.prog X.w) X.A (execs [] X.env) (SP X pins D) (fun _ _=>False) s₁
    | f=>SP X pins D f s₁) (fun e s₁ => wpAny (model X.prog X.w) X.A (noteFrame e X.env) (fun _ s₂ => wpAny (model X.prog X.w) X.A (setFlight e none) (fun _ s₃ => wpAny (model X.prog X.w) X.A (handleBy e X.env [.ExceptHandler (some (.Name h np)) (some n) (b0::suite) hp]) (SP X pins D) (fun _ _=>False) s₃) (fun _ _=>False) s₂) (fun _ _=>False) s₁) s:=fun W hW hxp=>by
  refine wpAny_execs_cons (wpAny_mono (hb.out pins s σ H D W I hW) (fun f s1 q=>?_) hxp)
  cases f with
  | next=>exact wpAny_execs_nil (wpAny_execs_nil q)
  | ret v=>exact q
  | brk=>exact q
  | cont=>exact q
 cases hf:fb ρ m with
 | bad=>rw [hf] at hq; exact hq.elim
 | ok fl m1 =>
  rw [hf] at hq
  refine fin (fun _ _ _ _=>False) ⟨α,ρ,m,W0,hr,by rw [hf]; exact hq⟩ fun v s' ⟨e,H',c,α',m',_,_,_,w,z⟩=>(z α' H' (Ext.refl w) w).elim
 | exc c m1 =>
  rw [hf] at hq
  have hq:PQ X.K cl X0 (if (es.contains c.cls && isX c.cls h)=true then (fs (ρ.set i (some (.exn c.cls c.args))) m1).bind fun fl m2 => .ok (zs2 i fl) m2 else .bad) α H fun fl α' _ H'=>zdO X.K D fl α' H':=hq
  obtain ⟨hX0,hq⟩:=PQ.if hq
  rw [Bool.and_eq_true,List.contains_iff_mem] at hX0
  have hX:=hX0.2
  refine fin (fun c' α2 m2 H2=>c'=c/\m2=m1/\Ext α H α2 H2) ⟨α,ρ,m,W0,hr,by rw [hf]; exact fun α2 H2 E2 _=>⟨rfl,rfl,E2⟩⟩ fun v s' ⟨e,H',c',α',m',hv,I1,⟨dd,xs,hns,F,hxd,hrl⟩,w,z⟩=>?_
  obtain ⟨rfl,rfl,E1⟩:=z α' H' (Ext.refl w) w
  subst hv
  refine zi9 I1 hk rfl F fun s2 H2 hos sm I2 F2=>?_
  have Es:=Ext.of_same w sm
  have w2:=w.same sm
  have hce:c'.cls∈es:=hX0.1
  obtain ⟨oe,vs,ho,hoc,_⟩:=F2.lies
  have Tr:=T.row hh
  have ask:=Tr.1
  unfold askB at ask
  simp only [Bool.and_eq_true,beq_iff_eq] at ask
  refine wpAny_handleBy_cons ?_ (fun z=>nomatch z)
  refine codeAny_handlers_test ?_
  have hm:X.mg h=some (.ref (cl h)):=PySem.W.mg_of I.mod.kin I.mod.glob (T.ns h hh)
  refine zfh (X:=X.marked e) (I2.mark e) hg hm ?_ hdb
  refine zkt I2.kIn ho hoc ask.1.1.1.1.1.1.2 ask.2 ask.1.1.1.1.2 ((T.row hce).2.2.2 h hh).2 ?_
  rw [hX]
  refine codeAny_handlers_suite_as ?_
  refine zmC (I2.mark e) F2 fun s3 _ I3=>?_
  refine zdP (X:=X.marked e) (v := .ref e) I3 hN hi (.inl hl) rfl (fun s4 I4=>?_) (.inr hl)
  have E12:Ext α H α' H2:=E1.trans Es
  have re:Rep X.K α' H2 (.exn c'.cls c'.args) (.ref e):=by
   rw [Rep]
   exact ⟨e,cl c'.cls,dd,xs,rfl,hns,F2.te,(Es.kp w).xdAt hxd,hrl.mono w Es⟩
  have hr2:=(hr.mono W0 E12).set (i:=i) re
  have hout:=(hs e).out pins s4 (σ.set i (some (.ref e))) H2 { nx:=fun σ1 H1=>D.nx (σ1.set i none) H1,rt:=D.rt,bk:=fun σ1 H1=>D.bk (σ1.set i none) H1,ct:=fun σ1 H1=>D.ct (σ1.set i none) H1 } I4 ⟨α',_,_,w2,hr2,PQ.mono E12 hq.bind fun fl α3 m3 H3 E3 W3 q=>by
   have q':=PQ.ok W3 q
   cases fl with
   | nx ρ3=>exact fun σ3 r3=>q' _ r3.drop
   | rt d=>exact q'
   | bk ρ3=>exact fun σ3 r3=>q' _ r3.drop
   | ct ρ3=>exact fun σ3 r3=>q' _ r3.drop⟩
  refine wpAny_mono hout (fun f s5 q=>?_) fun _ _ z=>by rw [show (X.marked e).xe=X.xe from rfl,hx] at z; exact z.elim
  have free:∀ {σ5:L2.St} {H5:Hp} {Q:Unit->Shared->Prop},Inv (X.marked e) pins σ5 H5 s5->(∀ s6,Inv X pins (σ5.set i none) H5 s6->Q () s6)->wpAny (model X.prog X.w) X.A (do
    bindName X.env n Value.none
    unbindBehindTheSuite X.env n hp) Q (fun _ _=>False) s5:=fun {σ5 H5 Q} I5 hQ=>by
   have I5':Inv X pins σ5 H5 s5:=I5.unmark I.ok.hd
   refine wpAny_bind (wpAny_bindName (zdP (v := .non) I5' hN hi (.inl hl) rfl (fun s6 I6=>?_) (.inr hl)))
   unfold unbindBehindTheSuite
   refine wpAny_onRaise (zmV I6 hN hi hl (v := .non) ?_ fun s7 I7=>hQ s7 (by rw [List.set_set] at I7; exact I7))
   rw [List.getElem?_set_self]
   rw [I5'.len]
   exact (List.getElem?_eq_some_iff.mp hi).1
  cases f with
  | next=>obtain ⟨σ5,H5,I5,q5⟩:=q; exact free I5 fun s6 I6=>⟨_,H5,I6,q5⟩
  | brk=>obtain ⟨σ5,H5,I5,q5⟩:=q; exact free I5 fun s6 I6=>⟨_,H5,I6,q5⟩
  | cont=>obtain ⟨σ5,H5,I5,q5⟩:=q; exact free I5 fun s6 I6=>⟨_,H5,I6,q5⟩
  | ret u=>obtain ⟨v5,σ5,H5,I5,r5,q5⟩:=q; exact free I5 fun s6 I6=>⟨v5,_,H5,I6,r5,q5⟩⟩
end
theorem zqA {e:Addr} (F:ExA K C) (hc:(PySem.W.clsIn K C).isSome=true):PySem.W.KitX K (.ref e) (.ref C) fun h=>∃ oe od,PySem.W.InstAt h e oe C od:=by
 have hD:∀ h:Heap,K.In h->∃ o cd,h.get? C=some o/\o.data = .cls cd:=fun h kin=>by
  unfold PySem.W.clsIn at hc
  split at hc
  ·rename_i c d cd sl hl
   exact ⟨_,cd,kin _ _ hl,rfl⟩
  ·cases hc
 refine ⟨fun M h kin ⟨oe,od,hi⟩ A Q E s hs q=>wpAny_typeOf_ref (hs _ _ hi.at_) (by rw [hi.cls]; exact q),fun M h kin _ A Q E s hs q=>?_,fun h tp dd its n sl kin ht=>?_,fun {prog w A E Q s} kin ⟨oe,od,hi⟩ q=>zo1 kin F hi q⟩
 ·obtain ⟨o,cd,hC,hd⟩:=hD h kin
  unfold isType loadHead
  refine wpAny_bind (wpAny_loadPart (hs _ _ hC) (wpAny_pure ?_))
  rw [hd]
  exact q
 ·obtain ⟨o,cd,hC,hd⟩:=hD h kin
  rw [beq_eq_false_iff_ne]
  intro z
  cases z
  rw [ht] at hC
  cases hC
  cases hd
variable {ds:List D} {v:V} {u:Value}
section
variable {ex:XD} {rs:List Str} {pins:List (Addr × Obj)} {s:Shared}
theorem exc_at (T:TxE X.K cl es rs) (I:Inv X pins σ H s) (hc:c∈es) (rv:Rep X.K α H (.exn c ds) v) (ru:RelV v u):∃ e,u = .ref e/\∃ oe od,PySem.W.InstAt s.heap e oe (cl c) od:=by
 rw [Rep] at rv
 obtain ⟨a,C,dd,xs,rfl,hns,hH,hxd,_⟩:=rv
 rw [T.ns c hc] at hns
 cases hns
 cases ru
 obtain ⟨⟨o,vs,ho,h1,h2,h3⟩,_⟩:=I.hok a _ hH
 rcases hxd with ⟨rfl,_⟩ | ⟨dx,x,rfl,_,hx⟩
 ·exact ⟨a,rfl,o,none,ho,h1,by unfold PySem.W.notCls; rw [h3],by rw [h2]; trivial⟩
 ·obtain ⟨od,hod⟩:=(I.hok dx _ hx).has
  exact ⟨a,rfl,o,some od,ho,h1,by unfold PySem.W.notCls; rw [h3],by rw [h2]; exact hod⟩
theorem zoK (T:TxE X.K cl es rs) (I:Inv X pins σ H s) {c2:Value} {b:Bool} {Q:VK} (hc:c∈es) (rv:Rep X.K α H (.exn c ds) v) (ru:RelV v u) (kt:PySem.W.kitOne X.K (.ref (cl c)) c2=some b) (q:Q (.bl b) H):wpAny (model X.prog X.w) X.A (call (.builtin "isinstance") [u,c2]) (EP X pins σ Q) X.xe s:=by
 obtain ⟨e,rfl,oe,od,hi⟩:=exc_at T I hc rv ru
 have ask:=(T.row hc).1
 unfold askB at ask
 simp only [Bool.and_eq_true,beq_iff_eq] at ask
 exact PySem.W.kia_one (zqA (T.exa hc) ask.1.1.1.1.2) I.kIn ⟨oe,od,hi⟩ kt (fun z=>nomatch z) fun tk=>⟨.bl _,H,I.tok _,rfl,q⟩
def zq9 (es:List Str) (n:Str) (d:D) (m:Sto):Res D:=match d with
 | .exn c _=>if es.contains c=true then .ok (.bl (isX c n)) m else .bad
 | .non => .ok (.bl false) m
 | _ => .bad
def isiV (es:List Str) (d:D) (m:Sto):Res D:=match d with
 | .exn c _=>if es.contains c=true then .ok (.bl true) m else .bad
 | .non => .ok (.bl false) m
 | _ => .bad
variable {e:Expr} {fa:EV} {p p2 tp:Pos} {kt:Nat} {vs:List V} {ns:List Str}
theorem zpj (T:TxE X.K cl es rs) (hn:x∈es):CallR X (.builtin "isinstance") (fun xs H Q=>∃ α m d v,xs=[v,.ref (cl x)]/\Wd X.K cl α m H/\Rep X.K α H d v/\∃ b,zq9 es x d m = .ok (.bl b) m/\Q (.bl b) H):=by
 intro pins s σ H xs us Q I r h
 obtain ⟨α,m,d,v,rfl,W,rv,b,hb,q⟩:=h
 obtain ⟨u,w,rfl,ru,rw'⟩:=zjW r
 cases rw'
 unfold zq9 at hb
 split at hb
 ·split at hb
  ·rename_i hc
   cases hb
   exact zoK T I (List.contains_iff_mem.mp hc) rv ru ((T.row (List.contains_iff_mem.mp hc)).2.2.2 x hn).1 q
  ·cases hb
 ·cases hb
  rw [Rep] at rv
  subst rv
  exact zgB I ru .non (T.row hn).2.2.1 fun tk=>⟨.bl _,H,I.tok _,rfl,q⟩
 ·cases hb
theorem zpk (T:TxE X.K cl es rs):CallR X (.builtin "isinstance") (fun xs H Q=>∃ α m d v,xs=[v,.ty "ValueError"]/\Wd X.K cl α m H/\Rep X.K α H d v/\∃ b,isiV es d m = .ok (.bl b) m/\Q (.bl b) H):=by
 intro pins s σ H xs us Q I r h
 obtain ⟨α,m,d,v,rfl,W,rv,b,hb,q⟩:=h
 obtain ⟨u,w,rfl,ru,rw'⟩:=zjW r
 cases rw'
 unfold isiV at hb
 split at hb
 ·split at hb
  ·rename_i hc
   cases hb
   exact zoK T I (List.contains_iff_mem.mp hc) rv ru (T.row (List.contains_iff_mem.mp hc)).2.1 q
  ·cases hb
 ·cases hb
  rw [Rep] at rv
  subst rv
  exact zgB I ru .non rfl fun tk=>⟨.bl _,H,I.tok _,rfl,q⟩
 ·cases hb
theorem pe_cls (T:TxE X.K cl es rs) (hn:x∈es) (hg:Gl X x) (hd:autoParam ((x == ("__debug__" : Str))=false) AutoP.a1._auto_1):PE X (.Name x p) (tC (.ref (cl x))) :=
 fun _ _ _ H _ I h=>zfh I hg (PySem.W.mg_of I.mod.kin I.mod.glob (T.ns x hn)) ⟨.ref (cl x),H,I,rfl,h⟩ hd
theorem zh9 (T:TxE X.K cl es rs) (hn:x∈es) (hg:Gl X "isinstance") (hm:X.mg "isinstance" = none) (hg2:Gl X x) (ha:QE X cl ex e fa) (hdb:autoParam ((x == ("__debug__" : Str))=false) AutoP.a1._auto_1)
  (he:autoParam (starEach [e,.Name x p2] X.env=(false,eval e X.env)::starEach [.Name x p2] X.env) AutoP.a3._auto_1) (he2:autoParam (starEach [.Name x p2] X.env=(false,eval (.Name x p2) X.env)::starEach [] X.env) AutoP.a3._auto_1) (hpl:autoParam ((backTo pos (starEach [.Name x p2] X.env)).any (·.1)=false) AutoP.a3._auto_1) :
  QE X cl ex (.Call (.Name "isinstance" p) [e,.Name x p2] [] pos) (eUn (zq9 es x) fa) :=
 ⟨PE.weak (zf6 (zpj T hn) hg hm boot_isinstance (zbO ha.out (zbO (pe_cls T hn hg2 hdb) zeT he2) he) (by decide) (by decide) he hpl) fun σ H Q hh=>ex3 hh fun α ρ m W hr h=>tD.use W hr h fun α1 m1 H1 d v E1 W1 hr1 rv q1=>by
  refine ⟨α1,m1,d,v,rfl,W1,rv,?_⟩
  unfold zq9 at q1 ⊢
  split at q1
  ·obtain ⟨hc,q1⟩:=PQ.if q1
   exact ⟨_,by rw [if_pos hc],PQ.ok W1 q1 _ zg3⟩
  ·exact ⟨_,rfl,PQ.ok W1 q1 _ zg3⟩
  ·exact q1.elim⟩
theorem zr3 (T:TxE X.K cl es rs) (hg:Gl X "isinstance") (hm:X.mg "isinstance" = none) (hg2:Gl X "ValueError") (hm2:X.mg "ValueError" = none) (ha:QE X cl ex e fa)
  (he:autoParam (starEach [e,.Name "ValueError" p2] X.env=(false,eval e X.env)::starEach [.Name "ValueError" p2] X.env) AutoP.a3._auto_1) (he2:autoParam (starEach [.Name "ValueError" p2] X.env=(false,eval (.Name "ValueError" p2) X.env)::starEach [] X.env) AutoP.a3._auto_1) (hpl:autoParam ((backTo pos (starEach [.Name "ValueError" p2] X.env)).any (·.1)=false) AutoP.a3._auto_1) :
  QE X cl ex (.Call (.Name "isinstance" p) [e,.Name "ValueError" p2] [] pos) (eUn (isiV es) fa) :=
 ⟨PE.weak (zf6 (zpk T) hg hm boot_isinstance (zbO ha.out (zbO (znM (v := .ty "ValueError") hg2 hm2 (by rfl) rfl) zeT he2) he) (by decide) (by decide) he hpl) fun σ H Q hh=>ex3 hh fun α ρ m W hr h=>tD.use W hr h fun α1 m1 H1 d v E1 W1 hr1 rv q1=>by
  refine ⟨α1,m1,d,v,rfl,W1,rv,?_⟩
  unfold isiV at q1 ⊢
  split at q1
  ·obtain ⟨hc,q1⟩:=PQ.if q1
   exact ⟨_,by rw [if_pos hc],PQ.ok W1 q1 _ zg3⟩
  ·exact ⟨_,rfl,PQ.ok W1 q1 _ zg3⟩
  ·exact q1.elim⟩
end
variable {P:Str->Prop}
theorem zlM:∀ c∈([]:List Str),P c:=fun _ h=>nomatch h
theorem zb9 {xs:List Str} (h:P x) (r:∀ c∈xs,P c):∀ c∈x::xs,P c:=fun c hc=>by
 rcases List.mem_cons.mp hc with rfl | hc
 ·exact h
 ·exact r c hc
def puF (g:List D->Sto->Res D):List D->Sto->Res D:=fun ds m=>(g ds m).pu
end MD
set_option autoImplicit false
namespace MxD
open PySem PySem.Spec PyProof.Rows
end MxD
namespace MD
open PySem PySem.Spec PyProof.Rows L2
variable {d:D}
section
variable {X:Cx} {K:PySem.W.Frag} {cl:Str->Addr} {ex:XD}
def zju:D->Bool
 | .non=>true
 | .bl _=>true
 | .int _=>true
 | .str _=>true
 | _=>false
def vOf:D->V
 | .non => .non
 | .bl b => .bl b
 | .int i => .int i
 | .str z => .str z
 | _ => .non
theorem zjY {α : List Addr} {H:Hp} {v:V} (h:zju d=true) (r:Rep K α H d v):v=vOf d:=by
 cases d with
 | non=>rw [Rep] at r; exact r
 | bl b=>rw [Rep] at r; exact r
 | int i=>rw [Rep] at r; exact r
 | str z=>rw [Rep] at r; exact r
 | _=>cases h
theorem zhO (h:zju d=true):zdN (vOf d)=true:=by
 cases d with
 | _=>first | rfl | cases h
theorem zhN {α : List Addr} {H:Hp}:∀ {ds:List D} {vs:List V},ds.all zju=true->RepL K α H ds vs->vs=ds.map vOf
 | [],_,_,r=>by rw [RepL] at r; exact r
 | d::ds,_,h,r=>by
  rw [RepL] at r
  obtain ⟨v,q,rfl,r1,r2⟩:=r
  rw [List.all_cons,Bool.and_eq_true] at h
  rw [List.map_cons,zjY h.1 r1,zhN h.2 r2]
theorem zkC {x y:V} {u:Value} (r:RelV x u) (h:zdN x=true):eqU y u=eqV x y:=by
 cases x with
 | non=>cases r; rfl
 | bl b=>cases r; rfl
 | int i=>obtain ⟨t,rfl⟩:=r; rfl
 | str z=>obtain ⟨t,rfl⟩:=r; rfl
 | _=>cases h
theorem zhC {y:V}:∀ {xs:List V} {us:List Value},Vals xs us->xs.all zdN=true->us.countP (eqU y)=xs.countP fun z=>eqV z y
 | _,_,.nil,_=>rfl
 | _,_,.cons r rs,h=>by
  rw [List.all_cons,Bool.and_eq_true] at h
  rw [List.countP_cons,List.countP_cons,zhC rs h.2,zkC r h.1]
end
end MD
namespace L2
open PySem PySem.Spec PyProof.Rows
variable {X:Cx} {e:Expr} {te:TE} {pos:Pos}
end L2
set_option autoImplicit false
namespace MD
open PySem PySem.Spec PyProof.Rows L2
variable {X:Cx} {K:PySem.W.Frag} {cl:Str->Addr} {ex:XD}
section
end
section
end
def zjU (c m:Str) (g:List D->Sto->Res D) (fa:EV) (fr:AV):EV:=fun ρ mm=>(ePu fa ρ mm).bind fun d m1=>if zdx c m d m1=true then (aPu fr ρ m1).bind fun ds m2=>g (d::ds) m2 else .bad
structure FnEM (P:Program) (w:World) (K:PySem.W.Frag) (mg:Str->Option Value) (base:Heap) (cl:Str->Addr) (c m:Str) (k n:Nat) (g:List D->Sto->Res D):Prop where
 ex:∃ (f:Addr) (fd:FuncData) (ps:List Str),Meth K (cl c) m f/\Binds K fd ps []/\FnOk P w K mg base (CXx P w) k f fd ps (spX K cl n g)
variable {P:Program} {mg:Str->Option Value} {base:Heap} {c x qual:Str} {st:Stmt} {f:Addr} {fd:FuncData} {N ps:List Str} {n:Nat} {body:SV}
theorem FnEM.mk' {w:World} {k:Nat} (F:Fun K x qual st f fd) (b:Binds K fd ps []) (m:Meth K (cl c) x f) (S:FnScope N ps (zah st)) (hn:n=ps.length)
  (h:∀ (cdv:Value) (A:Around) (outer:List PySem.Env) (s:Shared) (H:Hp) (E:XK),Room k (A.deeper (envOfC qual (zah st) s.heap.objs.size f cdv))->YSs (zkF (CXx P w) P w K mg base N qual (zah st) f cdv A outer s H E).nox cl (zbe st) body):FnEM P w K mg base cl c x (k+1) n (zaY N.length body) :=
 ⟨f,fd,ps,m,b,fn_okx F S hn h⟩
variable {o:Expr} {es:List Expr} {fa:EV} {p pos apos:Pos} {m:Str} {g:List D->Sto->Res D}
section
variable {e:Expr} {fr:AV} {k:Nat}
theorem zga {pl:Sem Bool} (hx:X.xe=fun _ _=>False) (h:FnEM X.prog X.w X.K X.mg X.base cl c m k n g) (ho:QE X cl X0 o fa) (hc:Cls X.K (cl c)) (hn:n=(e::es).length+1) (hr:Room k X.A) (ha:QA X cl X0 (e::es) fr) (hlen:∀ ρ m ds m1,fr ρ m = .ok ds m1->ds.length=(e::es).length)
  (hst:autoParam (starEach (e::es) X.env=(false,eval e X.env)::starEach es X.env) AutoP.a3._auto_1) (hpl:autoParam ((backTo pos (starEach es X.env)).any (·.1)=false) AutoP.a3._auto_1)
  (ht:autoParam (eval (.Call (.Attribute o m apos) (e::es) [] pos) X.env=(do
   let ov <- eval o X.env
   standAt apos.atName
   let (f,first) <- holding [ov] (getMethod ov m pl)
   callWith pos f first (backTo pos (starEach (e::es) X.env)) (backToKw pos (keywordEach [] X.env)))) AutoP.a3._auto_1):YE X cl (.Call (.Attribute o m apos) (e::es) [] pos) (zjU c m g fa fr):=by
 obtain ⟨f,fd,ps,h1,h2,h3⟩:=h.ex
 refine ⟨fun pins s σ H Q W I hh=>?_⟩
 obtain ⟨α,ρ,mm,W0,hr0,hq⟩:=hh
 have hq':PQ X.K cl W ((fa ρ mm).pu.bind fun d m1=>if zdx c m d m1=true then (aPu fr ρ m1).bind fun ds m2=>g (d::ds) m2 else .bad) α H fun d α' _ H'=>∀ v,Rep X.K α' H' d v->Q v H':=hq
 cases hf:fa ρ mm with
 | bad=>rw [hf] at hq'; exact hq'.elim
 | exc c m1=>rw [hf] at hq'; exact hq'.elim
 | ok d m1 =>
  rw [hf] at hq'
  have hq1:PQ X.K cl W (if zdx c m d m1=true then (aPu fr ρ m1).bind fun ds m2=>g (d::ds) m2 else .bad) α H fun d α' _ H'=>∀ v,Rep X.K α' H' d v->Q v H':=hq'
  obtain ⟨hi,hq2⟩:=PQ.if hq1
  refine PySem.W.methodCall_KW (pl:=pl) (wpAny_mono (ho.out pins s σ H (fun x H1=>∃ α1,Ext α H α1 H1/\Wd X.K cl α1 m1 H1/\RepE X.K α1 H1 ρ σ /\ Rep X.K α1 H1 d x) I (tD.at W0 hr0 hf fun α1 H1 v E1 W1 hr1 rv=>⟨α1,E1,W1,hr1,rv⟩)) (fun u s1 ⟨x,H1,I1,rx,α1,E1,W1,hr1,rv⟩=>?_) fun _ _ z=>by rw [hx] at z; exact z.elim) ht
  obtain ⟨a,dx,fs,rfl,ea,el⟩:=zgD W1 hi rv
  obtain rfl:u=Value.ref a:=rx
  refine zfj I1 ea hc h1 el ?_
  refine PySem.W.callWith_K (first:=[.ref a]) (h₀ := X.base) I.ok.mod.kin h1.kp (wpAny_mono (ha.out pos pins s1 σ H1 (fun vs H2=>∃ α2 m2 ds,Wd X.K cl α2 m2 H2/\RepL X.K α2 H2 ds vs/\Rep X.K α2 H2 d (.ref a)/\ds.length=(e::es).length/\PQ X.K cl W (g (d::ds) m2) α2 H2 fun d α' _ H'=>∀ v,Rep X.K α' H' d v->Q v H') I1 ?_) (fun us s2 ⟨vs,H2,I2,r,α2,m2,ds,w2,rd,ra,hl,q⟩=>⟨I2.kIn,?_⟩) fun _ _ z=>by rw [hx] at z; exact z.elim) hst hpl
  ·have hq3:PQ X.K cl W ((fr ρ m1).pu.bind fun ds m2=>g (d::ds) m2) α H fun d α' _ H'=>∀ v,Rep X.K α' H' d v->Q v H':=hq2
   cases hf2:fr ρ m1 with
   | bad=>rw [hf2] at hq3; exact hq3.elim
   | exc c m1=>rw [hf2] at hq3; exact hq3.elim
   | ok ds m2 =>
    rw [hf2] at hq3
    exact tDA.at W1 hr1 hf2 fun α2 H2 v E2 W2 hr2 rvs=>⟨α2,m2,ds,W2,rvs,rv.mono W1 E2,hlen ρ m1 ds m2 hf2,PQ.mono (E1.trans E2) hq3 fun _ _ _ _ _ _ z=>z⟩
  ·exact zrN (us := .ref a::us) (vs := .ref a::vs) (ds:=d::ds) h3 hr h2 I2 (.cons rfl r) (by rw [List.length_cons,<- rd.length,hl,hn]) w2 (by rw [RepL]; exact ⟨_,_,rfl,ra,rd⟩) q
end
theorem FnEM.pure {w:World} {k:Nat} (h:FnEM P w K mg base cl c m k n g):FnM P w K mg base cl c m k n (puF g):=by
 obtain ⟨f,fd,ps,h1,h3,h4⟩:=h.ex
 refine ⟨f,fd,ps,h1,h3,?_⟩
 have imp:∀ vs H Q E,spD K cl X0 n (puF g) vs H Q E->spX K cl n g vs H Q E0:=fun vs H Q E ⟨hl,α,m,ds,W,r,q⟩=>⟨hl,α,m,ds,W,r,by
  unfold puF at q
  cases hg:g ds m with
  | ok d m1=>rw [hg] at q; exact q
  | bad=>rw [hg] at q; exact q
  | exc c m1=>rw [hg] at q; exact q.elim⟩
 refine ⟨fun vs H Q E q=>h4.len vs H Q E0 (imp vs H Q E q),fun A outer s H args us vs Q E hr he hb hv hs=>codeAny_mono (h4.run A outer s H args us vs Q E0 hr he hb hv (imp _ _ _ _ hs)) fun r s' hq=>?_⟩
 cases r with
 | error v =>
  obtain ⟨e,C,dd,H',_,_,_,_,_,_,z⟩:=hq
  exact z.elim
 | ok fl=>cases fl <;> exact hq
variable {pins:List (Addr × Obj)} {s:Shared} {σ : L2.St} {H:Hp}
section
variable {es rs:List Str} {h:Str} {c:Expr} {a b bst b0:Stmt} {suite:List Stmt} {ta:TV} {fb fs gs:SV} {np hp:Pos}
theorem YB.execs1 (h1:YB X cl a fs) {D:Ends} {W:XD} (I:Inv X pins σ H s) (q:tDS X.K cl W fs D σ H):wpAny (model X.prog X.w) X.A (execs [a] X.env) (SP X pins D) (XP X cl pins σ W) s:=by
 refine wpAny_execs_cons (thn (h1.out pins s σ H D W I q) fun f s1 q=>?_)
 cases f with
 | next=>exact wpAny_execs_nil q
 | ret v=>exact q
 | brk=>exact q
 | cont=>exact q
theorem zrp (hx:X.xe=fun _ _=>False) (hc:QT X cl X0 c ta) (ha:YB X cl a fs) (hb:YB X cl b gs):YB X cl (.If c [a] [b] pos) (sIf (tPu ta) fs gs):=⟨fun pins s σ H D W I hh=>by
 refine wpAny_If (wpAny_mono (hc.out pins s σ H (fun b H1=>tDS X.K cl W (if b=true then fs else gs) D σ H1) I ?_) (fun d s1 ⟨H1,I1,q1⟩=>?_) fun _ _ z=>by rw [hx] at z; exact z.elim)
 ·refine tDT.pu (W:=W) (ex3 hh fun α ρ m W0 hr h=>tDT.use W0 hr h fun α1 m1 H1 d E1 W1 hr1 h1=>⟨α1,ρ,m1,W1,hr1,?_⟩)
  cases d <;> exact h1
 ·cases d with
  | true=>exact ha.execs1 I1 q1
  | false=>exact hb.execs1 I1 q1⟩
end
abbrev ze6 (k:Nat) (A:Around):Prop:=Room k { A with handled:=none }
variable {A:Around}
theorem roomH {k:Nat} (r:Room k A):ze6 k A:=⟨rfl,r.dp,r.un,r.gd⟩
theorem zl2 {k:Nat} {v:Option Value} (r:ze6 k A):ze6 k (A.mark v):=⟨rfl,r.dp,r.un,r.gd⟩
theorem ziM {k:Nat} (r:ze6 (k+1) A) (env:PySem.Env):ze6 k (A.deeper env):=by
 have q:=Room.deeper r env
 exact ⟨rfl,q.dp,q.un,q.gd⟩
theorem hu_ofH {k:Nat} (hr:ze6 k A):A.units+1 < cLine:=zoO (A:={ A with handled:=none }) hr
variable {j:Nat}
theorem zpY {k:Nat} (r:ze6 k A) (h:j<=k):ze6 j A:=Room.mono r h
structure FnOkH (P:Program) (w:World) (K:PySem.W.Frag) (mg:Str->Option Value) (base:Heap) (k:Nat) (f:Addr) (fd:FuncData) (ps:List Str) (sp:Sp):Prop where
 len:∀ vs H Q E,sp vs H Q E->vs.length=ps.length
 run:∀ (A:Around) (outer:List PySem.Env) (s:Shared) (H:Hp) (args:Args) (us:List Value) (vs:List V) (Q:VK) (E:XK),ze6 k A->Env0 P w K mg base A outer s H->BindsTo s fd args (ps.zip us)->Vals vs us->sp vs H Q E →
  codeAny (model P w) A (.call (.ref f) args) (CR CX0 outer P w H s Q E) s
abbrev cxH (P:Program) (w:World) (K:PySem.W.Frag) (mg:Str->Option Value) (base:Heap) (N:List Str) (qual:Str) (scope:Scope) (f:Addr) (cd:Value) (A:Around) (outer:List PySem.Env) (s:Shared) (H:Hp) (E:XK):Cx :=
 { zkF CX0 P w K mg base N qual scope f cd A outer s H E with calm:=false }
variable {us:List Value} {vs:List V}
theorem zmu {w:World} {scope:Scope} {cd:Value} {outer:List PySem.Env} {s1:Shared} {E:XK}
  (S:FnScope N ps scope) (e0:Env0 P w K mg base A outer s H) (hl:vs.length=ps.length) (r:Vals vs us)
  (x:InCallC s s.heap.objs.size (bindL (envOfC qual scope s.heap.objs.size f cd).kindOf (ps.zip us) fun _=>none) (cellsFrom (s.heap.objs.size+1) scope.names []) (bindC (envOfC qual scope s.heap.objs.size f cd).kindOf (ps.zip us) fun _=>none) s1) :
  Inv (cxH P w K mg base N qual scope f cd A outer s H E) [] (L2.start N vs) H s1:=by
 have e1:Env0 P w K mg base { A with handled:=none } outer s H:=⟨e0.frames,e0.mod,e0.bs,e0.bsz,e0.funs,e0.frf,e0.hok,e0.bare⟩
 have I:=zjh (CX:=CX0) (E:=E) S rfl e1 hl r x
 exact ⟨⟨I.ok.mod,I.ok.kind,I.ok.glob,I.ok.blt,I.ok.above,I.ok.inj,I.ok.has,I.ok.cab,(fun z=>nomatch z),I.ok.frames,I.ok.stk,I.ok.exf,I.ok.bs,I.ok.bsz,I.ok.noex,I.ok.exfs,I.ok.funs,I.ok.frf⟩,I.os,I.bare,I.base,I.loc,I.cell,I.free,I.freeC,I.pin,I.hok,I.len⟩
variable {sp:Sp}
theorem fn_ofH {w:World} {k:Nat} (F:Fun K x qual st f fd) (S:FnScope N ps (zah st)) (len:∀ vs H Q E,sp vs H Q E->vs.length=ps.length)
  (hbody:∀ (cdv:Value) (A:Around) (outer:List PySem.Env) (s:Shared) (H:Hp) (vs:List V) (Q:VK) (E:XK),ze6 k (A.deeper (envOfC qual (zah st) s.heap.objs.size f cdv))->sp vs H Q E →
   ∃ t,PSs (cxH P w K mg base N qual (zah st) f cdv A outer s H E).nox (zbe st) t/\t { nx:=fun _ H'=>Q .non H',rt:=Q } (L2.start N vs) H):FnOkH P w K mg base (k+1) f fd ps sp:=by
 obtain ⟨oc,od,kV,doc,pm,an,cdv,ct,osl,rfl,lk,hcd⟩:=F.ex
 refine ⟨len,fun A outer s H args us vs Q E hr e0 hb r hsp=>?_⟩
 have hl:=len _ _ _ _ hsp
 have KX:K.In s.heap:=e0.mod.kin.keeps fun b o e=>(e0.bs b o e).1
 have lim:s.heap.NoLimit:=e0.mod.nolimit.keeps fun b o e=>(e0.bs b o e).1
 have hkind:∀ y∈ps.zip us,(zah st).names.lookup y.1=some .local∨((zah st).names.lookup y.1=some .cell/\((cellsFrom (s.heap.objs.size+1) (zah st).names []).lookup y.1).isSome=true):=fun ⟨n,v⟩ hy=>by
  rcases S.par n (List.of_mem_zip hy).1 with q | q
  ·exact .inl q
  ·exact .inr ⟨q,PySem.W.cellsFrom_some _ _ _ (.inl q)⟩
 refine codeAny_call_function (Room.depth (A:={ A with handled:=none }) hr) (KX _ _ lk) rfl S.co S.gen rfl (PySem.W.codeRec_of KX hcd) (hb _ _ _ _ ?_)
 refine wpAny_newFunctionEnv_cells S.kind hkind fun env he s1 x=>?_
 subst he
 refine ⟨lim.keeps x.toInCall.keep,codeAny_func ?_⟩
 obtain ⟨t,ht,hq⟩:=hbody cdv A outer s H vs Q E (ziM hr _) hsp
 have I:Inv (cxH P w K mg base N qual (zah st) f cdv A outer s H E) [] (L2.start N vs) H s1:=zmu S e0 hl r x
 refine wpAny_mono (ht.nox [] s1 (L2.start N vs) H _ I hq) (fun fl s' hs=>?_) fun e s' hs=>hs
 have fin:∀ {σ':L2.St} {H':Hp} {v:V} {u:Value},Inv (cxH P w K mg base N qual (zah st) f cdv A outer s H E) [] σ' H' s'->RelV v u->Q v H'->CE outer P w H s Q u s' :=
  fun {σ' H' v u} J rv q=>⟨v,H',J.os,J.bare,J.base,J.hok,rv,q⟩
 cases fl with
 | ret u =>
  obtain ⟨v,σ',H',J,rv,q⟩:=hs
  exact fin J rv q
 | next =>
  obtain ⟨σ',H',J,q⟩:=hs
  exact fin (v:=V.non) (u:=Value.none) J rfl q
 | brk =>
  obtain ⟨_,_,_,q⟩:=hs
  exact False.elim q
 | cont =>
  obtain ⟨_,_,_,q⟩:=hs
  exact False.elim q
structure FnH (P:Program) (w:World) (K:PySem.W.Frag) (mg:Str->Option Value) (base:Heap) (cl:Str->Addr) (x:Str) (k n:Nat) (g:List D->Sto->Res D):Prop where
 ex:∃ (f:Addr) (fd:FuncData) (ps:List Str),mg x=some (.ref f)/\PySem.W.keepIn K (.ref f)=true/\Binds K fd ps []/\FnOkH P w K mg base k f fd ps (spD K cl X0 n g)
section
variable {w:World} {k:Nat}
theorem fn_okH (F:Fun K x qual st f fd) (S:FnScope N ps (zah st)) (hn:n=ps.length)
  (h:∀ (cdv:Value) (A:Around) (outer:List PySem.Env) (s:Shared) (H:Hp) (E:XK),ze6 k (A.deeper (envOfC qual (zah st) s.heap.objs.size f cdv))->QSs (cxH P w K mg base N qual (zah st) f cdv A outer s H E).nox cl X0 (zbe st) body):FnOkH P w K mg base (k+1) f fd ps (spD K cl X0 n (zaY N.length body)) :=
 fn_ofH F S (fun vs H Q E h=>by rw [<- hn]; exact h.1) fun cdv A outer s H vs Q E hr q=>⟨_,(h cdv A outer s H E hr).out,fn_d q⟩
theorem FnH.mk' (F:Fun K x qual st f fd) (b:Binds K fd ps []) (m:mg x=some (.ref f)) (S:FnScope N ps (zah st)) (hn:n=ps.length)
  (h:∀ (cdv:Value) (A:Around) (outer:List PySem.Env) (s:Shared) (H:Hp) (E:XK),ze6 k (A.deeper (envOfC qual (zah st) s.heap.objs.size f cdv))->QSs (cxH P w K mg base N qual (zah st) f cdv A outer s H E).nox cl X0 (zbe st) body):FnH P w K mg base cl x (k+1) n (zaY N.length body) :=
 ⟨f,fd,ps,m,F.kp,b,fn_okH F S hn h⟩
end
section
variable {e:Expr} {fr:AV} {k:Nat}
theorem zrO {Q:VK} (F:FnOkH X.prog X.w X.K X.mg X.base k f fd ps sp) (hr:ze6 k X.A) (hb:Binds X.K fd ps [])
  (I:Inv X pins σ H s) (r:Vals vs us) (h:sp vs H Q E0):wpAny (model X.prog X.w) X.A (call (.ref f) us) (EP X pins σ Q) X.xe s:=by
 have hl:us.length=ps.length:=by rw [<- r.length]; exact F.len _ _ _ _ h
 refine wpAny_call (codeAny_mono (F.run X.A X.stack s H ⟨us,[]⟩ us vs Q E0 hr I.env0 (by have:=hb s us I.kIn (by simpa using hl); simpa using this) r h) fun r s' hq=>?_)
 cases r with
 | error e=>exact hq.elim
 | ok fl =>
  cases fl with
  | ret u=>exact I.after hq
  | next=>exact False.elim hq
  | brk=>exact False.elim hq
  | cont=>exact False.elim hq
theorem qe_fnH (h:FnH X.prog X.w X.K X.mg X.base cl x k n g) (hn:n=(e::es).length) (hr:ze6 k X.A) (hg:Gl X x)
  (ha:QA X cl X0 (e::es) fr) (hlen:∀ ρ m ds m1,fr ρ m = .ok ds m1->ds.length=(e::es).length) (hdb:autoParam ((x == ("__debug__" : Str))=false) AutoP.a1._auto_1) (he:autoParam (starEach (e::es) X.env=(false,eval e X.env)::starEach es X.env) AutoP.a3._auto_1) (hpl:autoParam ((backTo pos (starEach es X.env)).any (·.1)=false) AutoP.a3._auto_1) :
  QE X cl X0 (.Call (.Name x p) (e::es) [] pos) (eFn g fr):=by
 obtain ⟨f,fd,ps,hm,hk,hb,F⟩:=h.ex
 refine ⟨fun pins s σ H Q I hh=>?_⟩
 obtain ⟨α,ρ,mm,W,hr0,h⟩:=hh
 unfold eFn at h
 refine wpAny_Call_Name_kw (zfh I hg hm ?_ hdb)
 cases hf:fr ρ mm with
 | bad=>rw [hf] at h; exact h.elim
 | exc c m1 =>
  exact PySem.W.callWith_K (h₀ := X.base) I.ok.mod.kin hk (thn (ha.out pos pins s σ H (fun _ _=>False) I (tDA.exc W hr0 hf h)) fun us s1 ⟨vs,H1,I1,r,q⟩=>q.elim) he hpl
 | ok ds m1 =>
  rw [hf] at h
  refine PySem.W.callWith_K (h₀ := X.base) I.ok.mod.kin hk (thn (ha.out pos pins s σ H (fun vs H1=>spD X.K cl X0 n g vs H1 Q E0) I ?_) fun us s1 ⟨vs,H1,I1,r,q⟩=>⟨I1.kIn,?_⟩) he hpl
  ·refine tDA.at W hr0 hf fun α1 H1 v E1 W1 hr1 rv=>?_
   refine ⟨?_,α1,m1,ds,W1,rv,PQ.mono E1 h fun _ _ _ _ _ _ z=>z⟩
   rw [<- rv.length,hlen ρ mm ds m1 hf,hn]
  ·exact zrO F hr hb I1 r q
end
section
def znt (K:PySem.W.Frag):V->List V->Hp->VK->Prop:=fun x vs H Q=>∃ (a:Addr) (xs:List V) (y:V),x = .ref a/\vs=[y]/\SqL K H a xs/\xs.all zdN=true/\zdN y=true/\Q (.int ((xs.countP fun z=>eqV z y:Nat):Int)) H
theorem zok:MtR X "list.count" (znt X.K):=by
 intro pins s σ H x vs v us Q I rx rv h
 obtain ⟨a,xs,y,rfl,rfl,ha,hf,hy,q⟩:=h
 cases rx
 obtain ⟨u,rfl,ru⟩:=zcn rv
 obtain ⟨its,r,p,_⟩:=I.list ha
 obtain ⟨⟨cls,dd,data,sl⟩,n,ho,hc,hd1,hd⟩:=id p
 simp only at hc hd hd1
 subst hc hd hd1
 refine call_meets PySem.F.slot_list_count ⟨_,ho,rfl⟩ PySem.F.entry_list_count (PySem.F.args_list_count_2 _ _) (SeqAt.list_countAt a its.toArray n none sl u (eqU y)) ⟨ho,fun z hz=>zf7 ru hy r hf z (by simpa using hz),?_⟩
 have e:its.toArray.toList.countP (eqU y)=xs.countP fun z=>eqV z y:=zhC r hf
 rw [e]
 exact ⟨.int _,H,I.tok _,⟨_,rfl⟩,q⟩
def rLidx (K:PySem.W.Frag):V->List V->Hp->VK->Prop:=fun x vs H Q=>∃ (a:Addr) (xs:List V) (y:V) (j:Nat),x = .ref a/\vs=[y]/\SqL K H a xs/\xs.all zdN=true/\zdN y=true/\xs.findIdx? (fun z=>eqV z y)=some j/\Q (.int (j:Int)) H
theorem zkA:∀ {xs:List V} {us:List Value} {i:Nat} (h:i < us.length),Vals xs us->∃ z,xs[i]?=some z/\RelV z us[i]
 | [],_,i,h,r=>by cases r; cases h
 | z::zs,_,i,h,r=>by
  cases r with
  | cons r1 r2 =>
   cases i with
   | zero=>exact ⟨z,rfl,r1⟩
   | succ i=>exact zkA (xs:=zs) (by simpa using h) r2
theorem zsL:MtR X "list.index" (rLidx X.K):=by
 intro pins s σ H x vs v us Q I rx rv h
 obtain ⟨a,xs,y,j,rfl,rfl,ha,hf,hy,hj,q⟩:=h
 cases rx
 obtain ⟨u,rfl,ru⟩:=zcn rv
 obtain ⟨its,r,p,hl⟩:=I.list ha
 have hlen:xs.length=its.length:=r.length
 obtain ⟨⟨cls,dd,data,sl⟩,n,ho,hc,hd1,hd⟩:=id p
 simp only at hc hd hd1
 subst hc hd hd1
 obtain ⟨hi,hh,hb⟩:=List.findIdx?_eq_some_iff_getElem.mp hj
 have fl:∀ z∈xs,zdN z=true:=fun z hz=>List.all_eq_true.mp hf z hz
 refine call_meets PySem.F.slot_list_index ⟨_,ho,rfl⟩ PySem.F.entry_list_index (PySem.F.args_list_index_2 _ _) (SeqAt.list_indexAt a its.toArray n none sl u (eqU y) j (by simp; omega) ?_ ?_ ?_) ⟨ho,?_,?_⟩
 ·have:sizeLine < 2 ^ 62:=by decide
  omega
 ·obtain ⟨z,hz,rz⟩:=zkA (i:=j) (by omega) r
  simp only [List.getElem_toArray]
  rw [List.getElem?_eq_getElem hi] at hz
  cases hz
  rw [zkC rz (fl _ (List.getElem_mem hi))]
  exact hh
 ·intro k hk hkj
  obtain ⟨z,hz,rz⟩:=zkA (i:=k) (by simpa using hk) r
  simp only [List.getElem_toArray]
  have hk2:k < xs.length:=by omega
  rw [List.getElem?_eq_getElem hk2] at hz
  cases hz
  rw [zkC rz (fl _ (List.getElem_mem hk2))]
  simpa using hb k hkj
 ·exact fun z hz=>zf7 ru hy r hf z (by simpa using hz)
 ·exact ⟨.int _,H,I.tok _,⟨_,rfl⟩,q⟩
def zku (o:D) (ds:List D) (m:Sto):Res D:=match o,ds with
 | .lst xs,[y]=>if (xs.all zju && zju y)=true then .ok (.int (((xs.map vOf).countP fun z=>eqV z (vOf y):Nat):Int)) m else .bad
 | _,_ => .bad
def zsO (o:D) (ds:List D) (m:Sto):Res D:=match o,ds with
 | .lst xs,[y]=>if (xs.all zju && zju y)=true then (match (xs.map vOf).findIdx? (fun z=>eqV z (vOf y)) with
  | some j => .ok (.int (j:Nat)) m
  | none => .bad) else .bad
 | _,_ => .bad
theorem zly {xs:List D} (h:xs.all zju=true):(xs.map vOf).all zdN=true:=by
 rw [List.all_map,List.all_eq_true]
 exact fun d hd=>zhO (List.all_eq_true.mp h d hd)
theorem zoq:MtD K cl ex (znt K) zku:=fun α m H x xs vx vs Q W rx rxs h=>by
 unfold zku at h
 split at h
 ·obtain ⟨hc,h⟩:=PQ.if h
  rw [Bool.and_eq_true] at hc
  rw [Rep] at rx
  obtain ⟨a,ys,rfl,_,h1,r1⟩:=rx
  obtain ⟨v,rfl,rv⟩:=rxs.one_of
  have e1:=zhN hc.1 r1
  have e2:=zjY hc.2 rv
  subst e1 e2
  exact ⟨a,_,_,rfl,rfl,.inl h1,zly hc.1,zhO hc.2,PQ.ok W h _ zfa⟩
 ·exact h.elim
theorem zsM:MtD K cl ex (rLidx K) zsO:=fun α m H x xs vx vs Q W rx rxs h=>by
 unfold zsO at h
 split at h
 ·obtain ⟨hc,h⟩:=PQ.if h
  rw [Bool.and_eq_true] at hc
  rw [Rep] at rx
  obtain ⟨a,ys,rfl,_,h1,r1⟩:=rx
  obtain ⟨v,rfl,rv⟩:=rxs.one_of
  have e1:=zhN hc.1 r1
  have e2:=zjY hc.2 rv
  subst e1 e2
  split at h
  ·rename_i j hj
   exact ⟨a,_,_,j,rfl,rfl,.inl h1,zly hc.1,zhO hc.2,hj,PQ.ok W h _ zfa⟩
  ·exact h.elim
 ·exact h.elim
end
def zbp:SV :=
 (sIf (tPu (ze9 (tV (eFn zaR (zac (eOp ixD (zcX "Presser" "pact" (zaf 0)) (eC (.int 0))) (zac (zaf 1) zaj))))))
 (zni "NoHead" (aPu (zac (eC (.str "no head of this shape")) zaj)))
 zbL)
def zaD:List D->Sto->Res D:=zaY 2 zbp
def za2:SV :=
 (zaw (zbi (zjU "Presser" "ask_head" zaD (zaf 0) (zac (zaf 1) zaj)))
 (zaw (sPu (zaK (zbQ "Presser" "sent" zak (zaf 0) zaj) (gN 2)))
 (zaw (sIf (tPu (tV (eOp eqD (zaf 2) (eOp zfU (eC (.int 1)) (eOp ixD (zcX "Presser" "pact" (zaf 0)) (eC (.int 1)))))))
 (zni "NoMore" (aPu (zac (eC (.str "all numbers are used up")) zaj)))
 zbL)
 (zaw (sPu (zaK (eFn zc8 (zac (zcX "Presser" "pact" (zaf 0)) (zac (zbQ "Presser" "shortest" zaT (zaf 0) (zac (zaf 1) zaj)) (zac (zaf 2) (zac (zaf 1) zaj))))) (gN 3)))
 (zaw (sPu (zbi (zdr zdH zcA (zcX "Presser" "pressed" (zaf 0)) (zac (zaf 1) zaj))))
 (sPu (zaL (zaf 3))))))))
def zaF:List D->Sto->Res D:=zaY 4 za2
def za5:SV :=
 (sIf (tPu (tV (eFn zaM (zac (zaf 1) (zac (eC (.str "anew")) (zac (eC (.int 1)) zaj))))))
 (zaw (sPu (zeM "Presser" "fresh" (zaf 0) (zbQ "Presser" "sent" zak (zaf 0) zaj)))
 (sPu (zeM "Presser" "base" (zaf 0) (eC .non))))
 (sIf (tPu (zej (tV (eFn zaM (zac (zaf 1) (zac (eC (.str "have")) (zac (eC (.int 2)) zaj))))) (tV (eFn zaQ (zac (eOp ixD (zaf 1) (eC (.int 1))) (zac (eC (.int 0)) (zac (eOp zeC (zbQ "Presser" "sent" zak (zaf 0) zaj) (eC (.int 1))) zaj)))))))
 (sPu (zbi (zbQ "Presser" "heard_of" za4 (zaf 0) (zac (eOp ixD (zaf 1) (eC (.int 1))) zaj))))
 (zni "NoWord" (aPu (zac (eC (.str "no word that may come back")) zaj)))))
def zap:List D->Sto->Res D:=zaY 2 za5
def zcc:SV:=by walk_at "#Xt]wkyZtWy[;hwiwjvwtu"
def za1:List D->Sto->Res D:=zaY 3 zcc
def zbx:SV:=by walk_at "#Xt]wkyZtWy[RuluDuCw:Iw0uEhwiwjvwtui2!"
def zay:List D->Sto->Res D:=zaY 2 zbx
def zmA:SV:=by walk_at "#w/v}wmvBy-(v}wmvBy/(v}wmvBy0(v}wmvBy.(ED[wlt8xq|T$w<!)x9u||UvB(;M|Vt;9u!vCcxXcvic|W!xq|X$w<!"
def zb8:List D->Sto->Res D:=zaY 2 zmA
def zgK:SV:=by walk_at "#5MxMu<X|YvBy,vDtMt]tMwnufvDu/t]u/woufvDwpt]y]y^(VtXt]v#v$uf.tk&|Zt(tY;Y"
def zaS:List D->Sto->Res D:=zaY 6 zgK
def zfB:SV:=by walk_at "#w1uC1t&3w/v:99t|FH)v;)w</icy_w6tZu^x7yRtYCvzuSYt*.uRGGu+$uTt?HtDt(!u+$t?GH)uTu<v3Yu!u>$tD_ubu+$t?)uT+|[1ubi/xOy`8>vCz^1t,u(16"
def zb0:List D->Sto->Res D:=zaY 5 zfB
def zfA:SV:=by walk_at "#w/+xrUurv;)urw<ururw9ur/iurcy_t&D5G$u!+tru._t,tru./it,v_cu.t,v_cu}tZcu.cu}w6ubi/xOy`_w<EDv3$u!+tru,_t,u(+tru.6w6/it,u(_cu}urw6_6+xru^x7|]6"
def zbZ:List D->Sto->Res D:=zaY 2 zfA
def zfz:SV:=by walk_at "#w(/u7vExYxZvEwgwh$xyt&7w#&|^Udw;FE.[xsvzuS&trtMcyaw3t~xE1txt(tZu!vCvC!nw1+uVtTuCw;I6E0v?t8t|ItD!vFvAwpt(uA!Mtmnw#&|_/u7$t&.rvFvAu/t(tZMxXn;PwYtD/u7vExYxZvEwgwh$w8Y"
def zba:List D->Sto->Res D:=zaY 7 zfz
def zoU:SV:=by walk_at "#C|`UEDtwuDujtBC|a1x<!y&7tPw*tP.tP0sw(du>)&wZ1udub|buhuTt?u$uAw3XxSSu{+|cv^|dtxt,|e1d6twuDv:u[>)Evatv&wZ1uj!Fupu/u0wot)+yb1t6va6w2vdtQt%lxo>Fv8wq1w)uGnXuptMu0wnt)uGtk&yc1duaudEu{5hv#u0v$t)uaEvg[vFxwctMuatZMvin[v8wq1w)uGnrwlt8hv#u0v$t)uGlvgt8u7t)!tCu[>)nzYy3"
def zls:List D->Sto->Res D:=zaY 12 zoU
theorem sco {P:List Str} {sc:Scope} (a:autoParam (sc.kind = .function) AutoP.a3._auto_1) (b:autoParam (sc.isCoroutine=false) AutoP.a3._auto_1) (c:autoParam (sc.isGenerator=false) AutoP.a3._auto_1) (d:autoParam (N.Nodup) AutoP.a6._auto_1) (e:autoParam (N.take P.length=P) AutoP.a3._auto_1)
  (f:autoParam (∀ x∈P,sc.names.lookup x=some .local∨sc.names.lookup x=some .cell) AutoP.a6._auto_1) (g:autoParam (∀ y∈sc.names,y.2 ≠ .free) AutoP.a6._auto_1):FnScope N P sc:=⟨a,b,c,d,e,f,g⟩
theorem qxi {a b:Expr} {fb:EV} {k:Nat} (hr:Room k X.A) (ha:QE X cl ex a fa) (hb:QE X cl ex b fb) (hs:autoParam (zkM b) AutoP.a7._auto_1):QE X cl ex (.Subscript a b pos) (eOp ixD fa fb) :=
 qe_ix (ix_A (zoO hr)) od_ix ha hb hs
theorem qfn {e:Expr} {fr:AV} {k:Nat} (h:FnX X.prog X.w X.K X.mg X.base cl x k n g) (hr:Room j X.A)
  (ha:QA X cl X0 (e::es) fr) (hn:autoParam (n=(e::es).length) AutoP.a3._auto_1) (hk:autoParam (k<=j) AutoP.a1._auto_1) (hg:autoParam (Gl X x) AutoP.a3._auto_1) (hlen:autoParam (∀ ρ m ds m1,fr ρ m = .ok ds m1->ds.length=(e::es).length) AutoP.a8._auto_1) (hdb:autoParam ((x == ("__debug__" : Str))=false) AutoP.a1._auto_1) (he:autoParam (starEach (e::es) X.env=(false,eval e X.env)::starEach es X.env) AutoP.a3._auto_1) (hpl:autoParam ((backTo pos (starEach es X.env)).any (·.1)=false) AutoP.a3._auto_1) :
  QE X cl X0 (.Call (.Name x p) (e::es) [] pos) (eFn g fr):=qe_fn h hn (hr.mono hk) hg ha hlen hdb he hpl
theorem mkx (P:Program) (w:World) (base:Heap) (cl:Str->Addr) (k:Nat) (F:Fun K x qual st f fd) (b:Binds K fd ps []) (m:mg x=some (.ref f)) (S:FnScope N ps (zah st))
  (h:∀ (cdv:Value) (A:Around) (outer:List PySem.Env) (s:Shared) (H:Hp) (E:XK),Room k (A.deeper (envOfC qual (zah st) s.heap.objs.size f cdv))->QSs (zkF CX0 P w K mg base N qual (zah st) f cdv A outer s H E).nox cl X0 (zbe st) body):FnX P w K mg base cl x (k+1) ps.length (zaY N.length body):=FnX.mk' F b m S rfl h
theorem mkm (P:Program) (w:World) (base:Heap) (cl:Str->Addr) (k:Nat) (F:Fun K x qual st f fd) (b:Binds K fd ps []) (m:Meth K (cl c) x f) (S:FnScope N ps (zah st))
  (h:∀ (cdv:Value) (A:Around) (outer:List PySem.Env) (s:Shared) (H:Hp) (E:XK),Room k (A.deeper (envOfC qual (zah st) s.heap.objs.size f cdv))->QSs (zkF CX0 P w K mg base N qual (zah st) f cdv A outer s H E).nox cl X0 (zbe st) body):FnM P w K mg base cl c x (k+1) ps.length (zaY N.length body):=FnM.mk' F b m S rfl h
theorem _root_.L2.Fun.bindA (F:Fun K x qual st f fd)
  (h:∀ (kV doc pm:Value) (an:Option Addr) (cdv ct:Value) (us:List Value),us.length=ps.length->bindArgs (PySem.W.fnOf x qual (zfo st) (zbe st) (zah st) .none kV doc pm an cdv ct) ⟨us,[]⟩=pure (ps.zip us):=by intro _ _ _ _ _ _ us hl; first | (obtain rfl:=us0 hl; rfl) | (obtain ⟨_,rfl⟩:=us1 hl; rfl) | (obtain ⟨_,_,rfl⟩:=us2 hl; rfl) | (obtain ⟨_,_,_,rfl⟩:=us3 hl; rfl) | (obtain ⟨_,_,_,_,rfl⟩:=us4 hl; rfl) | (obtain ⟨_,_,_,_,_,rfl⟩:=us5 hl; rfl) | (obtain ⟨_,_,_,_,_,_,rfl⟩:=us6 hl; rfl)):Binds K fd ps []:=F.binds h
end MD
namespace Mth
end Mth
set_option autoImplicit false
namespace MD
open PySem L2
end MD
set_option autoImplicit false
namespace L2
open PySem PySem.Spec PyProof.Rows
end L2
set_option autoImplicit false
namespace MD
open PySem PySem.Spec PyProof.Rows L2
end MD
set_option autoImplicit false
namespace L2
open PySem PySem.Spec PyProof.Rows
end L2
namespace PySem
open Sem (wp)
end PySem
set_option autoImplicit false
namespace L2
open PySem PySem.Spec PyProof.Rows
end L2
namespace MD
open PySem PySem.Spec PyProof.Rows L2
section
variable {K:PySem.W.Frag} {cl:Str->Addr} {ex:XD} {gt:GV} {ta:TV} {fk fv:EV} {fr:AV}
end
end MD
set_option autoImplicit false
namespace L2
open PySem PySem.Spec PyProof.Rows
end L2
namespace MD
open PySem PySem.Spec PyProof.Rows L2
end MD
set_option autoImplicit false
namespace MD
open PySem PySem.Spec PyProof.Rows L2
open PySem.SeqAt
section
variable {prog:Program} {w:World} {A:Around} {E:Value->Shared->Prop} {s:Shared} {Q:Value->Shared->Prop}
open AutoSeq1 (wpAny_loadPart')
end
variable {K:PySem.W.Frag}
section
variable {X:Cx} {cl:Str->Addr} {ex:XD}
end
theorem zlh {a:Addr} {o:Obj}:∀ {K:PySem.W.Frag},K.lookup a=some o->(a,o)∈K
 | [],h=>nomatch h
 | (b,u)::K,h=>by
  rw [List.lookup_cons] at h
  cases hb:a == b with
  | true =>
   rw [hb] at h
   cases h
   rw [eq_of_beq hb]
   exact List.mem_cons_self
  | false =>
   rw [hb] at h
   exact List.mem_cons_of_mem _ (zlh h)
theorem Kof_in (n:Nat) (h:Heap):(Kof n h).In h:=fun a o e=>by
 obtain ⟨b,_,hb⟩:=List.mem_filterMap.mp (zlh e)
 obtain ⟨u,hu,e2⟩:=Option.map_eq_some_iff.mp hb
 cases e2
 exact hu
variable {x:Str}
theorem fun_of {f:Addr} {q:Str} {st:Stmt} (h:fnV K f=(some (x,q,zfo st,zbe st,zah st),true)):∃ fd,Fun K x q st f fd:=by
 unfold fnV at h
 split at h
 ·rename_i oc od x' q' ps b sc gl dv kV doc pm an cd ct bl sl hl
  simp only [Prod.mk.injEq,Option.some.injEq,Bool.and_eq_true] at h
  obtain ⟨⟨rfl,rfl,rfl,rfl,rfl⟩,⟨⟨h1,h2⟩,h3⟩,h4⟩:=h
  have e1:=Nat.eq_of_beq_eq_true h1
  have e2:=Nat.eq_of_beq_eq_true h2
  subst e1 e2
  have e3:dv = .none:=by
   unfold zmU at h3
   split at h3
   ·rfl
   ·cases h3
  subst e3
  refine ⟨_,⟨⟨oc,od,kV,doc,pm,an,cd,ct,sl,rfl,hl,h4⟩,?_⟩⟩
  unfold PySem.W.keepIn
  dsimp only
  rw [hl]
 ·cases h
variable {τ υ : Type}
theorem zmO {f : τ -> υ} {l:List τ} {e:List υ} (h:l.map f=e) (i:Nat) {x : τ} {v : υ} (hx:l[i]?=some x) (hv:e[i]?=some v):f x=v:=by
 rw [<- h,List.getElem?_map,hx] at hv
 exact Option.some.inj hv
variable {α γ : Type}
theorem both {β : Type} {r:Option α} {f:α -> β} {g:α -> γ} {a : β} {b : γ} (h1:r.map f=some a) (h2:r.map g=some b):r.map (fun s=>(f s,g s))=some (a,b):=by
 cases r with
 | none=>cases h1
 | some s =>
  simp only [Option.map_some,Option.some.injEq] at h1 h2 ⊢
  rw [h1,h2]
theorem zoG {r:Option α} {g:α -> τ -> υ} {l1 l2:List τ} {e1 e2:List υ} (h1:r.map (fun s=>l1.map (g s))=some e1) (h2:r.map (fun s=>l2.map (g s))=some e2):r.map (fun s=>(l1++l2).map (g s))=some (e1++e2):=by
 cases r with
 | none=>cases h1
 | some s =>
  simp only [Option.map_some,Option.some.injEq] at h1 h2 ⊢
  rw [List.map_append,h1,h2]
variable {B C:Type} {d:D}
theorem both4 {A D:Type} {r:Option α} {f1:α -> A} {f2:α -> B} {f3:α -> C} {f4:α -> D} {a:A} {b:B} {c:C} {d:D} (h1:r.map f1=some a) (h2:r.map (fun s=>(f2 s,f4 s))=some (b,d)) (h3:r.map f3=some c):r.map (fun s=>(f1 s,f2 s,f3 s,f4 s))=some (a,b,c,d):=by
 cases r with
 | none=>cases h1
 | some s =>
  simp only [Option.map_some,Option.some.injEq,Prod.mk.injEq] at h1 h2 h3 ⊢
  exact ⟨h1,h2.1,h3,h2.2⟩
theorem parts4 {D:Type} {r:Option α} {f:α -> Seen × B × C × D} {g:Seen × B × C × D} (k:Nat) (ha:r.map (fun s=>(f s).1.defs.take k)=some (g.1.defs.take k)) (hb:r.map (fun s=>(f s).1.defs.drop k)=some (g.1.defs.drop k)) (ho:r.map (fun s=>(f s).1.ownsOk)=some g.1.ownsOk) (hn:r.map (fun s=>(f s).1.names)=some g.1.names) (h1:r.map (fun s=>((f s).1.globalsOk,(f s).1.builtinsOk,(f s).1.noLimit,(f s).1.gens))=some (g.1.globalsOk,g.1.builtinsOk,g.1.noLimit,g.1.gens)) (hv:r.map (fun s=>(f s).2.1)=some g.2.1) (h2:r.map (fun s=>(f s).2.2.1)=some g.2.2.1) (h3:r.map (fun s=>(f s).2.2.2)=some g.2.2.2):r.map f=some g:=by
 cases r with
 | none=>cases h1
 | some s =>
  simp only [Option.map_some,Option.some.injEq,Prod.mk.injEq] at ha hb ho hn h1 hv h2 h3 ⊢
  have e0:(f s).1.defs=g.1.defs:=by rw [<- List.take_append_drop k (f s).1.defs,ha,hb,List.take_append_drop]
  generalize f s=x at *
  obtain ⟨⟨a1,a2,a3,a4,a5,a6,a7⟩,b,c,d⟩:=x
  obtain ⟨⟨b1,b2,b3,b4,b5,b6,b7⟩,b',c',d'⟩:=g
  simp only at e0 ho hn h1 hv h2 h3
  obtain ⟨rfl,rfl,rfl,rfl⟩:=h1
  subst e0 ho hn hv h2 h3
  rfl
variable {n:Nat}
theorem walk_ofY {l:PySem.W.OpenLaw} {k nK:Nat} {q:Program} {loose:List Str} {XP:(Str->Option Value)->Heap->Prop} {d:DefRec} {CX:CXT} {sp:PySem.W.Frag->Sp} {Yf:PySem.W.Frag->α} {E:α}
  (hn:l.most=some n) (hn2:n<=sizeLine) (hdf:d.params.defaults=[]) (hr:Room k callerA)
  (F:∀ (K:PySem.W.Frag),Yf K=E->∀ (w:World) (mg:Str->Option Value) (fa:Addr) (h:Heap),K.In h->h.Ns mainGlobals mg->mg d.name=some (.ref fa) →
   ∃ fd:FuncData,(∀ (s:Shared) (u:Value),BindsTo s fd ⟨[u],[]⟩ [(x,u)])/\∀ base:Heap,K.In base->base.Ns mainGlobals mg->FnOk l.prog w K mg base CX k fa fd [x] (sp K))
  (hsp:∀ (K:PySem.W.Frag) (H:Hp) (a:Addr) (ns:List Int),ns.length<=n->Only H->SqL K H a (ns.map V.int)->sp K [.ref a] H (fun v _=>v = .bl true) fun _ _ _=>False)
  (hCX:∀ (H:Hp) (s:Shared) (e:Value) (s':Shared),CX [] H s (fun _ _ _=>False) e s'->False) :
  PySem.W.WalkX q loose XP (fun s=>Yf (Kof nK s.heap)) (fun _=>E) l.row.toRowW d [] (fun f vs=>PySem.call f vs):=by
 intro w s₀ s₁ mg mb G y a o pm cd doc dV kV ho hd hcd hD hmg hg args vals as' L hpre hlay hrd hwl hlo
 have KX:(Kof nK s₀.heap).In s₁.heap:=(Kof_in nK s₀.heap).keeps L.keeps
 exact L2.walk_ofK (YP:=fun w h=>(Kof nK s₀.heap).In h) (K:=fun _=>Kof nK s₀.heap) hn hn2 hdf hr (fun w h Y=>Y) (F (Kof nK s₀.heap) y) hsp hCX w s₀ s₁ mg mb G KX a o pm cd doc dV kV ho hd hcd hD hmg hg args vals as' hpre hlay hrd hwl hlo
section
variable {β : Type}
def kThen (f:α -> Sto->Res β) (g : β -> Sto->Res γ):α -> Sto->Res γ := fun a m=>(f a m).bind g
theorem then_at (f:α -> Sto->Res β) (g : β -> Sto->Res γ) (a:α) (m:Sto):kThen f g a m=(f a m).bind g:=rfl
theorem bind_then (r:Res α) (f:α -> Sto->Res β) (g : β -> Sto->Res γ):(r.bind f).bind g=r.bind (kThen f g):=Res.bind_assoc r f g
end
section
variable (m:Sto) (ρ : En) (d:D) (f g:SV) (fa fb fc:EV) (fr:AV) (c t:TV) (h:GV)
def kSeq (g:SV):Fl->Sto->Res Fl:=fun fl m1=>match fl with
 | .nx ρ1=>g ρ1 m1
 | fl => .ok fl m1
theorem seq_at:zaw f g ρ m=(f ρ m).bind (kSeq g):=rfl
theorem seq_nx:kSeq g (.nx ρ) m=g ρ m:=rfl
theorem seq_rt:kSeq g (.rt d) m = .ok (.rt d) m:=rfl
theorem nil_at:zbL ρ m = .ok (.nx ρ) m:=rfl
def kRt:D->Sto->Res Fl:=fun d m => .ok (.rt d) m
theorem ret_at:zaL fa ρ m=(fa ρ m).bind kRt:=rfl
theorem rt_at:kRt d m = .ok (.rt d) m:=rfl
theorem retN_at:sRetN ρ m = .ok (.rt .non) m:=rfl
def kDrop (ρ : En):D->Sto->Res Fl:=fun _ m => .ok (.nx ρ) m
theorem drop_at:zbi fa ρ m=(fa ρ m).bind (kDrop ρ):=rfl
theorem kdrop_at:kDrop ρ d m = .ok (.nx ρ) m:=rfl
def kIf (f g:SV) (ρ : En):Bool->Sto->Res Fl:=fun b m=>if b=true then f ρ m else g ρ m
theorem if_at:sIf c f g ρ m=(c ρ m).bind (kIf f g ρ):=rfl
theorem kif_at (b:Bool):kIf f g ρ b m=if b=true then f ρ m else g ρ m:=rfl
def kAsg (h:GV) (ρ : En):D->Sto->Res Fl:=fun d m1=>(h d ρ m1).bind fun ρ1 m2 => .ok (.nx ρ1) m2
def kNx:En->Sto->Res Fl:=fun ρ m => .ok (.nx ρ) m
theorem asg_at:zaK fa h ρ m=(fa ρ m).bind (kAsg h ρ):=rfl
theorem kasg_at:kAsg h ρ d m=(h d ρ m).bind kNx:=rfl
theorem nx_at:kNx ρ m = .ok (.nx ρ) m:=rfl
theorem gN_at (i:Nat):gN i d ρ m = .ok (ρ.set i (some d)) m:=rfl
theorem gs_nil:zdI [] ρ m = .ok ρ m:=rfl
theorem gs_cons (gs:List D->En->Sto->Res En) (r:List D):zaN h gs (d::r) ρ m=(h d ρ m).bind (gs r):=rfl
theorem gT_at (n:Nat) (gs:List D->En->Sto->Res En) (ds:List D):gT n gs (.tup ds) ρ m=if ds.length=n then gs ds ρ m else .bad:=rfl
def kPar (i j:Nat) (ρ : En):List D->Sto->Res Fl:=fun ds m1=>match ds with
 | [x,y] => .ok (.nx ((ρ.set i (some x)).set j (some y))) m1
 | _ => .bad
theorem par_at (i j:Nat):sPar i j fr ρ m=(fr ρ m).bind (kPar i j ρ):=rfl
theorem kpar_at (i j:Nat) (x y:D):kPar i j ρ [x,y] m = .ok (.nx ((ρ.set i (some x)).set j (some y))) m:=rfl
def kFor (h:GV) (f:SV) (ρ : En):List D->Sto->Res Fl:=fun ds m1=>zd4 h f ds ρ m1
theorem for_at:zh6 fr h f ρ m=(fr ρ m).bind (kFor h f ρ):=rfl
theorem kfor_at (ds:List D):kFor h f ρ ds m=zd4 h f ds ρ m:=rfl
theorem eC_at:eC d ρ m = .ok d m:=rfl
def kOp (g:D->D->Sto->Res D) (fb:EV) (ρ : En):D->Sto->Res D:=fun x m1=>(fb ρ m1).bind (g x)
theorem op_at (g:D->D->Sto->Res D):eOp g fa fb ρ m=(fa ρ m).bind (kOp g fb ρ):=rfl
theorem kop_at (g:D->D->Sto->Res D):kOp g fb ρ d m=(fb ρ m).bind (g d):=rfl
theorem un_at (g:D->Sto->Res D):eUn g fa ρ m=(fa ρ m).bind g:=rfl
theorem fn_at (g:List D->Sto->Res D):eFn g fr ρ m=(fr ρ m).bind g:=rfl
def kIfE (f g:EV) (ρ : En):Bool->Sto->Res D:=fun b m=>if b=true then f ρ m else g ρ m
theorem ife_at:eIf c fa fb ρ m=(c ρ m).bind (kIfE fa fb ρ):=rfl
theorem kife_at (b:Bool):kIfE fa fb ρ b m=if b=true then fa ρ m else fb ρ m:=rfl
theorem aNil_at:zaj ρ m = .ok [] m:=rfl
def kCons (fr:AV) (ρ : En):D->Sto->Res (List D):=fun x m1=>(fr ρ m1).bind fun xs m2 => .ok (x::xs) m2
def zq7 (x:D):List D->Sto->Res (List D):=fun xs m2 => .ok (x::xs) m2
theorem aCons_at:zac fa fr ρ m=(fa ρ m).bind (kCons fr ρ):=rfl
theorem kcons_at:kCons fr ρ d m=(fr ρ m).bind (zq7 d):=rfl
theorem kcons2_at (xs:List D):zq7 d xs m = .ok (d::xs) m:=rfl
theorem asB_at (b:Bool):asB (.bl b) m = .ok b m:=rfl
theorem tV_at:tV fa ρ m=(fa ρ m).bind asB:=rfl
def kAndT (t:TV) (ρ : En):Bool->Sto->Res Bool:=fun b m=>if b=true then t ρ m else .ok false m
theorem andT_at:zej c t ρ m=(c ρ m).bind (kAndT t ρ):=rfl
theorem kandT_at (b:Bool):kAndT t ρ b m=if b=true then t ρ m else .ok false m:=rfl
def kOrT (t:TV) (ρ : En):Bool->Sto->Res Bool:=fun b m=>if b=true then .ok true m else t ρ m
theorem orT_at:tOrM c t ρ m=(c ρ m).bind (kOrT t ρ):=rfl
theorem korT_at (b:Bool):kOrT t ρ b m=if b=true then .ok true m else t ρ m:=rfl
def kNotT:Bool->Sto->Res Bool:=fun c m1 => .ok (!c) m1
theorem notT_at:ze9 c ρ m=(c ρ m).bind kNotT:=rfl
theorem knotT_at (b:Bool):kNotT b m = .ok (!b) m:=rfl
def kAnd (fb:EV) (ρ : En):D->Sto->Res D:=fun c m1=>(asB c m1).bind fun c m1=>if c=true then fb ρ m1 else .ok (.bl false) m1
theorem and_at:zrg fa fb ρ m=(fa ρ m).bind (kAnd fb ρ):=rfl
theorem kand_at (b:Bool):kAnd fb ρ (.bl b) m=if b=true then fb ρ m else .ok (.bl false) m:=rfl
def kOr (fb:EV) (ρ : En):D->Sto->Res D:=fun c m1=>(asB c m1).bind fun c m1=>if c=true then .ok (.bl true) m1 else fb ρ m1
theorem or_at:eOr fa fb ρ m=(fa ρ m).bind (kOr fb ρ):=rfl
theorem kor_at (b:Bool):kOr fb ρ (.bl b) m=if b=true then .ok (.bl true) m else fb ρ m:=rfl
def kNot:D->Sto->Res D:=fun c m1=>(asB c m1).bind fun c m1 => .ok (.bl (!c)) m1
theorem not_at:eNot fa ρ m=(fa ρ m).bind kNot:=rfl
theorem knot_at (b:Bool):kNot (.bl b) m = .ok (.bl (!b)) m:=rfl
theorem aIt_at:aIt fa ρ m=(fa ρ m).bind zmH:=rfl
theorem sq_t (ds:List D):zmH (.tup ds) m = .ok ds m:=rfl
theorem sq_l (ds:List D):zmH (.lst ds) m = .ok ds m:=rfl
theorem sq_s (z:Str):zmH (.str z) m = .ok (zgd z) m:=rfl
theorem sq_c (ds:List D):zmH (.scr ds) m = .ok ds m:=rfl
theorem rngA_at (g:List D->Sto->Res (List D)):ziB g fr ρ m=(fr ρ m).bind g:=rfl
def zsS:D->Sto->Res (List D):=fun d m1=>(asSq2 d m1).bind fun ds m2 => .ok (zcB 0 ds) m2
theorem enumA_at:zjT fa ρ m=(fa ρ m).bind zsS:=rfl
theorem kenum_t (ds:List D):zsS (.tup ds) m = .ok (zcB 0 ds) m:=rfl
theorem kenum_l (ds:List D):zsS (.lst ds) m = .ok (zcB 0 ds) m:=rfl
def kZip (fb:EV) (ρ : En):D->Sto->Res (List D):=fun x m1=>(fb ρ m1).bind (zmP x)
theorem zipA_at:aZip fa fb ρ m=(fa ρ m).bind (kZip fb ρ):=rfl
theorem kzip_at:kZip fb ρ d m=(fb ρ m).bind (zmP d):=rfl
def kZip3 (fb fc:EV) (ρ : En):D->Sto->Res (List D):=fun x m1=>(fb ρ m1).bind fun y m2=>(fc ρ m2).bind (zip3 x y)
def kZip4 (x:D) (fc:EV) (ρ : En):D->Sto->Res (List D):=fun y m1=>(fc ρ m1).bind (zip3 x y)
theorem zip3A_at:aZip3 fa fb fc ρ m=(fa ρ m).bind (kZip3 fb fc ρ):=rfl
theorem kzip3_at:kZip3 fb fc ρ d m=(fb ρ m).bind (kZip4 d fc ρ):=rfl
theorem kzip4_at (x:D):kZip4 x fc ρ d m=(fc ρ m).bind (zip3 x d):=rfl
theorem oNone_at:zhb ρ m = .ok none m:=rfl
def kSome:D->Sto->Res (Option Int):=fun d m1=>match d with
 | .int i => .ok (some i) m1
 | _ => .bad
theorem oSome_at:zeW fa ρ m=(fa ρ m).bind kSome:=rfl
theorem ksome_at (i:Int):kSome (.int i) m = .ok (some i) m:=rfl
def kSl1 (lo hi:OV) (ρ : En):D->Sto->Res D:=fun x m1=>(lo ρ m1).bind fun l m2=>(hi ρ m2).bind (slD x l)
def kSl2 (hi:OV) (ρ : En) (x:D):Option Int->Sto->Res D:=fun l m2=>(hi ρ m2).bind (slD x l)
theorem slD_at (lo hi:OV):eSl fa lo hi ρ m=(fa ρ m).bind (kSl1 lo hi ρ):=rfl
theorem ksl1_at (lo hi:OV):kSl1 lo hi ρ d m=(lo ρ m).bind (kSl2 hi ρ d):=rfl
theorem ksl2_at (hi:OV) (l:Option Int):kSl2 hi ρ d l m=(hi ρ m).bind (slD d l):=rfl
def kSlA1 (lo hi:OV) (ρ : En):D->Sto->Res D:=fun x m1=>(lo ρ m1).bind fun l m2=>(hi ρ m2).bind (slA x l)
def kSlA2 (hi:OV) (ρ : En) (x:D):Option Int->Sto->Res D:=fun l m2=>(hi ρ m2).bind (slA x l)
theorem slA_at (lo hi:OV):eSlA fa lo hi ρ m=(fa ρ m).bind (kSlA1 lo hi ρ):=rfl
theorem kslA1_at (lo hi:OV):kSlA1 lo hi ρ d m=(lo ρ m).bind (kSlA2 hi ρ d):=rfl
theorem kslA2_at (hi:OV) (l:Option Int):kSlA2 hi ρ d l m=(hi ρ m).bind (slA d l):=rfl
def kMeth (ty:D->Sto->Bool) (g:D->List D->Sto->Res D) (fr:AV) (ρ : En):D->Sto->Res D:=fun o m1=>if ty o m1=true then (fr ρ m1).bind (g o) else .bad
theorem meth_at (ty:D->Sto->Bool) (g:D->List D->Sto->Res D):zdr ty g fa fr ρ m=(fa ρ m).bind (kMeth ty g fr ρ):=rfl
theorem kmeth_at (ty:D->Sto->Bool) (g:D->List D->Sto->Res D):kMeth ty g fr ρ d m=if ty d m=true then (fr ρ m).bind (g d) else .bad:=rfl
theorem isStr_at (z:Str):zqD (.str z) m=true:=rfl
theorem isTup_at (ds:List D):zqC (.tup ds) m=true:=rfl
theorem fin_nx:zgZ (.nx ρ) m = .ok .non m:=rfl
theorem fin_rt:zgZ (.rt d) m = .ok d m:=rfl
theorem run_at (n:Nat) (ds:List D):zaY n f ds m=(f (ds.map some++List.replicate (n - ds.length) none) m).bind zgZ:=rfl
def kCh3 (g':D->D->Sto->Res D) (fc:EV) (ρ : En) (y:D):D->Sto->Res D:=fun z m3=>(asB z m3).bind fun k m3=>if k=true then (fc ρ m3).bind (g' y) else .ok (.bl false) m3
def kCh2 (g g':D->D->Sto->Res D) (fc:EV) (ρ : En) (x:D):D->Sto->Res D:=fun y m2=>(g x y m2).bind (kCh3 g' fc ρ y)
def kCh1 (g g':D->D->Sto->Res D) (fb fc:EV) (ρ : En):D->Sto->Res D:=fun x m1=>(fb ρ m1).bind (kCh2 g g' fc ρ x)
theorem chain_at (g g':D->D->Sto->Res D):zjz g g' fa fb fc ρ m=(fa ρ m).bind (kCh1 g g' fb fc ρ):=rfl
theorem kch1_at (g g':D->D->Sto->Res D):kCh1 g g' fb fc ρ d m=(fb ρ m).bind (kCh2 g g' fc ρ d):=rfl
theorem kch2_at (g g':D->D->Sto->Res D) (x:D):kCh2 g g' fc ρ x d m=(g x d m).bind (kCh3 g' fc ρ d):=rfl
theorem kch3_at (g':D->D->Sto->Res D) (y:D) (b:Bool):kCh3 g' fc ρ y (.bl b) m=if b=true then (fc ρ m).bind (g' y) else .ok (.bl false) m:=rfl
def kPutA (fo fi:EV) (ρ : En):D->Sto->Res Fl:=fun v m1=>(fo ρ m1).bind fun x m2=>(fi ρ m2).bind fun y m3=>(ziW x y v m3).bind fun _ m4 => .ok (.nx ρ) m4
def kPutB (fi:EV) (ρ : En) (v:D):D->Sto->Res Fl:=fun x m2=>(fi ρ m2).bind fun y m3=>(ziW x y v m3).bind fun _ m4 => .ok (.nx ρ) m4
def kPutC (ρ : En) (v x:D):D->Sto->Res Fl:=fun y m3=>(ziW x y v m3).bind fun _ m4 => .ok (.nx ρ) m4
def kPutE (ρ : En):Unit->Sto->Res Fl:=fun _ m4 => .ok (.nx ρ) m4
theorem put_at:zpW fa fb fc ρ m=(fc ρ m).bind (kPutA fa fb ρ):=rfl
theorem kputA_at:kPutA fa fb ρ d m=(fa ρ m).bind (kPutB fb ρ d):=rfl
theorem kputB_at (x:D):kPutB fb ρ d x m=(fb ρ m).bind (kPutC ρ d x):=rfl
theorem kputC_at (x y:D):kPutC ρ d x y m=(ziW x y d m).bind (kPutE ρ):=rfl
theorem kputE_at:kPutE ρ () m = .ok (.nx ρ) m:=rfl
theorem var_0:zaf 0 (some d::ρ) m = .ok d m:=rfl
theorem var_S (i:Nat) (x:Option D):zaf (i+1) (x::ρ) m=zaf i ρ m:=rfl
end
theorem bind_ok {β : Type} (a:α) (m:Sto) (k:α -> Sto->Res β):(Res.ok a m).bind k=k a m:=rfl
def Run (r:Res α) (P:α -> Sto->Prop):Prop:=∃ a m,r = .ok a m/\P a m
variable {Q:α -> Sto->Prop}
theorem Run.bind {β : Type} {r:Res α} {k:α -> Sto->Res β} {P : β -> Sto->Prop} (h:Run r Q) (hk:∀ a m,Q a m->Run (k a m) P):Run (r.bind k) P:=by
 obtain ⟨a,m,rfl,q⟩:=h
 exact hk a m q
variable {m:Sto} {P:α -> Sto->Prop}
theorem Run.ok {a:α} (h:P a m):Run (.ok a m) P:=⟨a,m,rfl,h⟩
theorem Run.mono {r:Res α} (h:Run r P) (k:∀ a m,P a m->Q a m):Run r Q:=by
 obtain ⟨a,m,e,p⟩:=h
 exact ⟨a,m,e,k a m p⟩
theorem zbw {g:GV} {body:SV} (I:Nat->En->Sto->Prop):∀ (ds:List D) (k:Nat) {ρ : En} {m:Sto},I k ρ m->(∀ i d ρ m,ds[i]?=some d->I (k+i) ρ m->Run ((g d ρ m).bind body) fun fl m2=>∃ ρ2,fl = .nx ρ2/\I (k+i+1) ρ2 m2) →
  Run (zd4 g body ds ρ m) fun fl m'=>∃ ρ',fl = .nx ρ'/\I (k+ds.length) ρ' m'
 | [],k,ρ,m,h,_=>⟨_,m,rfl,ρ,rfl,h⟩
 | d::r,k,ρ,m,h,st=>by
  obtain ⟨_,m2,e2,ρ2,rfl,h2⟩:=st 0 d ρ m rfl h
  obtain ⟨_,m',e3,ρ',rfl,h3⟩:=zbw I r (k+1) h2 fun i d ρ m hd hi=>by
   have:=st (i+1) d ρ m (by simpa using hd) (by rw [show k+(i+1)=k+1+i by omega]; exact hi)
   rw [show k+(i+1)+1=k+1+i+1 by omega] at this
   exact this
  refine ⟨_,m',?_,ρ',rfl,by rw [List.length_cons,show k+(r.length+1)=k+1+r.length by omega]; exact h3⟩
  rw [zd4,<- Res.bind_assoc,e2,bind_ok]
  exact e3
theorem ziy {g:GV} {el:EV} {ρ : En} (I:Nat->Sto->Prop) (P:Nat->D->D->Prop):∀ (ds:List D) (k:Nat) {m:Sto},I k m->(∀ i d m,ds[i]?=some d->I (k+i) m->Run ((g d ρ m).bind el) fun x m3=>P (k+i) d x/\I (k+i+1) m3) →
  Run (zez g zbV el ρ ds m) fun xs m'=>xs.length=ds.length/\(∀ i d x,ds[i]?=some d->xs[i]?=some x->P (k+i) d x)/\I (k+ds.length) m'
 | [],k,m,h,_=>⟨[],m,rfl,rfl,fun i d x e=>by simp at e,h⟩
 | d::r,k,m,h,st=>by
  obtain ⟨x,m3,e3,hP,h3⟩:=st 0 d m rfl h
  obtain ⟨xs,m',e4,hl,hPs,h4⟩:=ziy I P r (k+1) h3 fun i d m hd hi=>by
   have:=st (i+1) d m (by simpa using hd) (by rw [show k+(i+1)=k+1+i by omega]; exact hi)
   rw [show k+(i+1)+1=k+1+i+1 by omega,show k+(i+1)=k+1+i by omega] at this
   exact this
  refine ⟨x::xs,m',?_,by rw [List.length_cons,List.length_cons,hl],fun i d' x' hd hx=>?_,by rw [List.length_cons,show k+(r.length+1)=k+1+r.length by (clear hl; omega)]; exact h4⟩
  ·have e:zez g zbV el ρ (d::r) m=((g d ρ m).bind el).bind fun x m3=>(zez g zbV el ρ r m3).bind fun xs m4 => .ok (x::xs) m4:=by
    rw [zez,Res.bind_assoc]
    rfl
   rw [e,e3,bind_ok,e4,bind_ok]
  ·cases i with
   | zero=>simp at hd hx; subst hd hx; exact hP
   | succ i =>
    have:=hPs i d' x' (by simpa using hd) (by simpa using hx)
    rw [show k+(i+1)=k+1+i by (clear hl; omega)]
    exact this
theorem zlG {g:GV} {el:EV} {ρ : En} {m:Sto} (f:D->D):∀ (ds:List D),(∀ d∈ds,∃ ρ1,g d ρ m = .ok ρ1 m/\el ρ1 m = .ok (f d) m)->zez g zbV el ρ ds m = .ok (ds.map f) m
 | [],_=>rfl
 | d::r,h=>by
  obtain ⟨ρ1,e1,e2⟩:=h d (by simp)
  rw [zez,e1,bind_ok]
  show (Res.ok true m).bind _=_
  rw [bind_ok,if_pos rfl,e2,bind_ok,zlG f r fun d hd=>h d (List.mem_cons_of_mem _ hd),bind_ok]
  rfl
theorem zdV:∀ ns:List Int,pyL (ns.map D.int)=ns.map PyData.int
 | []=>by simp [pyL]
 | a::r=>by simp [pyL,py,zdV r]
theorem zdU:∀ ns:List Int,pyOkL (ns.map D.int)=true
 | []=>by simp [pyOkL]
 | a::r=>by simp [pyOkL,zeR,zdU r]
theorem zf9:∀ ns:List Int,PyData.canLayAll0 (ns.map PyData.int)=true
 | []=>by simp [PyData.canLayAll0]
 | a::r=>by simp [PyData.canLayAll0,PyData.canLay0,zf9 r]
theorem ziw:∀ ns:List Int,PyData.depthAll (ns.map PyData.int)=0
 | []=>by simp [PyData.depthAll]
 | a::r=>by simp [PyData.depthAll,PyData.depth,ziw r]
theorem ziv:∀ ns ms:List Int,PyData.eqvAll (ns.map PyData.int) (ms.map PyData.int)=decide (ns=ms)
 | [],[]=>by simp [PyData.eqvAll]
 | [],_::_=>by simp [PyData.eqvAll]
 | _::_,[]=>by simp [PyData.eqvAll]
 | a::r,b::t=>by
  simp only [List.map_cons,PyData.eqvAll,PyData.eqv,ziv r t]
  by_cases h:a=b <;> by_cases h':r=t <;> simp [h,h']
theorem zlF (ns:List Int):deep (.lst (ns.map D.int))=true:=by
 simp [deep,zeR,py,zdU,zdV,SeqAt.shaped,PyData.canLay0,zf9,PyData.depth,ziw]
theorem zlE (ns:List Int):deep (.tup (ns.map D.int))=true:=by
 simp [deep,zeR,py,zdU,zdV,SeqAt.shaped,PyData.canLay0,zf9,PyData.depth,ziw]
theorem zs6 (ns ms:List Int):eqB (.lst (ns.map D.int)) (.lst (ms.map D.int))=some (decide (ns=ms)):=by
 show (if deep (.lst (ns.map D.int)) && deep (.lst (ms.map D.int)) then some (PyData.eqv (py (.lst (ns.map D.int))) (py (.lst (ms.map D.int)))) else none)=_
 rw [zlF,zlF]
 simp [py,PyData.eqv,zdV,ziv]
theorem zs5 (ns ms:List Int):eqB (.tup (ns.map D.int)) (.tup (ms.map D.int))=some (decide (ns=ms)):=by
 show (if deep (.tup (ns.map D.int)) && deep (.tup (ms.map D.int)) then some (PyData.eqv (py (.tup (ns.map D.int))) (py (.tup (ms.map D.int)))) else none)=_
 rw [zlE,zlE]
 simp [py,PyData.eqv,zdV,ziv]
structure Fr (p q:Nat) (m m':Sto):Prop where
 len:m.length<=m'.length
 at':∀ j,j < m.length->j≠p->j≠q->m'[j]?=m[j]?
variable {p q:Nat}
theorem Fr.refl:Fr p q m m:=⟨Nat.le_refl _,fun _ _ _ _=>rfl⟩
theorem Fr.trans {a b c:Sto} (h:Fr p q a b) (k:Fr p q b c):Fr p q a c:=⟨Nat.le_trans h.len k.len,fun j h1 h2 h3=>(k.at' j (Nat.lt_of_lt_of_le h1 h.len) h2 h3).trans (h.at' j h1 h2 h3)⟩
variable {a:Int} {xs:List D}
section
theorem add_i (a b:Int):zbj (.int a) (.int b) m = .ok (.int (a+b)) m:=rfl
theorem sub_i (a b:Int):zeC (.int a) (.int b) m = .ok (.int (a - b)) m:=rfl
theorem eq_i (a b:Int):eqD (.int a) (.int b) m = .ok (.bl (decide (a=b))) m:=rfl
theorem ne_i (a b:Int):neD (.int a) (.int b) m = .ok (.bl (!decide (a=b))) m:=rfl
theorem eq_s (a b:Str):eqD (.str a) (.str b) m = .ok (.bl (decide (a=b))) m:=rfl
theorem ne_s (a b:Str):neD (.str a) (.str b) m = .ok (.bl (!decide (a=b))) m:=rfl
theorem lt_i (a b:Int):ltD (.int a) (.int b) m = .ok (.bl (decide (a < b))) m:=rfl
theorem gt_i (a b:Int):gtD (.int a) (.int b) m = .ok (.bl (decide (b < a))) m:=rfl
theorem ge_i (a b:Int):geD (.int a) (.int b) m = .ok (.bl (decide (b<=a))) m:=rfl
theorem le_i (a b:Int):leD (.int a) (.int b) m = .ok (.bl (decide (a<=b))) m:=rfl
theorem zkp {b:Int} (h : -(2 ^ 64) < b/\b < 2 ^ 64):zeb (.int a) (.int b) m = .ok (.int (a * b)) m:=by rw [zgv]; exact if_pos (.inr h)
theorem zil {b:Int} (h : -(2 ^ 64) < a/\a < 2 ^ 64):zeb (.int a) (.int b) m = .ok (.int (a * b)) m:=by rw [zgv]; exact if_pos (.inl h)
theorem zcq {b:Int} (h:0 < b):zer (.int a) (.int b) m = .ok (.int (a % b)) m:=if_pos h
theorem div_i {b:Int} (h:0 < b/\b < 2 ^ 64):zkB (.int a) (.int b) m = .ok (.int (a / b)) m:=by rw [zlA]; exact if_pos h
theorem zdf (h:n<=1000000):zfU (.int 1) (.int n) m = .ok (.int (2 ^ n)) m:=by
 rw [zna]
 show (if _ then _ else _)=_
 rw [if_pos ⟨by (clear h; omega),by omega,by decide⟩,Int.toNat_natCast,Int.one_mul]
theorem lst_0:zcW [] m = .ok (.lst []) m:=if_pos (Nat.zero_le _)
theorem zb2 (h:n<=8):n<=sizeLine:=Nat.le_trans h (by decide)
theorem lst_2 (a b:D):zcW [a,b] m = .ok (.lst [a,b]) m:=if_pos (zb2 (by simp))
theorem lst_3 (a b c:D):zcW [a,b,c] m = .ok (.lst [a,b,c]) m:=if_pos (zb2 (by simp))
theorem lst_4 (a b c d:D):zcW [a,b,c,d] m = .ok (.lst [a,b,c,d]) m:=if_pos (zb2 (by simp))
theorem lst_5 (a b c d e:D):zcW [a,b,c,d,e] m = .ok (.lst [a,b,c,d,e]) m:=if_pos (zb2 (by simp))
theorem tup_0:zbn [] m = .ok (.tup []) m:=if_pos (Nat.zero_le _)
theorem tup_1 (a:D):zbn [a] m = .ok (.tup [a]) m:=if_pos (zb2 (by simp))
theorem tup_2 (a b:D):zbn [a,b] m = .ok (.tup [a,b]) m:=if_pos (zb2 (by simp))
theorem tup_3 (a b c:D):zbn [a,b,c] m = .ok (.tup [a,b,c]) m:=if_pos (zb2 (by simp))
theorem zof:zis [] m = .ok (.ob m.length) (m++[.lst []]):=if_pos (Nat.zero_le _)
theorem min_i (a b:Int):zon [.int a,.int b] m = .ok (.int (if b < a then b else a)) m:=rfl
theorem len_t (xs:List D):zfO [.tup xs] m = .ok (.int xs.length) m:=rfl
theorem len_l (xs:List D):zfO [.lst xs] m = .ok (.int xs.length) m:=rfl
theorem tup_l (xs:List D):zmN [.lst xs] m = .ok (.tup xs) m:=rfl
theorem l1 (xs:List D):gL1 xs m = .ok (.lst xs) m:=rfl
theorem zgS {xs:List τ}:L2.atI xs (n:Int)=xs[n]?:=by
 unfold L2.atI L2.ixN
 by_cases h:n < xs.length
 ·rw [if_pos (by (clear h; omega)),if_pos (by omega)]
  simp
 ·rw [if_pos (by (clear h; omega)),if_neg (by omega)]
  simp
  omega
theorem zpz (h:xs[n]?=some d):ixD (.tup xs) (.int n) m = .ok d m:=by
 show opt (L2.atI xs n) m=_
 rw [zgS,h]
 rfl
theorem ix_l (h:xs[n]?=some d):ixD (.lst xs) (.int n) m = .ok d m:=by
 show opt (L2.atI xs n) m=_
 rw [zgS,h]
 rfl
theorem ix_t0 (a:D) (xs:List D):ixD (.tup (a::xs)) (.int 0) m = .ok a m:=zpz (n:=0) rfl
theorem ix_t1 (a b:D) (xs:List D):ixD (.tup (a::b::xs)) (.int 1) m = .ok b m:=zpz (n:=1) rfl
theorem ix_t2 (a b c:D) (xs:List D):ixD (.tup (a::b::c::xs)) (.int 2) m = .ok c m:=zpz (n:=2) rfl
theorem zq8 {d:Int} (h0:0<=d) (h1:d < xs.length):∃ x∈xs,ixD (.lst xs) (.int d) m = .ok x m:=by
 obtain ⟨n,rfl⟩:∃ n:Nat,d=n:=⟨d.toNat,by (clear h1; omega)⟩
 have hn:n < xs.length:=by (clear h0; omega)
 exact ⟨xs[n],List.getElem_mem hn,ix_l (by simp [hn])⟩
end
variable {it:AV} {el:EV} {ρ : En} {ds:List D}
theorem zbt {g:GV} (f:D->D) (h:it ρ m = .ok ds m) (hl:ds.length<=1000000) (hf:∀ d∈ds,∃ ρ1,g d (ρ ++ List.replicate n none) m = .ok ρ1 m/\el ρ1 m = .ok (f d) m):zbR n it g zbV el ρ m = .ok (ds.map f) m:=by
 unfold zbR
 rw [h,bind_ok,if_pos hl]
 exact zlG f ds hf
theorem zgW {g:GV} (I:Nat->Sto->Prop) (P:Nat->D->D->Prop) (h:it ρ m = .ok ds m) (hl:ds.length<=1000000) (h0:I 0 m) (hf:∀ i d m,ds[i]?=some d->I i m->Run ((g d (ρ ++ List.replicate n none) m).bind el) fun x m3=>P i d x/\I (i+1) m3) :
  Run (zbR n it g zbV el ρ m) fun xs m'=>xs.length=ds.length/\(∀ i d x,ds[i]?=some d->xs[i]?=some x->P i d x)/\I ds.length m':=by
 unfold zbR
 rw [h,bind_ok,if_pos hl]
 have:=ziy (g:=g) (el:=el) (ρ := ρ ++ List.replicate n none) I P ds 0 h0 (fun i d m hd hi=>by
  have:=hf i d m hd (by rw [Nat.zero_add] at hi; exact hi)
  rw [Nat.zero_add]
  exact this)
 simpa only [Nat.zero_add] using this
theorem za7 (lo:Int) (n:Nat):(zcU lo n).length=n:=by simp [zcU]
theorem zgi {j:Int} (h:0<=j) (h':j<=1000000):zj7 [.int j] m = .ok (zcU 0 j.toNat) m:=by rw [znn]; exact if_pos ⟨by (clear h'; omega),by (clear h; omega)⟩
theorem zsD {a b:String} (h:Str.ofString a=Str.ofString b):a=b:=by
 rw [PySem.Str.ofString_eq_toList,PySem.Str.ofString_eq_toList] at h
 have h2:=congrArg (fun s:Str=>s.cps.toList) h
 exact String.toList_inj.mp ((List.map_inj_right fun x y e=>Char.toNat_inj.mp e).mp h2)
theorem ofs_eq (a b:String):(Str.ofString a=Str.ofString b)=(a=b):=propext ⟨zsD,fun h=>by rw [h]⟩
local macro_rules | `(tactic| walk_at "w") => do
  let ids := ("run_at fin_nx fin_rt seq_at seq_nx seq_rt nil_at ret_at rt_at retN_at drop_at kdrop_at if_at kif_at asg_at kasg_at nx_at gs_nil gs_cons gT_at par_at kpar_at List.set_cons_zero List.set_cons_succ for_at kfor_at eC_at op_at kop_at un_at fn_at ife_at kife_at aNil_at aCons_at kcons_at kcons2_at asB_at tV_at andT_at kandT_at orT_at korT_at notT_at knotT_at and_at kand_at or_at kor_at not_at knot_at aIt_at sq_t sq_l sq_s sq_c rngA_at enumA_at kenum_t kenum_l zipA_at kzip_at zip3A_at kzip3_at kzip4_at oNone_at oSome_at ksome_at slD_at ksl1_at ksl2_at slA_at kslA1_at kslA2_at meth_at kmeth_at isStr_at isTup_at chain_at kch1_at kch2_at kch3_at put_at kputA_at kputB_at kputC_at kputE_at bind_ok bind_then then_at var_0 var_S gN_at Bool.false_eq_true reduceIte List.map_cons List.map_nil List.length_cons List.length_nil Nat.reduceAdd Nat.reduceSub List.cons_append List.nil_append add_i sub_i eq_i ne_i eq_s ne_s lt_i le_i gt_i ge_i lst_0 lst_2 lst_3 lst_4 lst_5 tup_0 tup_1 tup_2 tup_3 min_i len_t len_l tup_l l1 ix_t0 ix_t1 ix_t2 List.replicate List.append_nil decide_eq_true_eq Bool.not_true Bool.not_false eq_self not_true_eq_false not_false_eq_true decide_true decide_false ofs_eq String.reduceEq".splitOn " ").toArray.map fun s => Lean.mkIdent s.toName
  `(tactic| try simp only [$[$ids:ident],*])
variable {kvs:List (L2.Key × D)}
theorem zdG {k:Str} (h:m[p]?=some (.dct kvs)) (e:zkT kvs (.inr k)=some d):ixD (.ob p) (.str k) m = .ok d m:=by
 simp only [ixD,h,e,opt]
theorem zr8 {k:Str} (h:m[p]?=some (.dct kvs)) (hl:kvs.length < sizeLine):ziW (.ob p) (.str k) d m = .ok () (m.set p (.dct (zny kvs (.inr k) d))):=by
 simp only [ziW,h,zoC,if_pos hl]
variable {o:MO}
theorem zcS {o':MO} (h:m[p]?=some o):(m.set p o')[p]?=some o':=List.getElem?_set_self (List.getElem?_eq_some_iff.mp h).1
variable {j:Nat}
theorem zaU (h:p≠j):(m.set p o)[j]?=m[j]?:=List.getElem?_set_ne h
theorem Fr.set:Fr p q m (m.set p o):=⟨by rw [List.length_set]; exact Nat.le_refl _,fun j _ h _=>zaU (Ne.symm h)⟩
theorem Fr.set':Fr p q m (m.set q o):=⟨by rw [List.length_set]; exact Nat.le_refl _,fun j _ _ h=>zaU (Ne.symm h)⟩
theorem zom (x:Int) : -(2 ^ 64) < x % 1000003+69621/\x % 1000003+69621 < 2 ^ 64:=by
 have h0:=Int.emod_nonneg x (b:=1000003) (by decide)
 have h1:=Int.emod_lt_of_pos x (b:=1000003) (by decide)
 (clear h1 h0; omega)
variable {own:List Int}
theorem znC (h:m[q]?=some (.lst ((a::own).map D.int))):popM (.ob q) [.int 0] m = .ok (.int a) (m.set q (.lst (own.map D.int))):=by
 simp only [popM,h]; rw [if_pos (by decide)]
 have e:seqIndex? 0 ((a::own).map D.int).length=some 0:=by
  simp [seqIndex?]
 rw [e]
 simp
inductive Kd where
 | step (n:Int) | turn (row:List Int) | wth (i:Nat) (f:Int) | still | drawn
def Kd.e:Kd->D
 | .step n => .tup [.str "step", .int n]
 | .turn row => .tup [.str "turn", .tup (row.map D.int)]
 | .wth i f => .tup [.str "with", .int i,.int f]
 | .still => .tup [.str "still"]
 | .drawn => .tup [.str "drawn"]
def Kd.Ok (pl b:Nat):Kd->Prop
 | .step n=>0<=n/\n < 2 ^ b
 | .turn row=>row≠[]/\row.length<=12/\∀ v∈row,0<=v/\v < 2 ^ b
 | .wth i f=>i < pl /\ -99<=f/\f<=99
 | _=>True
theorem p2 (b:Nat):(0:Int) < 2 ^ b:=Int.pow_pos (by decide)
variable {b:Nat}
theorem p2le (h:b<=40):(2:Int) ^ b<=2 ^ 40:=by
 have:=Nat.pow_le_pow_right (n:=2) (by decide) h
 exact_mod_cast this
theorem p2lt (h:b<=40):(2:Int) ^ b < 2 ^ 64:=Int.lt_of_le_of_lt (p2le h) (by decide)
structure Fd where
 nm:Str
 b:Nat
 kd:Kd
def Fd.e (f:Fd):D := .tup [.str f.nm,.int f.b,f.kd.e]
def zmL (fs:List Fd):Prop:=∀ (i:Nat) (f:Fd),fs[i]?=some f->0 < f.b/\f.b<=40/\f.kd.Ok i f.b
variable {r:Nat}
theorem zjS (h:m[r]?=some (.lst xs)) (hl:xs.length < sizeLine):zcA (.ob r) [d] m = .ok .non (m.set r (.lst (xs++[d]))):=by
 simp only [zcA,h,if_pos hl]
theorem zjf (h:m[r]?=some (.lst xs)):zdH (.ob r) m=true:=by simp only [zdH,h]
variable {z:Str}
theorem mul_s {n:Int} (h:z.length=1) (h0:0<=n) (h1:n<=1000):zeb (.str z) (.int n) m = .ok (.str (Txt.mul z n)) m:=by rw [zgv]; exact if_pos ⟨h0,h1,by (clear h1 h0; omega)⟩
theorem zcE (h:n < 1000):n < sizeLine:=Nat.lt_trans h (by decide)
theorem pow106:zia (.int 10) (.int 6) m = .ok (.int 1000000) m:=by
 rw [zeo]
 have e:zp9 (.int 10) (.int 6) m=if (0:Int)<=6/\(6:Int)<=1000000/\(10:Int).natAbs < 2 ^ 64 then .ok (.int ((10:Int) ^ (6:Int).toNat)) m else .bad:=rfl
 rw [e,if_pos (by decide)]
 rfl
theorem zar {r:Res τ} {x : τ} (h:Run r fun a m'=>a=x/\m'=m):r = .ok x m:=by
 obtain ⟨a,m',e,rfl,rfl⟩:=h
 exact e
variable {v:Int}
theorem zoM {row:List Int}:inD (.int v) (.tup (row.map D.int)) m = .ok (.bl (decide (v∈row))) m:=by
 have h:inO (.int v) (.tup (row.map D.int)) m=some (decide (v∈row)):=by
  show inB (.int v) (row.map D.int)=_
  unfold inB; rw [zdU,zdV,zf9]
  have hd:deep (.int v)=true:=by simp [deep,zeR,py,SeqAt.shaped,PyData.canLay0,PyData.depth]
  rw [hd]; simp only [Bool.and_self,if_true,py]
  congr 1
  rw [List.any_map]
  induction row with
  | nil=>simp
  | cons a r ih =>
   rw [List.any_cons,ih]; simp only [Function.comp,PyData.eqv,List.mem_cons,Bool.decide_or]
   by_cases e:a=v
   ·simp [e]
   ·have e' : ¬ v=a:=fun h=>e h.symm
    simp [e,e']
 simp only [inD,h]
theorem zml {row:List Int}:zi4 (.int v) (.tup (row.map D.int)) m = .ok (.bl (!decide (v∈row))) m:=by
 have h:=zoM (v:=v) (row:=row) (m:=m)
 unfold inD at h
 unfold zi4
 split at h
 ·rename_i b e
  simp only [Res.ok.injEq,D.bl.injEq,and_true] at h
  rw [h]
 ·cases h
theorem zd2:∀ row:List Int,zgT (row.map D.int)=some row
 | []=>rfl
 | a::r=>by simp only [List.map_cons,zgT,zd2 r]; rfl
theorem zkU {row:List Int} (h:v∈row):zei (.tup (row.map D.int)) [.int v] m = .ok (.int (row.idxOf v)) m:=by
 simp only [zei,zd2,if_pos h]
theorem zdo {row:List Int} (h:row[n]?=some v):ixD (.tup (row.map D.int)) (.int n) m = .ok (.int v) m:=zpz (by simp [h])
def exV (b:Nat) (kd:Kd) (v more:Int) (fo ah:List Int):Int:=match kd with
 | .step n=>(v+more * n) % 2 ^ b
 | .turn row=>if v∈row then row.getD ((row.idxOf v+more) % row.length).toNat 0 else v
 | .wth i f=>(v+f * (ah.getD i 0 - fo.getD i 0)) % 2 ^ b
 | .still=>v
 | .drawn=>v
theorem md2 (x:Int) (b:Nat):0<=x % 2 ^ b/\x % 2 ^ b < 2 ^ b:=⟨Int.emod_nonneg _ (Int.ne_of_gt (p2 b)),Int.emod_lt_of_pos _ (p2 b)⟩
def shD (fs:List Fd) (n:Int):D := .tup [.tup (fs.map Fd.e),.int n]
def zbX (l:List Int):D := .tup (l.map D.int)
variable {i:Nat} {f:Fd}
theorem zjd {fs:List Fd} (h:fs[i]?=some f):ixD (.tup (fs.map Fd.e)) (.int i) m = .ok (.tup [.str f.nm,.int f.b,f.kd.e]) m:=zpz (by simp [h,Fd.e])
def Bin (l:List Nat):Prop:=∀ c∈l,c=48∨c=49
def zsG (l:List Nat):Int:=l.foldl (fun a c=>a * 2+if c=49 then 1 else 0) 0
theorem zod (l:List Nat) (c:Nat):zsG (l++[c])=zsG l * 2+if c=49 then 1 else 0:=by simp only [zsG,List.foldl_append,List.foldl_cons,List.foldl_nil]
theorem zpM (h:(zgd z)[i]?=some d):∃ c,z.cps.toList[i]?=some c/\d = .str ⟨#[c]⟩:=by
 have hi:i < z.cps.size:=by have:=(List.getElem?_eq_some_iff.mp h).1; simpa [zgd] using this
 have hd:d = .str ⟨#[z.cps.getD i 0]⟩:=by
  simp only [zgd,List.getElem?_map,List.getElem?_range hi,Option.map_some,Option.some.injEq] at h
  exact h.symm
 refine ⟨z.cps[i],by simp [hi],?_⟩
 rw [hd]
 simp [Array.getD,hi]
theorem zm8 (z:Str):(zgd z).length=z.cps.toList.length:=by simp [zgd]
variable {c:Nat}
theorem ziE {l:List Nat} (h:l[i]?=some c):l.take (i+1)=l.take i++[c]:=by
 rw [List.take_add_one,h]
 rfl
theorem int_0:zsW [.str ⟨#[48]⟩] m = .ok (.int 0) m:=by
 have e:PySem.intText? ⟨#[48]⟩=some 0:=by decide +kernel
 simp only [zsW,e]
 rfl
theorem int_1:zsW [.str ⟨#[49]⟩] m = .ok (.int 1) m:=by
 have e:PySem.intText? ⟨#[49]⟩=some 1:=by decide +kernel
 simp only [zsW,e]
 rfl
theorem zmk (hz:Bin z.cps.toList):Run (zdK [.str z] m) fun a m'=>a = .int (zsG z.cps.toList)/\m'=m:=by
 unfold zdK zhw; ac_nf; refine Run.bind (zbw (fun k ρ m'=>∃ x,ρ = [some (.str z),some (.int (zsG (z.cps.toList.take k))),x]/\m'=m) (zgd z) 0 ⟨_,rfl,rfl⟩ ?_) ?_
 ·rintro i d ρ m' hd ⟨x,rfl,rfl⟩
  obtain ⟨c,hc,rfl⟩:=zpM hd
  rw [Nat.zero_add,ziE hc,zod]; erw [zkp (by decide)]; ac_nf
  rcases hz c (List.mem_of_getElem? hc) with rfl | rfl
  ·rw [int_0]; ac_nf; exact Run.ok ⟨_,rfl,_,rfl,rfl⟩
  ·rw [int_1]; ac_nf; exact Run.ok ⟨_,rfl,_,rfl,rfl⟩
 ·rintro _ m' ⟨ρ,rfl,x,rfl,rfl⟩; rw [Nat.zero_add,zm8,List.take_length]; ac_nf; exact Run.ok ⟨rfl,rfl⟩
inductive Wy where
 | keep | whole | low (w:Nat) (bl:Int)
def Wy.e:Wy->D
 | .keep => .tup [.str "keep"]
 | .whole => .tup [.str "whole"]
 | .low w bl => .tup [.str "low", .int w,.int bl]
def Wy.w (b:Nat):Wy->Nat
 | .keep=>0
 | .whole=>b
 | .low w _=>w
def Wy.Ok (b:Nat):Wy->Prop
 | .low w bl=>0 < w/\w<=b/\0<=bl/\bl < 2 ^ w
 | _=>True
theorem Wy.w_le {w:Wy} (h:w.Ok b):w.w b<=b:=by
 cases w with
 | keep=>exact Nat.zero_le _
 | whole=>exact Nat.le_refl _
 | low w bl=>exact h.2.1
def zrv (wy:Wy) (b:Nat) (base rest:Int):Int:=match wy with
 | .keep=>base
 | .whole=>rest
 | .low w bl=>((base - bl)+(rest - (base - bl)) % 2 ^ w) % 2 ^ b
theorem zcl {n:Int} {w:Nat} (h:w<=1000000):Run (zbC [.int n,.int w] m) fun a m'=>a = .int (n % 2 ^ w)/\m'=m:=by
 unfold zbC zlo; erw [zdf h]; erw [zcq (p2 _)]; ac_nf; exact Run.ok ⟨rfl,rfl⟩
variable {rest:Int}
theorem zmI {w:Nat} {base bl:Int} (hb:b<=1000000) (hw:w<=1000000):Run (zgO [.int b,.int base,.int bl,.int rest,.int w] m) fun a m'=>a = .int (((base - bl)+(rest - (base - bl)) % 2 ^ w) % 2 ^ b)/\m'=m:=by
 have h1:Run (zdJ [.int (base - bl),.int rest,.int w] m) fun a m'=>a = .int ((base - bl)+(rest - (base - bl)) % 2 ^ w)/\m'=m:=by
  unfold zdJ zhv; erw [zar (zcl hw)]; ac_nf; exact Run.ok ⟨rfl,rfl⟩
 unfold zgO zlv; erw [zar h1]; erw [zar (zcl hb)]; ac_nf; exact Run.ok ⟨rfl,rfl⟩
variable {wy:Wy}
theorem zhM {base:Int} (hb:b<=1000000) (hw:wy.Ok b):Run (zc4 [wy.e,.int b,.int base,.int rest] m) fun a m'=>a = .int (zrv wy b base rest)/\m'=m:=by
 unfold zc4 zgF
 cases wy with
 | keep=>simp only [Wy.e]; ac_nf; exact Run.ok ⟨rfl,rfl⟩
 | whole=>simp only [Wy.e]; ac_nf; exact Run.ok ⟨rfl,rfl⟩
 | low w bl =>
  simp only [Wy.e]; ac_nf
  have h2:=hw.2.1
  rw [zar (zmI hb (by omega))]; ac_nf; exact Run.ok ⟨rfl,rfl⟩
theorem zeh:Run (zcj [wy.e,.int b] m) fun a m'=>a = .int (wy.w b:Nat)/\m'=m:=by
 unfold zcj zjj
 cases wy with
 | keep=>simp only [Wy.e]; ac_nf; exact Run.ok ⟨rfl,rfl⟩
 | whole=>simp only [Wy.e]; ac_nf; exact Run.ok ⟨rfl,rfl⟩
 | low w bl=>simp only [Wy.e]; ac_nf; exact Run.ok ⟨rfl,rfl⟩
theorem zlP {row:List Int} {more:Int}:Run (zgG [.tup (row.map D.int),.int v,.int more] m) fun a m'=>a = .int (if v∈row then row.getD ((row.idxOf v+more) % row.length).toNat 0 else v)/\m'=m:=by
 unfold zgG zlm; erw [zml]; ac_nf
 by_cases hr:v∈row
 ·rw [decide_eq_true hr]; erw [zkU hr]; ac_nf; simp only [List.length_map]
  have hl:0 < row.length:=List.length_pos_of_mem hr
  rw [zcq (by omega)]; ac_nf
  have a0:=Int.emod_nonneg (row.idxOf v+more) (b:=row.length) (by omega)
  have a1:=Int.emod_lt_of_pos (row.idxOf v+more) (b:=row.length) (by (clear a0; omega))
  rw [if_pos hr]; generalize hx:((row.idxOf v:Int)+more) % row.length=x at a0 a1
  obtain ⟨j,rfl⟩:∃ j:Nat,x=j:=⟨x.toNat,by (clear a1 hx hl; omega)⟩
  have hj:j < row.length:=by (clear a0 hx hl; omega)
  rw [zdo (List.getElem?_eq_getElem hj)]; ac_nf
  refine Run.ok ⟨?_,rfl⟩
  simp only [Int.toNat_natCast,List.getD_eq_getElem?_getD,List.getElem?_eq_getElem hj,Option.getD_some]
 ·rw [decide_eq_false hr]; erw [if_neg hr]; exact Run.ok ⟨rfl,rfl⟩
theorem sl_fd {a b c:D}:slD (.tup [a,b,c]) (some 1) none m = .ok (.tup [b,c]) m:=by
 have e:slD (.tup [a,b,c]) (some 1) none m=if HT.sIx 3 0 (some 1)=0/\HT.sIx 3 3 none=3 then .bad else .ok (.tup (zix [a,b,c] (some 1) none)) m:=rfl
 rw [e,if_neg (by decide)]
 rfl
variable {fo ah:List Int}
theorem zjv {fs:List Fd} {n:Int} {more:Int} (hs:zmL fs) (hf:fs[i]?=some f) (hv:fo[i]?=some v) (v0:0<=v) (v1:v < 2 ^ f.b) (ha:ah.length=i) :
  Run (zdM [shD fs n,.int i,.tup (fo.map D.int),.tup (ah.map D.int),.int more] m) fun a m'=>a = .int (exV f.b f.kd v more fo ah)/\m'=m:=by
 obtain ⟨hb0,hb1,hk⟩:=hs i f hf
 unfold zdM zhA shD; erw [zjd hf]; erw [sl_fd]; erw [zdo hv]; ac_nf
 have hlt:=p2lt hb1
 cases hkd:f.kd with
 | step w =>
  rw [hkd] at hk
  simp only [Kd.Ok] at hk
  simp only [Kd.e]; erw [zil (by (clear hb1 hb0 ha v1 v0; omega))]; erw [zar (zcl (by (clear hk hlt hb0 ha v1 v0; omega)))]; ac_nf; exact Run.ok ⟨by simp only [exV,Int.mul_comm],rfl⟩
 | turn row =>
  simp only [Kd.e]; erw [zar zlP]; ac_nf; exact Run.ok ⟨by simp only [exV],rfl⟩
 | wth j w =>
  rw [hkd] at hk
  simp only [Kd.Ok] at hk
  simp only [Kd.e]; ac_nf
  have hj1:j < ah.length:=by (clear hlt hb1 hb0 v1 v0; omega)
  have hj2:j < fo.length:=by have:=(List.getElem?_eq_some_iff.mp hv).1; (clear hj1 hlt hb1 hb0 ha v1 v0; omega)
  rw [zdo (List.getElem?_eq_getElem hj1)]; erw [zdo (List.getElem?_eq_getElem hj2)]; erw [zil (by (clear hj2 hj1 hlt hb1 hb0 ha v1 v0; omega))]; erw [zar (zcl (by (clear hj2 hj1 hk hlt hb0 ha v1 v0; omega)))]; ac_nf
  refine Run.ok ⟨?_,rfl⟩
  simp only [exV,List.getD_eq_getElem?_getD,List.getElem?_eq_getElem hj1,List.getElem?_eq_getElem hj2,Option.getD_some]
 | still =>
  simp only [Kd.e]; ac_nf; exact Run.ok ⟨by simp only [exV],rfl⟩
 | drawn =>
  simp only [Kd.e]; ac_nf; exact Run.ok ⟨by simp only [exV],rfl⟩
def fmD (a b:Int) (wys:List Wy):D := .tup [.int a,.int b,.tup (wys.map Wy.e)]
def zfs (fs:List Fd) (wys:List Wy):List Nat:=List.zipWith (fun f w=>Wy.w f.b w) fs wys
theorem zcR {fs:List Fd} {n:Int} (h:fs.length<=1000):Run (zcv [shD fs n] m) fun a m'=>a = .lst (fs.map fun f => .int f.b)/\m'=m:=by
 unfold zcv zhB shD; ac_nf
 rw [zbt (ds:=fs.map Fd.e) (fun d=>match d with | .tup [_,b,_]=>b | d=>d)]
 ·ac_nf
  refine Run.ok ⟨?_,rfl⟩
  rw [List.map_map]
  rfl
 ·ac_nf
 ·rw [List.length_map]; omega
 ·intro d hd
  simp only [List.mem_map] at hd
  obtain ⟨f,_,rfl⟩:=hd
  exact ⟨_,rfl,(ix_t1 (.str f.nm) (.int f.b) [f.kd.e]:ixD (.tup _) (.int 1) m=_)⟩
theorem zqU:∀ (fs:List Fd) (wys:List Wy),zeD (wys.map Wy.e) (fs.map fun f=>D.int f.b)=List.zipWith (fun (f:Fd) (w:Wy)=>D.tup [w.e,.int f.b]) fs wys
 | [],[]=>rfl
 | [],_::_=>rfl
 | _::_,[]=>rfl
 | f::fs,w::ws=>by simp only [List.map_cons,zeD,List.zipWith_cons_cons,zqU fs ws]
theorem zos {α β γ δ : Type} (g : γ -> δ) (f:α -> β -> γ):∀ (a:List α) (b:List β),(List.zipWith f a b).map g=List.zipWith (fun x y=>g (f x y)) a b
 | [],_=>by simp
 | _::_,[]=>by simp
 | x::a,y::b=>by simp [zos g f a b]
theorem zq6 {α β γ : Type} (f:α -> β -> γ):∀ (a:List α) (b:List β) {c : γ},c∈List.zipWith f a b->∃ x y,c=f x y
 | [],_,c,h=>by simp at h
 | _::_,[],c,h=>by simp at h
 | x::a,y::b,c,h=>by
  simp only [List.zipWith_cons_cons,List.mem_cons] at h
  rcases h with h | h
  ·exact ⟨x,y,h⟩
  ·exact zq6 f a b h
def wdF (d:D):D:=match d with
 | .tup [a,b]=>match zcj [a,b] [] with
  | .ok x _=>x
  | _ => .non
 | d=>d
variable {wys:List Wy}
theorem ze7 {fs:List Fd} {n b:Int} (h:fs.length<=1000) (hl:wys.length=fs.length):Run (zdp [shD fs n,fmD a b wys] m) fun x m'=>x = .lst ((zfs fs wys).map fun k:Nat => .int k)/\m'=m:=by
 unfold zdp zll fmD; erw [zbt (ds:=List.zipWith (fun (f:Fd) (w:Wy)=>D.tup [w.e,.int f.b]) fs wys) wdF]
 ·ac_nf
  refine Run.ok ⟨?_,rfl⟩
  rw [zos,zfs,zos]
  congr 2
  funext f w
  show (match zcj [w.e,.int f.b] [] with | .ok x _=>x | _ => .non)=_
  rw [zar zeh]
 ·erw [zar (zcR h)]; ac_nf; simp only [zmP]; rw [if_pos (by simp [hl]),zqU]
 ·simp; (clear hl; omega)
 ·intro d hd
  obtain ⟨f,w,rfl⟩:=zq6 _ _ _ hd
  refine ⟨_,rfl,?_⟩
  show zcj [w.e,.int f.b] m = .ok (match zcj [w.e,.int f.b] [] with | .ok x _=>x | _ => .non) m
  rw [zar zeh,zar zeh]
def zhR (ws:List Nat) (k:Nat):Nat:=(ws.take k).sum
variable {ws:List Nat}
theorem zgc {k w:Nat} (h:ws[k]?=some w):zhR ws (k+1)=zhR ws k+w:=by
 unfold zhR; rw [ziE h,List.sum_append]
 simp
theorem zrz (ws:List Nat) (k:Nat):zhR ws k<=ws.sum:=by
 unfold zhR
 conv=>rhs; rw [<- List.take_append_drop k ws,List.sum_append]
 omega
def zoc (l:List Nat) (ws:List Nat) (k:Nat):Int:=zsG ((l.drop (zhR ws k)).take (ws.getD k 0))
theorem Bin.drop {l:List Nat} (h:Bin l) (k:Nat):Bin (l.drop k):=fun c hc=>h c (List.mem_of_mem_drop hc)
theorem Bin.take {l:List Nat} (h:Bin l) (k:Nat):Bin (l.take k):=fun c hc=>h c (List.mem_of_mem_take hc)
theorem sl_str {lo hi:Option Int} (h:z.length<=sizeLine):slD (.str z) lo hi m = .ok (.str (Txt.slice z lo hi)) m:=if_pos h
theorem zd6 (f:Nat -> τ) (k:Nat):(List.range (k+1)).map f=(List.range k).map f++[f k]:=by rw [List.range_succ,List.map_append]; rfl
theorem zkm (hz:Bin z.cps.toList) (hl:z.length<=sizeLine) (hs:ws.sum<=z.cps.size) (hw:ws.length < 1000) :
  Run (zc7 [.str z,.lst (ws.map fun k:Nat => .int k)] m) fun a m'=>a = .lst (((List.range ws.length).map (zoc z.cps.toList ws)).map D.int)/\m'=m:=by
 have h:Run (zaY 5 zew [.str z,.lst (ws.map fun k:Nat => .int k)] m) fun a m'=>a = .ob m.length/\m'=m++[.lst (((List.range ws.length).map (zoc z.cps.toList ws)).map D.int)]:=by
  unfold zew; erw [zof]; ac_nf; refine Run.bind (zbw (fun k ρ m'=>∃ x,ρ = [some (.str z),some (.lst (ws.map fun k:Nat => .int k)),some (.ob m.length),some (.int (zhR ws k:Nat)),x]/\m'=m++[.lst (((List.range k).map (zoc z.cps.toList ws)).map D.int)]) (ws.map fun k:Nat => .int k) 0 ⟨_,rfl,rfl⟩ ?_) ?_
  ·rintro i d ρ m' hd ⟨x,rfl,rfl⟩; rw [Nat.zero_add]
   have hi:i < ws.length:=by have:=(List.getElem?_eq_some_iff.mp hd).1; simpa using this
   have hwi:ws[i]?=some ws[i]:=List.getElem?_eq_getElem hi
   have hd':d = .int (ws[i]:Nat):=by
    rw [List.getElem?_map,hwi] at hd
    simpa using hd.symm
   subst hd'
   have hm:(m++[MO.lst (((List.range i).map (zoc z.cps.toList ws)).map D.int)])[m.length]?=some (.lst (((List.range i).map (zoc z.cps.toList ws)).map D.int)):=by simp
   have hsum:=zgc hwi
   have hle:=zrz ws (i+1)
   erw [if_pos (zjf hm)]; erw [sl_str hl]; ac_nf
   have hsl:=Mth.slice_mid z (zhR ws i) (zhR ws (i+1)) (by (clear hle hw hs hl; omega)) (by (clear hsum hw hl; omega))
   rw [hsum] at hsl
   rw [Nat.add_sub_cancel_left] at hsl
   rw [show ((zhR ws i:Nat):Int)+(ws[i]:Nat)=((zhR ws i+ws[i]:Nat):Int) by (clear hle hsum hw hs hl; omega)]; rw [zar (zmk (by rw [hsl]; exact (hz.drop _).take _)),hsl]; erw [zjS hm (by simp; exact zcE (by (clear hle hsum hs hl; omega)))]; ac_nf
   refine Run.ok ⟨_,rfl,_,by rw [hsum,Int.natCast_add],?_⟩
   rw [zd6,List.map_append]
   have:zoc z.cps.toList ws i=zsG ((z.cps.toList.drop (zhR ws i)).take ws[i]):=by rw [zoc,List.getD_eq_getElem?_getD,hwi]; rfl
   rw [this]
   simp
  ·rintro _ m' ⟨ρ,rfl,x,rfl,rfl⟩; ac_nf
   refine Run.ok ⟨rfl,?_⟩
   simp
 unfold zc7
 unfold locF
 have h':=zar h
 rw [h',bind_ok]; generalize ((List.range ws.length).map (zoc z.cps.toList ws))=l
 have e:frz (m++[.lst (l.map D.int)]) m.length (.ob m.length) = .lst (l.map D.int):=by simp [frz]
 rw [e]
 have hcl:clsd m.length (.lst (l.map D.int))=true:=by
  have:∀ l:List Int,clsdL m.length (l.map D.int)=true:=by
   intro l
   induction l with
   | nil=>simp [clsdL]
   | cons a r ih=>simp [clsdL,clsd,ih]
  simp [clsd,this]
 rw [if_pos ⟨by simp,hcl⟩]; exact Run.ok ⟨rfl,by simp⟩
theorem zfn {τ : Type} {f : τ -> D}:∀ {xs:List τ} {k i:Nat} {d:D},(zcB k (xs.map f))[i]?=some d->∃ x,xs[i]?=some x/\d = .tup [.int ((k+i:Nat):Int),f x]
 | [],k,i,d,h=>by simp [zcB] at h
 | x::xs,k,0,d,h=>by
  simp only [List.map_cons,zcB,List.getElem?_cons_zero,Option.some.injEq] at h
  exact ⟨x,rfl,h.symm⟩
 | x::xs,k,i+1,d,h=>by
  simp only [List.map_cons,zcB,List.getElem?_cons_succ] at h
  obtain ⟨y,h1,h2⟩:=zfn h
  exact ⟨y,by simpa using h1,by rw [h2,show k+1+i=k+(i+1) by omega]⟩
theorem zd1 {τ : Type} {f : τ -> D}:∀ {xs:List τ} {k:Nat},(zcB k (xs.map f)).length=xs.length
 | [],k=>rfl
 | x::xs,k=>by simp [zcB,zd1]
def hdV (fs:List Fd) (wys:List Wy) (fo:List Int) (more:Int) (l:List Nat):Nat->List Int
 | 0=>[]
 | k+1=>hdV fs wys fo more l k++[match fs[k]?,wys[k]?,fo[k]? with
  | some f,some w,some v=>zrv w f.b (exV f.b f.kd v more fo (hdV fs wys fo more l k)) (zoc l (zfs fs wys) k)
  | _,_,_=>0]
theorem zir (fs:List Fd) (wys:List Wy) (fo:List Int) (more:Int) (l:List Nat):∀ k,(hdV fs wys fo more l k).length=k
 | 0=>rfl
 | k+1=>by rw [hdV,List.length_append,zir fs wys fo more l k]; rfl
structure HdOk (fs:List Fd) (fo:List Int):Prop where
 len:fo.length=fs.length
 at':∀ (i:Nat) (f:Fd) (v:Int),fs[i]?=some f->fo[i]?=some v->0<=v/\v < 2 ^ f.b
structure WyOk (fs:List Fd) (wys:List Wy):Prop where
 len:wys.length=fs.length
 at':∀ (i:Nat) (f:Fd) (w:Wy),fs[i]?=some f->wys[i]?=some w->w.Ok f.b
theorem zcD {fs:List Fd} (h:WyOk fs wys):(zfs fs wys).length=fs.length:=by simp [zfs,h.len]
theorem zhL {fs:List Fd} {w:Wy} (hf:fs[i]?=some f) (hw:wys[i]?=some w):(zfs fs wys)[i]?=some (w.w f.b):=by
 rw [zfs,List.getElem?_zipWith,hf,hw]
theorem zl5 {fs:List Fd} {n b:Int} {more:Int} (hs:zmL fs) (hn:fs.length<=12) (hw:WyOk fs wys) (hf:HdOk fs fo) (hz:Bin z.cps.toList) (hl:z.length<=sizeLine) (hsz:z.cps.size=(zfs fs wys).sum) :
  Run (zgI [shD fs n,fmD a b wys,.str z,.tup (fo.map D.int),.int more] m) fun x m'=>x = .tup ((hdV fs wys fo more z.cps.toList fs.length).map D.int)/\m'=m:=by
 unfold zgI zlq; erw [zar (ze7 (by (clear hsz hl; omega)) hw.len)]; erw [zar (zkm hz hl (by (clear hl hn; omega)) (by rw [zcD hw]; (clear hsz hl; omega)))]; ac_nf; refine Run.bind (zbw (fun k ρ m'=>∃ x y w,ρ = [some (shD fs n),some (fmD a b wys),some (.str z),some (.tup (fo.map D.int)),some (.int more),some (.tup ((hdV fs wys fo more z.cps.toList k).map D.int)),x,y,w]/\m'=m) _ 0 ⟨_,_,_,rfl,rfl⟩ ?_) ?_
 ·rintro i d ρ m' hd ⟨x,y,w,rfl,rfl⟩
  obtain ⟨v,hv,rfl⟩:=zfn hd
  have hi:i < fs.length:=by
   have:=(List.getElem?_eq_some_iff.mp hv).1
   rw [List.length_map,List.length_range,zcD hw] at this
   exact this
  have hv':v=zoc z.cps.toList (zfs fs wys) i:=by
   rw [List.getElem?_map,List.getElem?_range (by rw [zcD hw]; exact hi)] at hv
   simpa using hv.symm
  subst hv'
  rw [Nat.zero_add]
  have e1:=List.getElem?_eq_getElem hi
  have e2:=List.getElem?_eq_getElem (show i < wys.length by rw [hw.len]; exact hi)
  have e3:=List.getElem?_eq_getElem (show i < fo.length by rw [hf.len]; exact hi)
  obtain ⟨v0,v1⟩:=hf.at' i _ _ e1 e3
  erw [zar (zjv hs e1 e3 v0 v1 (zir _ _ _ _ _ i))]; ac_nf; simp only [shD,fmD]; erw [zpz (d:=(wys[i]'(by rw [hw.len]; exact hi)).e) (by rw [List.getElem?_map,e2]; rfl)]; erw [zjd e1]; erw [zar (zhM (by have:=(hs i _ e1).2.1; (clear v1 v0 hsz hl hn; omega)) (hw.at' i _ _ e1 e2))]; ac_nf; simp only [zbj]
  rw [if_pos (by rw [List.length_map,zir]; exact Nat.le_of_lt (zcE (by simp; (clear v0 hsz hl; omega))))]; ac_nf
  have eh:(hdV fs wys fo more z.cps.toList (i+1)).map D.int=(hdV fs wys fo more z.cps.toList i).map D.int++[.int (zrv (wys[i]'(by rw [hw.len]; exact hi)) fs[i].b (exV fs[i].b fs[i].kd (fo[i]'(by rw [hf.len]; exact hi)) more fo (hdV fs wys fo more z.cps.toList i)) (zoc z.cps.toList (zfs fs wys) i))]:=by
   rw [hdV,e1,e2,e3]
   simp
  rw [eh]; exact Run.ok ⟨_,rfl,_,_,_,rfl,rfl⟩
 ·rintro _ m' ⟨ρ,rfl,x,y,w,rfl,rfl⟩; rw [Nat.zero_add,zd1,List.length_map,List.length_range,zcD hw]; ac_nf; exact Run.ok ⟨rfl,rfl⟩
open PySem PyProof.Rows L2 Mth
theorem zqB (ts:List Str) (h:∀ a∈ts,a.length=1) (hl:ts.length<=1000000):JoinOk (Str.ofString "") ts=true:=by
 refine joinOk_of ?_
 rw [sumLen_of_ones ts h]
 have z:(Str.ofString "").length=0:=by decide
 rw [z]
 (clear z; omega)
def zlf (c:Nat):Str:=⟨#[c]⟩
theorem zht:∀ cs:List Nat,(Str.join (Str.ofString "") (cs.map zlf)).cps.toList=cs
 | []=>rfl
 | [c]=>rfl
 | c::d::r=>by
  show (zlf c++Str.ofString "" ++ Str.join (Str.ofString "") ((d::r).map zlf)).cps.toList=_
  rw [PySem.W.KT.app_list,PySem.W.KT.app_list,zht (d::r)]
  rfl
theorem zoF (cs:List Nat):(PySem.Txt.join (Str.ofString "") (cs.map zlf)).cps.toList=cs:=by
 show (Builtin.Str.glued (Str.ofString "") (cs.map zlf)).cps.toList=_
 rw [StrLaws.glued_eq_join,zht]
section
theorem isi_tt (xs:List D):zio "tuple" (.tup xs) m = .ok (.bl true) m:=rfl
theorem isi_ii (a:Int):zio "int" (.int a) m = .ok (.bl true) m:=rfl
theorem isi_bi (a:Int):zio "bool" (.int a) m = .ok (.bl false) m:=rfl
end
theorem lift {τ : Type} (enc : τ -> D) (P:Nat -> τ -> Prop):∀ (xs:List D) (k:Nat),(∀ i x,xs[i]?=some x->∃ t,x=enc t/\P (k+i) t)->∃ l:List τ,xs=l.map enc/\∀ i t,l[i]?=some t->P (k+i) t
 | [],k,_=>⟨[],rfl,fun i t h=>by simp at h⟩
 | x::xs,k,h=>by
  obtain ⟨t,rfl,ht⟩:=h 0 x rfl
  obtain ⟨l,rfl,hl⟩:=lift enc P xs (k+1) fun i x hx=>by
   rw [show k+1+i=k+(i+1) by omega]
   exact h (i+1) x (by simpa using hx)
  refine ⟨t::l,rfl,fun i u hu=>?_⟩
  cases i with
  | zero=>simp at hu; subst hu; exact ht
  | succ i =>
   rw [show k+(i+1)=k+1+i by omega]
   exact hl i u (by simpa using hu)
open PySem L2
theorem str_0:zrE [.int 0] m = .ok (.str ⟨#[48]⟩) m:=rfl
theorem str_1:zrE [.int 1] m = .ok (.str ⟨#[49]⟩) m:=rfl
theorem zjZ {fs:List Fd} {wys:List Wy} (hs:zmL fs) (hw:WyOk fs wys):∀ k,k<=fs.length->zhR (zfs fs wys) k<=40 * k
 | 0,_=>by simp [zhR]
 | k+1,h=>by
  have e1:=List.getElem?_eq_getElem (show k < fs.length by omega)
  have e2:=List.getElem?_eq_getElem (show k < wys.length by rw [hw.len]; omega)
  rw [zgc (zhL e1 e2)]
  have:=zjZ hs hw k (by omega)
  have h2:=Wy.w_le (hw.at' k _ _ e1 e2)
  have h3:=(hs k _ e1).2.1
  omega
theorem zpK {fs:List Fd} (hw:WyOk fs wys):zhR (zfs fs wys) fs.length=(zfs fs wys).sum:=by
 rw [zhR,<- zcD hw,List.take_length]
theorem zhH:∀ cs:List Nat,zfG (cs.map fun c=>D.str (zlf c))=some (cs.map zlf)
 | []=>rfl
 | a::r=>by simp only [List.map_cons,zfG,zhH r]; rfl
theorem zsj:zia (.int 10) (.int 18) m = .ok (.int 1000000000000000000) m:=by
 rw [zeo]
 have e:zp9 (.int 10) (.int 18) m=if (0:Int)<=18/\(18:Int)<=1000000/\(10:Int).natAbs < 2 ^ 64 then .ok (.int ((10:Int) ^ (18:Int).toNat)) m else .bad:=rfl
 rw [e,if_pos (by decide)]
 rfl
open PySem L2
def dig (n:Int) (k:Nat):Nat:=if n / 2 ^ k % 2=1 then 49 else 48
def dgs (n:Int):Nat->List Nat
 | 0=>[]
 | k+1=>dig n k::dgs n k
theorem zcx (n:Int):∀ k,(dgs n k).length=k
 | 0=>rfl
 | k+1=>by rw [dgs,List.length_cons,zcx n k]
theorem zo7 (n:Int):∀ k,Bin (dgs n k)
 | 0=>fun c h=>by simp [dgs] at h
 | k+1=>fun c h=>by
  rw [dgs,List.mem_cons] at h
  rcases h with rfl | h
  ·unfold dig; split <;> simp
  ·exact zo7 n k c h
theorem zj0 {a b:Str} (h:a.cps.toList=b.cps.toList):a=b:=by
 cases a; cases b
 congr 1
 exact Array.ext' h
theorem zrk (n:Int):∀ w,(List.range w).map (fun i=>dig n (w - 1 - i))=dgs n w
 | 0=>rfl
 | w+1=>by
  rw [List.range_succ_eq_map,List.map_cons,List.map_map,dgs,<- zrk n w]
  congr 1
  refine List.map_congr_left fun i hi=>?_
  show dig n (w+1 - 1 - (i+1))=dig n (w - 1 - i)
  congr 1
  omega
theorem zrC {n:Int}:zrE [.int (Builtin.bitAnd (n / 2 ^ p) 1)] m = .ok (.str (zlf (dig n p))) m:=by
 rw [PyProof.Rows.bitAnd_m1]
 unfold dig
 rcases (show n / 2 ^ p % 2=0∨n / 2 ^ p % 2=1 by omega) with h | h
 ·rw [h,str_0]; rfl
 ·rw [h,str_1]; rfl
theorem join_m {cs:List Nat} (h:cs.length<=1000000):zjb (.str "") [.lst (cs.map fun c=>D.str (zlf c))] m = .ok (.str ⟨cs.toArray⟩) m:=by
 simp only [zjb,lOf,Option.bind_some,zhH]; rw [if_pos (zqB _ (fun a ha=>by obtain ⟨c,_,rfl⟩:=List.mem_map.mp ha; rfl) (by simpa using h))]
 congr 2
 exact zj0 (by rw [zoF])
def bitD (n:Int) (d:D):D:=match d with
 | .int p => .str (zlf (dig n p.toNat))
 | d=>d
theorem rev_ok {w:Nat} (hw:w<=1000):revR [.int w] m = .ok ((List.range w).map fun i:Nat => .int ((w:Int) - 1 - i)) m:=by
 rw [znp]; unfold zp1
 simp only
 rw [if_pos ⟨by (clear hw; omega),by omega⟩,Int.toNat_natCast]
theorem shr_i {n:Int}:shrD (.int n) (.int (p:Nat)) m = .ok (.int (n / 2 ^ p)) m:=by
 unfold shrD
 simp only
 rw [if_pos (by omega),Int.toNat_natCast]
theorem and_i {b:Int}:andD (.int a) (.int b) m = .ok (.int (Builtin.bitAnd a b)) m:=rfl
theorem bit_el {n:Int} {x:Option D}:eFn zrE (zac (eOp andD (eOp shrD (zaf 0) (zaf 2)) (eC (.int 1))) zaj) [some (.int n),x,some (.int (p:Nat))] m = .ok (.str (zlf (dig n p))) m:=by
 simp -implicitDefEqProofs only [eFn,zac,zaj,eOp,zaf,eC,bind_ok,List.getElem?_cons_zero,List.getElem?_cons_succ,shr_i,and_i,zrC]
theorem zdd {n:Int} {w:Nat} (hw:w<=1000):Run (zcw [.int n,.int w] m) fun a m'=>a = .str ⟨(dgs n w).toArray⟩/\m'=m:=by
 unfold zcw zlu; erw [zbt (ds:=(List.range w).map fun i:Nat => .int ((w:Int) - 1 - i)) (bitD n)]
 ·ac_nf
  have e:((List.range w).map fun i:Nat=>D.int ((w:Int) - 1 - i)).map (bitD n)=(dgs n w).map fun c=>D.str (zlf c):=by
   rw [<- zrk,List.map_map,List.map_map]
   refine List.map_congr_left fun i hi=>?_
   have hi:=List.mem_range.mp hi
   show D.str (zlf (dig n ((w:Int) - 1 - i).toNat))=D.str (zlf (dig n (w - 1 - i)))
   rw [show ((w:Int) - 1 - i).toNat=w - 1 - i by (clear hi hw; omega)]
  rw [e,join_m (by rw [zcx]; omega)]; ac_nf; exact Run.ok ⟨rfl,rfl⟩
 ·ac_nf
  exact rev_ok hw
 ·simp; omega
 ·intro d hd
  simp only [List.mem_map,List.mem_range] at hd
  obtain ⟨i,hi,rfl⟩:=hd
  obtain ⟨p,hp⟩:∃ p:Nat,(w:Int) - 1 - i=p:=⟨((w:Int) - 1 - i).toNat,by (clear hw; omega)⟩
  rw [hp]
  refine ⟨_,rfl,bit_el.trans ?_⟩
  simp only [bitD,Int.toNat_natCast]
def pcK (fs:List Fd) (wys:List Wy) (hd:List Int):Nat->List Nat
 | 0=>[]
 | k+1=>pcK fs wys hd k++match fs[k]?,wys[k]?,hd[k]? with
  | some f,some w,some v=>dgs (v % 2 ^ w.w f.b) (w.w f.b)
  | _,_,_=>[]
theorem zj9 {fs:List Fd} {wys:List Wy} {hd:List Int} (hw:WyOk fs wys) (hh:HdOk fs hd):∀ k,k<=fs.length->(pcK fs wys hd k).length=zhR (zfs fs wys) k
 | 0,_=>by simp [pcK,zhR]
 | k+1,h=>by
  have e1:=List.getElem?_eq_getElem (show k < fs.length by omega)
  have e2:=List.getElem?_eq_getElem (show k < wys.length by rw [hw.len]; omega)
  have e3:=List.getElem?_eq_getElem (show k < hd.length by rw [hh.len]; omega)
  rw [pcK,e1,e2,e3,List.length_append,zj9 hw hh k (by omega),zgc (zhL e1 e2)]; simp only [zcx]
theorem znN {fs:List Fd} {wys:List Wy} {hd:List Int}:∀ k,Bin (pcK fs wys hd k)
 | 0=>fun c h=>by simp [pcK] at h
 | k+1=>fun c h=>by
  rw [pcK] at h
  rcases List.mem_append.mp h with h | h
  ·exact znN k c h
  ·split at h
   ·exact zo7 _ _ c h
   ·simp at h
open PySem PyProof.Rows L2 Mth
theorem zgA:∀ ts:List Str,(Str.join (Str.ofString "") ts).cps.toList=(ts.map fun t=>t.cps.toList).flatten
 | []=>rfl
 | [t]=>by
  show t.cps.toList=_
  simp
 | t::d::r=>by
  show (t++Str.ofString "" ++ Str.join (Str.ofString "") (d::r)).cps.toList=_
  rw [PySem.W.KT.app_list,PySem.W.KT.app_list,zgA (d::r)]
  show t.cps.toList++[]++_=_
  simp
def txD (l:List Nat):D := .str ⟨l.toArray⟩
theorem zjR:∀ ls:List (List Nat),zfG (ls.map txD)=some (ls.map fun l=>⟨l.toArray⟩)
 | []=>rfl
 | a::r=>by simp only [List.map_cons,txD,zfG]; rw [show r.map (fun l=>txD l)=r.map txD from rfl]; rw [zjR r]; rfl
theorem sum_bd (ls:List (List Nat)) (h:∀ t∈ls,t.length<=1000):(ls.map List.length).sum<=1000 * ls.length:=by
 induction ls with
 | nil=>exact Nat.le_refl _
 | cons t r ih =>
  rw [List.map_cons,List.sum_cons,List.length_cons]
  have h1:=h t (by simp)
  have h2:=ih fun u hu=>h u (List.mem_cons_of_mem _ hu)
  omega
theorem zsT {ls:List (List Nat)} (h:∀ t∈ls,t.length<=1000) (hl:ls.length<=1000):zjb (.str "") [.lst (ls.map txD)] m = .ok (.str ⟨ls.flatten.toArray⟩) m:=by
 have hj:JoinOk (Str.ofString "") (ls.map fun l=>(⟨l.toArray⟩:Str))=true:=by
  refine joinOk_of ?_
  have z:(Str.ofString "").length=0:=by decide
  rw [z,Nat.mul_zero,Nat.add_zero]
  have:=sum_bd ls h
  have e:((ls.map fun l=>(⟨l.toArray⟩:Str)).map fun t=>t.length)=ls.map List.length:=by
   rw [List.map_map]
   rfl
  exact Nat.le_trans (by first | exact Nat.le_of_eq (congrArg List.sum e) | (rw [e]; exact Nat.le_refl _)) (by (clear z; omega))
 simp only [zjb,lOf,Option.bind_some,zjR]; rw [if_pos hj]
 congr 2
 refine zj0 ?_
 show (Builtin.Str.glued (Str.ofString "") _).cps.toList=_
 rw [StrLaws.glued_eq_join,zgA,List.map_map]
 show (ls.map id).flatten=_
 rw [List.map_id]
def pc1 (fs:List Fd) (wys:List Wy) (hd:List Int) (k:Nat):List Nat:=match fs[k]?,wys[k]?,hd[k]? with
 | some f,some w,some v=>dgs (v % 2 ^ w.w f.b) (w.w f.b)
 | _,_,_=>[]
theorem zla (fs:List Fd) (wys:List Wy) (hd:List Int):∀ k,pcK fs wys hd k=((List.range k).map (pc1 fs wys hd)).flatten
 | 0=>rfl
 | k+1=>by
  rw [zd6,List.flatten_append,<- zla fs wys hd k,pcK]
  congr 1
  simp only [List.flatten_cons,List.flatten_nil,List.append_nil,pc1]
  all_goals (cases fs[k]? <;> cases wys[k]? <;> cases hd[k]? <;> rfl)
theorem zjV {ys:List D}:∀ {i:Nat} {d:D},(zeD xs ys)[i]?=some d->∃ x y,xs[i]?=some x/\ys[i]?=some y/\d = .tup [x,y]:=by
 induction xs generalizing ys with
 | nil=>intro i d h; simp [zeD] at h
 | cons x xs ih =>
  intro i d h
  cases ys with
  | nil=>simp [zeD] at h
  | cons y ys =>
   rw [zeD] at h
   cases i with
   | zero=>simp at h; exact ⟨x,y,rfl,rfl,h.symm⟩
   | succ i =>
    simp only [List.getElem?_cons_succ] at h
    obtain ⟨a,b,h1,h2,h3⟩:=ih h
    exact ⟨a,b,by simpa using h1,by simpa using h2,h3⟩
theorem zcY:∀ {xs ys:List D},xs.length<=ys.length->(zeD xs ys).length=xs.length
 | [],ys,_=>by simp [zeD]
 | x::xs,[],h=>by simp at h
 | x::xs,y::ys,h=>by
  rw [zeD,List.length_cons,List.length_cons,zcY (by simpa using h)]
variable {hd:List Int}
theorem zd8 {fs:List Fd} {n b:Int} (hs:zmL fs) (hn:fs.length<=12) (hw:WyOk fs wys) (hh:HdOk fs hd) :
  Run (zdq [shD fs n,fmD a b wys,.tup (hd.map D.int)] m) fun x m'=>x = .str ⟨(pcK fs wys hd fs.length).toArray⟩/\m'=m:=by
 unfold zdq zlp; ac_nf
 have hz:(hd.map D.int).length<=((zfs fs wys).map fun k:Nat=>D.int k).length:=by rw [List.length_map,List.length_map,zcD hw,hh.len]; exact Nat.le_refl _
 refine Run.bind (zgW (ds:=zeD (hd.map D.int) ((zfs fs wys).map fun k:Nat => .int k)) (fun k m'=>m'=m) (fun i d x=>∃ l,x=txD l/\l=pc1 fs wys hd i) ?_ (by rw [zcY hz,List.length_map,hh.len]; (clear hz; omega)) rfl ?_) ?_
 ·erw [zar (ze7 (by (clear hz; omega)) hw.len)]; ac_nf; simp only [zmP]; rw [if_pos hz]
 ·rintro i d m' hd' rfl
  obtain ⟨x,y,h1,h2,rfl⟩:=zjV hd'
  have hi:i < fs.length:=by
   have:=(List.getElem?_eq_some_iff.mp h1).1
   rw [List.length_map,hh.len] at this
   exact this
  have e1:=List.getElem?_eq_getElem hi
  have e2:=List.getElem?_eq_getElem (show i < wys.length by rw [hw.len]; exact hi)
  have e3:=List.getElem?_eq_getElem (show i < hd.length by rw [hh.len]; exact hi)
  rw [List.getElem?_map,e3,Option.map_some] at h1
  rw [List.getElem?_map,zhL e1 e2,Option.map_some] at h2
  cases h1
  cases h2
  have hwo:=Wy.w_le (hw.at' i _ _ e1 e2)
  have hb1:=(hs i _ e1).2.1
  erw [zar (zcl (by (clear hz hn; omega)))]; erw [zar (zdd (by (clear hz hn; omega)))]; exact Run.ok ⟨⟨_,rfl,by rw [pc1,e1,e2,e3]⟩,rfl⟩
 ·rintro xs m' ⟨hlen,hP,rfl⟩
  rw [zcY hz,List.length_map,hh.len] at hlen
  obtain ⟨ls,rfl,hls⟩:=lift txD (fun i l=>l=pc1 fs wys hd i) xs 0 fun i x hx=>by
   have hi:i < (zeD (hd.map D.int) ((zfs fs wys).map fun k:Nat=>D.int k)).length:=by
    have:=(List.getElem?_eq_some_iff.mp hx).1
    rw [zcY hz,List.length_map,hh.len]
    (clear hz hn; omega)
   rw [Nat.zero_add]
   exact hP i _ x (List.getElem?_eq_getElem hi) hx
  have hll:ls.length=fs.length:=by simpa using hlen
  have e:ls=(List.range fs.length).map (pc1 fs wys hd):=by
   refine List.ext_getElem (by simp [hll]) fun i h1 h2=>?_
   have:=hls i ls[i] (List.getElem?_eq_getElem h1)
   rw [Nat.zero_add] at this
   rw [this]
   simp
  have hb:∀ t∈ls,t.length<=1000:=by
   intro t ht
   obtain ⟨i,hi,rfl⟩:=List.mem_iff_getElem.mp ht
   have:=hls i ls[i] (List.getElem?_eq_getElem hi)
   rw [Nat.zero_add] at this
   have hi':i < fs.length:=by (clear hlen hz hn; omega)
   have e1:=List.getElem?_eq_getElem hi'
   have e2:=List.getElem?_eq_getElem (show i < wys.length by rw [hw.len]; exact hi')
   have e3:=List.getElem?_eq_getElem (show i < hd.length by rw [hh.len]; exact hi')
   rw [this,pc1,e1,e2,e3]
   have hwo:=Wy.w_le (hw.at' i _ _ e1 e2)
   have hb1:=(hs i _ e1).2.1
   simp only [zcx]
   (clear hll hlen hz hn; omega)
  erw [zsT hb (by (clear hlen hz; omega))]; ac_nf
  refine Run.ok ⟨?_,rfl⟩
  rw [zla,e]
def fmE (p:Int × List Int):D := .tup [.int p.1,.tup (p.2.map D.int)]
theorem ne_tup (ns ms:List Int):neD (.tup (ns.map D.int)) (.tup (ms.map D.int)) m = .ok (.bl (!decide (ns=ms))) m:=by
 have h:=zs5 ns ms
 simp only [neD,rs,h]
section
variable {fs:List Fd} {n b:Int}
theorem zsu (hs:zmL fs) (hn:fs.length<=12) (hw:WyOk fs wys) (hh:HdOk fs hd):(⟨(pcK fs wys hd fs.length).toArray⟩:Str).length<=sizeLine/\(⟨(pcK fs wys hd fs.length).toArray⟩:Str).cps.size=(zfs fs wys).sum:=by
 have h1:=zj9 hw hh fs.length (Nat.le_refl _)
 have h2:=zjZ hs hw fs.length (Nat.le_refl _)
 have h3:=zpK hw
 have e:(⟨(pcK fs wys hd fs.length).toArray⟩:Str).cps.size=zhR (zfs fs wys) fs.length:=by show (pcK fs wys hd fs.length).toArray.size=_; rw [List.size_toArray,h1]
 refine ⟨?_,by rw [e,h3]⟩
 show (⟨(pcK fs wys hd fs.length).toArray⟩:Str).cps.size<=sizeLine
 rw [e]
 exact Nat.le_of_lt (zcE (by (clear e h3 h1; omega)))
end
theorem zgV {τ : Type} (f : τ -> Bool):∀ l:List τ,zkK (l.map fun t=>D.bl (f t))=some (l.map f)
 | []=>rfl
 | a::r=>by simp only [List.map_cons,zkK,zgV f r]; rfl
open PySem L2
theorem neg_1:zpy (.int 1) m = .ok (.int (-1)) m:=rfl
theorem max_i (a b:Int):zgw [.int a,.int b] m = .ok (.int (if b>a then b else a)) m:=rfl
theorem slA_t (ds:List D) (lo hi:Option Int):slA (.tup ds) lo hi m = .ok (.tup (zix ds lo hi)) m:=rfl
theorem zqT {a b:List D} (h:a.length+b.length<=sizeLine):zbj (.tup a) (.tup b) m = .ok (.tup (a++b)) m:=if_pos h
theorem dvd2 {w:Nat} (h:w<=b):(2:Int) ^ w ∣ 2 ^ b:=by
 obtain ⟨c,rfl⟩:=Nat.exists_eq_add_of_le h
 exact ⟨2 ^ c,Int.pow_add 2 w c⟩
theorem p2mono {w:Nat} (h:w<=b):(2:Int) ^ w<=2 ^ b:=Int.le_of_dvd (p2 b) (dvd2 h)
theorem zim {g:GV} {body:SV} (I:Nat->En->Sto->Prop) (R:D->Sto->Prop):∀ (ds:List D) (k:Nat) {ρ : En} {m:Sto},I k ρ m->(∀ i d ρ m,ds[i]?=some d->I (k+i) ρ m->Run ((g d ρ m).bind body) fun fl m2=>(∃ ρ2,fl = .nx ρ2/\I (k+i+1) ρ2 m2)∨∃ v,fl = .rt v/\R v m2) →
  Run (zd4 g body ds ρ m) fun fl m'=>(∃ ρ',fl = .nx ρ'/\I (k+ds.length) ρ' m')∨∃ v,fl = .rt v/\R v m'
 | [],k,ρ,m,h,_=>⟨_,m,rfl,.inl ⟨ρ,rfl,h⟩⟩
 | d::r,k,ρ,m,h,st=>by
  obtain ⟨fl,m2,e2,h2⟩:=st 0 d ρ m rfl h
  rcases h2 with ⟨ρ2,rfl,h2⟩ | ⟨v,rfl,h2⟩
  ·obtain ⟨fl',m',e3,h3⟩:=zim I R r (k+1) h2 fun i d ρ m hd hi=>by
    have:=st (i+1) d ρ m (by simpa using hd) (by rw [show k+(i+1)=k+1+i by omega]; exact hi)
    rw [show k+(i+1)+1=k+1+i+1 by omega] at this
    exact this
   refine ⟨fl',m',?_,by rw [List.length_cons,show k+(r.length+1)=k+1+r.length by (clear h3; omega)]; exact h3⟩
   rw [zd4,<- Res.bind_assoc,e2,bind_ok]
   exact e3
  ·exact ⟨.rt v,m2,by rw [zd4,<- Res.bind_assoc,e2,bind_ok],.inr ⟨v,rfl,h2⟩⟩
variable {s:Str}
section
theorem is_nn:isD .non .non m = .ok (.bl true) m:=rfl
theorem isnt_nn:zkw .non .non m = .ok (.bl false) m:=rfl
theorem zsV (xs:List D):zkw (.tup xs) .non m = .ok (.bl true) m:=rfl
theorem isi_ss (s:Str):zio "str" (.str s) m = .ok (.bl true) m:=rfl
theorem zrr (a:Int):zbh [.int a] m = .ok (.bl true) m:=by
 apply zar
 unfold zbh zgM; erw [isi_ii]; erw [isi_bi]; ac_nf; exact Run.ok ⟨rfl,rfl⟩
theorem zgR (a lo hi:Int):zaQ [.int a,.int lo,.int hi] m = .ok (.bl (decide (lo<=a/\a<=hi))) m:=by
 apply zar
 unfold zaQ zex; erw [zrr]; ac_nf
 by_cases h:lo<=a
 ·rw [if_pos h]; ac_nf; exact Run.ok ⟨by congr 1; simp [h],rfl⟩
 ·rw [if_neg h]; ac_nf; exact Run.ok ⟨by congr 1; simp [h],rfl⟩
theorem zeu (xs:List D) (lo hi:Int):zef [.tup xs,.int lo,.int hi] m = .ok (.bl (decide (lo<=xs.length/\(xs.length:Int)<=hi))) m:=by
 apply zar
 unfold zef zkz; erw [isi_tt]; ac_nf
 by_cases h:lo<=xs.length
 ·rw [if_pos h]; ac_nf; exact Run.ok ⟨by congr 1; simp [h],rfl⟩
 ·rw [if_neg h]; ac_nf; exact Run.ok ⟨by congr 1; simp [h],rfl⟩
theorem zjg (hb:b<=1000000):zb7 [.int v,.int b] m = .ok (.bl (decide (0<=v/\v < 2 ^ b))) m:=by
 apply zar
 unfold zb7 zgN; erw [zdf hb]; erw [zgR]; ac_nf
 refine Run.ok ⟨?_,rfl⟩
 congr 2
 exact propext ⟨fun h=>⟨h.1,by (clear hb; omega)⟩,fun h=>⟨h.1,by (clear hb; omega)⟩⟩
theorem zde {w:Str} {k:Int}:zaM [.tup (.str s::xs),.str w,.int k] m = .ok (.bl (decide (k=xs.length+1/\s=w))) m:=by
 apply zar
 unfold zaM zdZ; erw [zeu]; ac_nf
 by_cases h:k<=((D.str s::xs).length:Nat)/\(((D.str s::xs).length:Nat):Int)<=k
 ·have hk:k=xs.length+1:=by simp at h; omega
  simp only [List.length_cons] at h
  rw [if_pos h]; erw [isi_ss]; ac_nf; exact Run.ok ⟨by congr 1; simp [hk],rfl⟩
 ·have hk : ¬ k=xs.length+1:=by simp at h; omega
  simp only [List.length_cons] at h
  rw [if_neg h]; ac_nf; exact Run.ok ⟨by congr 1; simp [hk],rfl⟩
end
theorem zpL {fs:List Fd} {n b:Int} (hs:zmL fs) (hn:fs.length<=12) (hw:WyOk fs wys):zfk [shD fs n,fmD a b wys] m = .ok (.int ((zfs fs wys).sum:Nat)) m:=by
 apply zar
 unfold zfk zln; erw [zar (ze7 (by omega) hw.len)]; ac_nf
 have e:((zfs fs wys).map fun k:Nat=>D.int k)=((zfs fs wys).map fun k:Nat=>(k:Int)).map D.int:=by rw [List.map_map]; rfl
 rw [e]; simp only [zrA,lOf,Option.bind_some,zd2]
 have hok:∀ x,x∈((zfs fs wys).map fun k:Nat=>(k:Int))->0<=x/\x<=2 ^ 50:=by
  intro x hx
  simp only [List.mem_map] at hx
  obtain ⟨k,hk,rfl⟩:=hx
  obtain ⟨i,hi⟩:=List.mem_iff_getElem?.mp hk
  have hil:i < fs.length:=by have:=(List.getElem?_eq_some_iff.mp hi).1; rw [zcD hw] at this; exact this
  have e1:=List.getElem?_eq_getElem hil
  have e2:=List.getElem?_eq_getElem (show i < wys.length by rw [hw.len]; exact hil)
  rw [zhL e1 e2] at hi
  cases hi
  have:=Wy.w_le (hw.at' i _ _ e1 e2)
  have:=(hs i _ e1).2.1
  (clear hn; omega)
 rw [if_pos ⟨hok,by rw [List.length_map,zcD hw]; omega⟩]; ac_nf
 refine Run.ok ⟨?_,rfl⟩
 congr 1
 generalize zfs fs wys=l
 induction l with
 | nil=>rfl
 | cons x l ih=>simp only [List.map_cons,List.sum_cons,ih]; (clear ih hn; omega)
def encO:Option (Nat × Int)->D
 | none => .non
 | some (j,t) => .tup [.int j,.int t]
def FO (hd td:List Int):Option (Nat × Int)->Prop
 | none=>∀ i:Nat,td[i]?=hd[i]?
 | some (j,t)=>td[j]?=some t/\hd[j]?≠some t/\∀ i:Nat,i < j->td[i]?=hd[i]?
variable {td:List Int}
theorem FO.uniq {o o':Option (Nat × Int)} (h:FO hd td o) (h':FO hd td o'):o=o':=by
 match o,o',h,h' with
 | none,none,_,_=>rfl
 | none,some (j,t),h,h'=>exact absurd (by rw [<- h j]; exact h'.1) h'.2.1
 | some (j,t),none,h',h=>exact absurd (by rw [<- h j]; exact h'.1) h'.2.1
 | some (j,t),some (j',t'),h,h' =>
  rcases Nat.lt_trichotomy j j' with hj | hj | hj
  ·exact absurd (by rw [<- h'.2.2 j hj]; exact h.1) h.2.1
  ·subst hj
   have:=h.1.symm.trans h'.1
   cases this
   rfl
  ·exact absurd (by rw [<- h.2.2 j' hj]; exact h'.1) h'.2.1
theorem zhd (hl:td.length=hd.length):Run (zcu [.tup (hd.map D.int),.tup (td.map D.int)] m) fun a m'=>∃ o,a=encO o/\FO hd td o/\m'=m:=by
 unfold zcu zfD; ac_nf; refine Run.bind (zim (fun k ρ m'=>(∃ x2 x3,ρ = [some (.tup (hd.map D.int)),some (.tup (td.map D.int)),x2,x3])/\(∀ i:Nat,i < k->td[i]?=hd[i]?)/\m'=m) (fun v m'=>∃ j t,v=encO (some (j,t))/\FO hd td (some (j,t))/\m'=m) _ 0 ⟨⟨_,_,rfl⟩,fun i h=>by (clear hl; omega),rfl⟩ ?_) ?_
 ·rintro i d ρ m' hd' ⟨⟨x2,x3,rfl⟩,hI,rfl⟩
  obtain ⟨t,e1,rfl⟩:=zfn hd'
  rw [Nat.zero_add] at hI ⊢
  have hi:i < td.length:=(List.getElem?_eq_some_iff.mp e1).1
  have e2:=List.getElem?_eq_getElem (show i < hd.length by omega)
  erw [zdo e2]; ac_nf
  by_cases h:t=hd[i]'(by omega)
  ·rw [decide_eq_true h]; ac_nf
   refine Run.ok (.inl ⟨_,rfl,⟨_,_,rfl⟩,fun j hj=>?_,rfl⟩)
   rcases Nat.lt_or_ge j i with hj' | hj'
   ·exact hI j hj'
   ·have:j=i:=by (clear h; omega)
    subst this
    rw [e1,e2,h]
  ·rw [decide_eq_false h]; ac_nf
   exact Run.ok (.inr ⟨_,rfl,i,t,rfl,⟨e1,fun z=>h (by rw [e2] at z; cases z; rfl),hI⟩,rfl⟩)
 ·rintro _ m' h
  rcases h with ⟨ρ,rfl,⟨x2,x3,rfl⟩,hI,rfl⟩ | ⟨v,rfl,j,t,rfl,hf,rfl⟩
  ·ac_nf
   refine Run.ok ⟨none,rfl,fun i=>?_,rfl⟩
   rw [Nat.zero_add,zd1] at hI
   rcases Nat.lt_or_ge i td.length with hi | hi
   ·exact hI i hi
   ·rw [List.getElem?_eq_none hi,List.getElem?_eq_none (by omega)]
  ·ac_nf; exact Run.ok ⟨_,rfl,hf,rfl⟩
def zmD:Option (Nat × Nat × Int)->D
 | none => .non
 | some (k,j,t) => .tup [.int k,.int j,.int t]
def tdV (fs:List Fd) (wys:List Wy) (hd:List Int) (x:Int × List Int):List Int:=hdV fs wys x.2 x.1 (pcK fs wys hd fs.length) fs.length
def DB (fs:List Fd) (wys:List Wy) (hd:List Int) (fm:List (Int × List Int)):Option (Nat × Nat × Int)->Prop
 | none=>∀ (i:Nat) (x:Int × List Int),fm[i]?=some x->FO hd (tdV fs wys hd x) none
 | some (k,j,t)=>(∃ x,fm[k]?=some x/\FO hd (tdV fs wys hd x) (some (j,t)))/\∀ (i:Nat) (x:Int × List Int),i < k->fm[i]?=some x->FO hd (tdV fs wys hd x) none
variable {fm:List (Int × List Int)}
theorem zo6 {fs:List Fd} {n b:Int} (hs:zmL fs) (hn:fs.length<=12) (hw:WyOk fs wys) (hh:HdOk fs hd) (h:∀ p∈fm,HdOk fs p.2) :
  Run (zjq [shD fs n,fmD a b wys,.tup (hd.map D.int),.tup (fm.map fmE)] m) fun x m'=>∃ o,x=zmD o/\DB fs wys hd fm o/\m'=m:=by
 obtain ⟨hl,hz⟩:=zsu hs hn hw hh
 unfold zjq zoV; erw [zar (zd8 hs hn hw hh)]; ac_nf; refine Run.bind (zim (fun k ρ m'=>(∃ x5 x6 x7 x8,ρ = [some (shD fs n),some (fmD a b wys),some (.tup (hd.map D.int)),some (.tup (fm.map fmE)),some (.str ⟨(pcK fs wys hd fs.length).toArray⟩),x5,x6,x7,x8])/\(∀ i x,i < k->fm[i]?=some x->FO hd (tdV fs wys hd x) none)/\m'=m) (fun v m'=>∃ o,v=zmD o/\DB fs wys hd fm o/\m'=m) _ 0 ⟨⟨_,_,_,_,rfl⟩,fun i x h=>by (clear hz hl hn; omega),rfl⟩ ?_) ?_
 ·rintro i d ρ m' hd' ⟨⟨x5,x6,x7,x8,rfl⟩,hI,rfl⟩
  obtain ⟨x,e1,rfl⟩:=zfn hd'
  rw [Nat.zero_add] at hI ⊢
  unfold fmE; erw [zar (zl5 hs hn hw (h x (List.mem_of_getElem? e1)) (znN fs.length) hl hz)]; ac_nf; refine Run.bind (zhd (by rw [zir,hh.len])) ?_; rintro _ m' ⟨o,rfl,ho,rfl⟩
  match o,ho with
  | none,ho =>
   unfold encO; erw [isnt_nn]; ac_nf
   refine Run.ok (.inl ⟨_,rfl,⟨_,_,_,_,rfl⟩,fun j y hj hy=>?_,rfl⟩)
   rcases Nat.lt_or_ge j i with hj' | hj'
   ·exact hI j y hj' hy
   ·have:j=i:=by (clear hz hl hn; omega)
    subst this
    rw [e1] at hy
    cases hy
    exact ho
  | some (j,t),ho =>
   unfold encO; erw [zsV]; erw [zqT (by simp; exact Nat.le_of_lt (zcE (by (clear hz hl hn; omega))))]; ac_nf
   exact Run.ok (.inr ⟨_,rfl,some (i,j,t),rfl,⟨⟨x,e1,ho⟩,hI⟩,rfl⟩)
 ·rintro _ m' h'
  rcases h' with ⟨ρ,rfl,⟨x5,x6,x7,x8,rfl⟩,hI,rfl⟩ | ⟨v,rfl,o,rfl,ho,rfl⟩
  ·ac_nf
   refine Run.ok ⟨none,rfl,fun i x hx=>hI i x ?_ hx,rfl⟩
   rw [Nat.zero_add,zd1]
   exact (List.getElem?_eq_some_iff.mp hx).1
  ·ac_nf; exact Run.ok ⟨o,rfl,ho,rfl⟩
theorem zrG {k:Nat} (h:k < xs.length):slD (.tup xs) none (some (k:Int)) m = .ok (.tup (xs.take k)) m:=by
 have e:slD (.tup xs) none (some (k:Int)) m=if HT.sIx xs.length 0 none=0/\HT.sIx xs.length xs.length (some (k:Int))=xs.length then .bad else .ok (.tup (zix xs none (some (k:Int)))) m:=rfl
 rw [e,HT.sIx_nat,HT.sIx_none,if_neg (by omega)]
 unfold zix; rw [HT.sIx_nat,HT.sIx_none,Nat.min_eq_left (by omega),List.drop_zero,Nat.sub_zero]
theorem zm7 {k:Nat} (h:0 < k) (h1:k<=xs.length):slD (.tup xs) (some (k:Int)) none m = .ok (.tup (xs.drop k)) m:=by
 have e:slD (.tup xs) (some (k:Int)) none m=if HT.sIx xs.length 0 (some (k:Int))=0/\HT.sIx xs.length xs.length none=xs.length then .bad else .ok (.tup (zix xs (some (k:Int)) none)) m:=rfl
 rw [e,HT.sIx_nat,HT.sIx_none,if_neg (by omega)]
 unfold zix; rw [HT.sIx_nat,HT.sIx_none,Nat.min_eq_left h1,List.take_of_length_le (by rw [List.length_drop]; exact Nat.le_refl _)]
theorem ix_sh {fs:List Fd} {n:Int}:ixD (shD fs n) (.int 0) m = .ok (.tup (fs.map Fd.e)) m:=ix_t0 _ _
open PySem L2
theorem DB.uniq {fs:List Fd} {o o':Option (Nat × Nat × Int)} (h:DB fs wys hd fm o) (h':DB fs wys hd fm o'):o=o':=by
 have no:∀ {k j t k' j' t'},k < k'->DB fs wys hd fm (some (k,j,t))->DB fs wys hd fm (some (k',j',t'))->False:=by
  intro k j t k' j' t' hk a b
  obtain ⟨⟨x,hx,q⟩,_⟩:=a
  have:=FO.uniq q (b.2 k x hk hx)
  cases this
 match o,o',h,h' with
 | none,none,_,_=>rfl
 | none,some (k,j,t),h,⟨⟨x,hx,q⟩,_⟩=>exact (nomatch (FO.uniq q (h k x hx)))
 | some (k,j,t),none,⟨⟨x,hx,q⟩,_⟩,h=>exact (nomatch (FO.uniq q (h k x hx)))
 | some (k,j,t),some (k',j',t'),h,h' =>
  rcases Nat.lt_trichotomy k k' with hk | hk | hk
  ·exact (no hk h h').elim
  ·subst hk
   obtain ⟨⟨x,hx,q⟩,_⟩:=h
   obtain ⟨⟨y,hy,q'⟩,_⟩:=h'
   rw [hx] at hy
   cases hy
   cases FO.uniq q q'
   rfl
  ·exact (no hk h' h).elim
open PySem L2
variable {hi:Int}
section
theorem zj6 {lo:Int} (h:zio "tuple" d m = .ok (.bl false) m):zef [d,.int lo,.int hi] m = .ok (.bl false) m:=by
 apply zar
 unfold zef zkz; erw [h]; ac_nf; exact Run.ok ⟨rfl,rfl⟩
theorem zdz (h:zio "int" d m = .ok (.bl false) m∨(zio "int" d m = .ok (.bl true) m/\zio "bool" d m = .ok (.bl true) m)):zbh [d] m = .ok (.bl false) m:=by
 apply zar
 unfold zbh zgM; ac_nf
 rcases h with h | ⟨h,h'⟩
 ·rw [h]; ac_nf; exact Run.ok ⟨rfl,rfl⟩
 ·rw [h]; erw [h']; ac_nf; exact Run.ok ⟨rfl,rfl⟩
theorem zcz {lo:Int} (h:zbh [d] m = .ok (.bl false) m):zaQ [d,.int lo,.int hi] m = .ok (.bl false) m:=by
 apply zar
 unfold zaQ zex; erw [h]; ac_nf; exact Run.ok ⟨rfl,rfl⟩
theorem zeB {lo:Int} (h : ¬ (lo<=a/\a<=hi)):zaQ [.int a,.int lo,.int hi] m = .ok (.bl false) m:=by rw [zgR,decide_eq_false h]
theorem zdA (hb:b<=1000000) (h:zbh [d] m = .ok (.bl false) m):zb7 [d,.int b] m = .ok (.bl false) m:=by
 apply zar
 unfold zb7 zgN; erw [zdf hb]; erw [zcz h]; ac_nf; exact Run.ok ⟨rfl,rfl⟩
theorem zcZ {w:Str} {k:Int} (h:zef [d,.int k,.int k] m = .ok (.bl false) m):zaM [d,.str w,.int k] m = .ok (.bl false) m:=by
 apply zar
 unfold zaM zdZ; erw [h]; ac_nf; exact Run.ok ⟨rfl,rfl⟩
theorem zc0 {x:D} {w:Str} {k:Int} (h:zio "str" x m = .ok (.bl false) m):zaM [.tup (x::xs),.str w,.int k] m = .ok (.bl false) m:=by
 by_cases hk:k<=((x::xs).length:Nat)/\(((x::xs).length:Nat):Int)<=k
 ·apply zar
  unfold zaM zdZ; erw [zeu,decide_eq_true hk]; erw [h]; ac_nf; exact Run.ok ⟨rfl,rfl⟩
 ·exact zcZ (by rw [zeu,decide_eq_false hk])
end
theorem zoR {l:Sto} (h:m[r]?=some o):(m++l)[r]?=some o:=by
 rw [List.getElem?_append_left (List.getElem?_eq_some_iff.mp h).1]; exact h
theorem new_of (h:xs.length<=1000):zis xs m = .ok (.ob m.length) (m++[.lst xs]):=if_pos (Nat.le_trans h (by decide))
theorem zmY (h:xs.length<=1000):zbn xs m = .ok (.tup xs) m:=if_pos (Nat.le_trans h (by decide))
variable {β : Bool}
theorem wn_b:zbh [.bl β] m = .ok (.bl false) m:=zdz (.inr ⟨rfl,rfl⟩)
theorem wn_n:zbh [.non] m = .ok (.bl false) m:=zdz (.inl rfl)
theorem wn_s:zbh [.str s] m = .ok (.bl false) m:=zdz (.inl rfl)
theorem wn_t:zbh [.tup xs] m = .ok (.bl false) m:=zdz (.inl rfl)
theorem wn_l:zbh [.lst xs] m = .ok (.bl false) m:=zdz (.inl rfl)
theorem zrm (xs:List τ) (k:Nat):zix xs none (some (k:Int))=xs.take k:=by
 unfold zix; rw [HT.sIx_nat,HT.sIx_none,List.drop_zero,Nat.sub_zero]
 rcases Nat.le_total k xs.length with h | h
 ·rw [Nat.min_eq_left h]
 ·rw [Nat.min_eq_right h,List.take_length,List.take_of_length_le h]
theorem mul_t {n:Int} (h:1<=n/\n<=1000):zeb (.tup [d]) (.int n) m = .ok (.tup (List.replicate n.toNat d)) m:=by rw [zgv]; exact if_pos h
theorem zsi:zia (.int 10) (.int 20) m = .ok (.int 100000000000000000000) m:=by
 rw [zeo]
 have e:zp9 (.int 10) (.int 20) m=if (0:Int)<=20/\(20:Int)<=1000000/\(10:Int).natAbs < 2 ^ 64 then .ok (.int ((10:Int) ^ (20:Int).toNat)) m else .bad:=rfl
 rw [e,if_pos (by decide)]
 rfl
open PySem L2
def kGI3 (ρ : En):Unit->Sto->Res En:=fun _ m => .ok ρ m
def kGI2 (ρ : En) (d x:D):D->Sto->Res En:=fun y m=>(putL x y d m).bind (kGI3 ρ)
def kGI1 (fi:EV) (ρ : En) (d:D):D->Sto->Res En:=fun x m=>(fi ρ m).bind (kGI2 ρ d x)
section
variable {x y:D} {fo fi:EV}
theorem gI_at:gI fo fi d ρ m=(fo ρ m).bind (kGI1 fi ρ d):=rfl
theorem zoA:kGI1 fi ρ d x m=(fi ρ m).bind (kGI2 ρ d x):=rfl
theorem zoz:kGI2 ρ d x y m=(putL x y d m).bind (kGI3 ρ):=rfl
theorem zsR:kGI3 ρ () m = .ok ρ m:=rfl
theorem lst_6 (a b c e f g:D):zcW [a,b,c,e,f,g] m = .ok (.lst [a,b,c,e,f,g]) m:=if_pos (zb2 (by simp))
theorem zqy (a b c e f g i:D):zcW [a,b,c,e,f,g,i] m = .ok (.lst [a,b,c,e,f,g,i]) m:=if_pos (zb2 (by simp))
end
theorem alpha (h:j < 26):ixD (.str "abcdefghijklmnopqrstuvwxyz") (.int j) m = .ok (.str ⟨#[97+j]⟩) m:=by
 have hc:∀ j,j < 26->(Str.ofString "abcdefghijklmnopqrstuvwxyz").cps.toList[j]?=some (97+j):=by decide
 have e:ixD (.str "abcdefghijklmnopqrstuvwxyz") (.int j) m=if (Str.ofString "abcdefghijklmnopqrstuvwxyz").length<=sizeLine then opt ((L2.atI (Str.ofString "abcdefghijklmnopqrstuvwxyz").cps.toList j).map fun c=>D.str ⟨#[c]⟩) m else .bad:=rfl
 rw [e,if_pos (by decide),zgS,hc j h]
 rfl
theorem add_ss {a b:Str} (h:a.length+b.length<=sizeLine):zbj (.str a) (.str b) m = .ok (.str (a++b)) m:=if_pos h
theorem ziA (h:(zcU 0 n)[i]?=some d):d = .int (i:Nat):=by
 have hi:=(List.getElem?_eq_some_iff.mp h).1
 rw [za7] at hi
 simp only [zcU,List.getElem?_map,List.getElem?_range hi,Option.map_some,Option.some.injEq,Int.zero_add] at h
 exact h.symm
variable {y:Int}
theorem zsF {d:Int} (h:(2:Int) ^ b ∣ (2 * y+1) * d):(2:Int) ^ b ∣ d:=by
 induction b generalizing d with
 | zero=>simp
 | succ b ih =>
  obtain ⟨c,hc⟩:=h
  rw [Int.pow_succ] at hc
  have h2:d % 2=0:=by
   have e1:(2 * y+1) * d=2 * (y * d)+d:=by rw [Int.add_mul,Int.mul_assoc,Int.one_mul]
   have e2:2 ^ b * 2 * c=2 * (2 ^ b * c):=by rw [Int.mul_comm (2 ^ b) 2,Int.mul_assoc]
   rw [e1,e2] at hc
   generalize y * d=u at hc; generalize (2:Int) ^ b * c=w at hc
   omega
  obtain ⟨d',rfl⟩:∃ d',d=2 * d':=⟨d / 2,by omega⟩
  have h3:(2:Int) ^ b ∣ (2 * y+1) * d':=by
   refine ⟨c,?_⟩
   have e1:(2 * y+1) * (2 * d')=2 * ((2 * y+1) * d'):=by rw [Int.mul_left_comm]
   have e2:2 ^ b * 2 * c=2 * (2 ^ b * c):=by rw [Int.mul_comm (2 ^ b) 2,Int.mul_assoc]
   rw [e1,e2] at hc
   omega
  obtain ⟨e,he⟩:=ih h3
  exact ⟨e,by rw [he,Int.pow_succ,Int.mul_comm (2 ^ b) 2,Int.mul_assoc]⟩
theorem zrP {f:Int} (hi:(i:Int) < 2 ^ b) (hj:(j:Int) < 2 ^ b) (h:(f+(2 * y+1) * i) % 2 ^ b=(f+(2 * y+1) * j) % 2 ^ b):i=j:=by
 have h1:(2:Int) ^ b ∣ (2 * y+1) * ((i:Int) - j):=by
  have:=Int.dvd_of_emod_eq_zero (Int.emod_eq_emod_iff_emod_sub_eq_zero.mp h)
  rw [show f+(2 * y+1) * i - (f+(2 * y+1) * j)=(2 * y+1) * ((i:Int) - j) by rw [Int.mul_sub]; omega] at this
  exact this
 obtain ⟨c,hc⟩:=zsF h1
 have hb:=p2 b
 generalize (2:Int) ^ b=B at *
 rcases Int.lt_trichotomy c 0 with h0 | h0 | h0
 ·have:B * c<=B * (-1):=Int.mul_le_mul_of_nonneg_left (by omega) (by omega)
  omega
 ·subst h0; omega
 ·have:B * 1<=B * c:=Int.mul_le_mul_of_nonneg_left (by omega) (by omega)
  omega
theorem zoe {τ : Type} [DecidableEq τ] (g:Nat -> τ):∀ n,(∀ i j,i < n->j < n->g i=g j->i=j)->((List.range n).map g).Nodup:=fun n h=>by
 rw [List.Nodup,List.pairwise_map]
 have:=List.nodup_range (n:=n)
 refine List.Pairwise.imp_of_mem ?_ this
 intro a b ha hb hab e
 exact hab (h a b (List.mem_range.mp ha) (List.mem_range.mp hb) e)
def Kd.Ok2 (pl b:Nat) (k:Kd):Prop:=k.Ok pl b/\∀ row,k = .turn row->2<=row.length/\row.Nodup
def Pl:D->Prop
 | .int _ | .bl _ | .non | .str _ | .tup _ | .lst _=>True
 | _=>False
def okV (d:D) (b:Nat):Bool:=match d with
 | .int v=>decide (0<=v/\v < 2 ^ b)
 | _=>false
def zz (xs:List D) (fs:List Fd):List Bool:=List.zipWith (fun x f=>okV x f.b) xs fs
def zs7 (fs:List Fd) (d:D):Bool:=match d with
 | .tup xs=>decide (xs.length=fs.length) && (zz xs fs).all id
 | _=>false
theorem zkx (hd:Pl d) (hb:b<=1000000):zb7 [d,.int b] m = .ok (.bl (okV d b)) m:=by
 match d,hd with
 | .int v,_=>exact zjg hb
 | .bl _,_=>exact zdA hb wn_b
 | .non,_=>exact zdA hb wn_n
 | .str _,_=>exact zdA hb wn_s
 | .tup _,_=>exact zdA hb wn_t
 | .lst _,_=>exact zdA hb wn_l
def fZ (d:D):D:=match d with
 | .tup [x,.int b] => .bl (okV x b.toNat)
 | .tup [x,.tup [_,.int b,_]] => .bl (okV x b.toNat)
 | _ => .non
theorem zz_b:∀ {xs:List D} {fs:List Fd},(zeD xs (fs.map fun f=>D.int f.b)).map fZ=(zz xs fs).map D.bl
 | [],_=>by simp [zeD,zz]
 | _::_,[]=>by simp [zeD,zz]
 | x::xs,f::fs=>by
  simp only [List.map_cons,zeD,zz,List.zipWith_cons_cons]; rw [zz_b]
  rfl
theorem zpw (bs:List Bool):allF [.lst (bs.map D.bl)] m = .ok (.bl (bs.all id)) m:=by
 simp only [allF,lOf,Option.bind_some]; rw [zgV (fun b=>b)]
 simp
theorem zhu {fs:List Fd} {n:Int} (hn:fs.length<=12) (h:zio "tuple" d m = .ok (.bl false) m):zaR [shD fs n,d] m = .ok (.bl false) m:=by
 apply zar
 unfold zaR zf8; erw [zar (zcR (by omega))]; erw [zj6 h]; ac_nf; exact Run.ok ⟨rfl,rfl⟩
theorem add_tt {a b:List D} (h:a.length+b.length<=sizeLine):zbj (.tup a) (.tup b) m = .ok (.tup (a++b)) m:=if_pos h
theorem slen (h:n<=100):n<=sizeLine:=Nat.le_trans h (by decide)
open PySem L2
def chB (c:Nat):Bool:=decide (97<=c/\c<=122)
def nmB (x:Str):Bool:=decide (1<=x.length/\x.length<=8) && x.cps.toList.all chB
structure ShG (fs:List Fd):Prop where
 at':∀ (i:Nat) (f:Fd),fs[i]?=some f->0 < f.b/\f.b<=40/\f.kd.Ok2 i f.b
 nm:∀ x∈fs.map Fd.nm,nmB x=true/\x.length<=8
 nd:(fs.map Fd.nm).Nodup
theorem ShG.ok {fs:List Fd} (h:ShG fs):zmL fs:=fun i f hf=>let ⟨a,b,c⟩:=h.at' i f hf; ⟨a,b,c.1⟩
open PySem L2
def zkI (q:Nat) (seed turn:Int):List (L2.Key × D):=[(Sum.inr "own", .ob q),(Sum.inr "seed", .int seed),(Sum.inr "turn", .int turn)]
structure P3 (m0:Sto) (p q:Nat) (c:Nat) (m:Sto):Prop where
 ex:∃ (own:List Int) (seed turn:Int),m[p]?=some (.dct (zkI q seed turn))/\m[q]?=some (.lst (own.map D.int))/\p≠q/\own.length<=63/\(∀ a∈own,0<=a)/\0<=seed/\seed < 2 ^ 62/\0<=turn/\turn<=c
 fr:Fr p q m0 m
variable {m0:Sto} {c':Nat}
theorem P3.more (h:P3 m0 p q c m) (k:c<=c'):P3 m0 p q c' m:=by
 obtain ⟨own,s,t,h1,h2,h3,h4,h5,h6,h7,h8,h9⟩:=h.ex
 exact ⟨⟨own,s,t,h1,h2,h3,h4,h5,h6,h7,h8,by (clear h8 h7 h6 h4 h3; omega)⟩,h.fr⟩
theorem P3.re (h:P3 m0 p q c m):P3 m p q c m:=⟨h.ex,Fr.refl⟩
variable {m':Sto}
theorem P3.via (h:P3 m0 p q c m) (h':P3 m p q c' m'):P3 m0 p q c' m':=⟨h'.ex,h.fr.trans h'.fr⟩
theorem P3.lt (h:P3 m0 p q c m):p < m.length/\q < m.length:=by
 obtain ⟨own,s,t,h1,h2,_⟩:=h.ex
 exact ⟨(List.getElem?_eq_some_iff.mp h1).1,(List.getElem?_eq_some_iff.mp h2).1⟩
theorem P3.app {r:Sto} (h:P3 m0 p q c m):P3 m0 p q c (m++r):=by
 obtain ⟨own,s,t,h1,h2,h3⟩:=h.ex
 exact ⟨⟨own,s,t,by rw [List.getElem?_append_left (List.getElem?_eq_some_iff.mp h1).1]; exact h1,by rw [List.getElem?_append_left (List.getElem?_eq_some_iff.mp h2).1]; exact h2,h3⟩,by rw [List.length_append]; exact Nat.le_trans h.fr.len (Nat.le_add_right _ _),fun j a b d=>by rw [List.getElem?_append_left (Nat.lt_of_lt_of_le a h.fr.len)]; exact h.fr.at' j a b d⟩
theorem P3.set (h:P3 m0 p q c m) (h0:m0.length<=r) (h1:r≠p) (h2:r≠q):P3 m0 p q c (m.set r o):=by
 obtain ⟨own,s,t,g1,g2,h3⟩:=h.ex
 exact ⟨⟨own,s,t,by rw [zaU h1]; exact g1,by rw [zaU h2]; exact g2,h3⟩,by rw [List.length_set]; exact h.fr.len,fun j a b d=>by rw [zaU (by omega)]; exact h.fr.at' j a b d⟩
theorem P3.kept (h:P3 m p q c m') (hr:m[r]?=some o) (h1:r≠p) (h2:r≠q):m'[r]?=some o:=by
 rw [h.fr.at' r (List.getElem?_eq_some_iff.mp hr).1 h1 h2]; exact hr
theorem zft (q:Nat) (s t:Int):zkT (zkI q s t) (.inr "own")=some (.ob q):=rfl
theorem zrt (q:Nat) (s t:Int):zkT (zkI q s t) (.inr "seed")=some (.int s):=rfl
theorem zmS (q:Nat) (s t:Int):zkT (zkI q s t) (.inr "turn")=some (.int t):=rfl
theorem zsv (q:Nat) (s t v:Int):zny (zkI q s t) (.inr "turn") (.int v)=zkI q s v:=rfl
theorem zqP (q:Nat) (s t:Int):(zkI q s t).length < sizeLine:=by show 3 < sizeLine; decide
def zsw:TV:=by walk_at "#vdt8v0u!!tQ9w-F"
def ownB:SV:=by walk_at "#xvyLv0tZ"
theorem zog (h2:m[q]?=some (.lst (own.map D.int))):neD (.ob q) (.lst []) m = .ok (.bl (!decide (own=[]))) m:=by
 have e:=zs6 own []
 rw [List.map_nil] at e
 simp only [neD,rs,h2,e]
theorem zoI (h2:m[q]?=some (.lst ((a::own).map D.int))):ixD (.ob q) (.int 0) m = .ok (.int a) m:=by
 simp only [ixD,h2]
 show opt (atI _ ((0:Nat):Int)) m=_
 rw [zgS]
 rfl
theorem zlb {p q:Nat} {seed turn:Int} {ρ : En}:∀ (own:List Int) (n:Nat) (m:Sto),own.length < n->m[p]?=some (.dct (zkI q seed turn))->m[q]?=some (.lst (own.map D.int))->p≠q →
  Run (zfg zsw ownB n (some (.ob p)::ρ) m) fun fl m'=>fl = .nx (some (.ob p)::ρ)/\∃ own':List Int,(own'=[]∨∃ a r,own'=a::r/\a≠0)/\(∀ a∈own',a∈own)/\own'.length<=own.length/\m'[p]?=some (.dct (zkI q seed turn))/\m'[q]?=some (.lst (own'.map D.int))/\Fr p q m m'
 | own,0,m,h,_,_,_=>absurd h (Nat.not_lt_zero _)
 | [],n+1,m,h,h1,h2,h3=>by
  rw [zfg]
  have e:zsw (some (.ob p)::ρ) m = .ok false m:=by
   unfold zsw; erw [zdG h1 (zft _ _ _)]; erw [zog (own:=[]) h2]
   rfl
  rw [e,bind_ok,if_neg (by decide)]; exact Run.ok ⟨rfl,[],.inl rfl,fun _ h=>h,Nat.le_refl _,h1,h2,Fr.refl⟩
 | a::own,n+1,m,h,h1,h2,h3=>by
  rw [zfg]
  have e:zsw (some (.ob p)::ρ) m = .ok (decide (a=0)) m:=by
   unfold zsw; erw [zdG h1 (zft _ _ _)]; erw [zog h2]; rw [decide_eq_false (by simp)]; erw [zdG h1 (zft _ _ _)]; erw [zoI h2]; ac_nf
  rw [e,bind_ok]
  by_cases h0:a=0
  ·rw [if_pos (decide_eq_true h0)]
   have eb:ownB (some (.ob p)::ρ) m = .ok (.nx (some (.ob p)::ρ)) (m.set q (.lst (own.map D.int))):=by
    unfold ownB; erw [zdG h1 (zft _ _ _)]; erw [if_pos (show zdH (.ob q) m=true by simp only [zdH,h2])]; erw [znC h2]; ac_nf
   rw [eb,bind_ok]
   refine Run.mono (zlb own n (m.set q (.lst (own.map D.int))) (by simp at h; omega) (by rw [zaU (Ne.symm h3)]; exact h1) (zcS h2) h3) ?_
   rintro fl m' ⟨rfl,own',g1,g2,g3,g4,g5,g6⟩
   exact ⟨rfl,own',g1,fun x hx=>List.mem_cons_of_mem _ (g2 x hx),by simp; omega,g4,g5,Fr.set'.trans g6⟩
  ·rw [if_neg (by simp [h0])]; exact Run.ok ⟨rfl,a::own,.inr ⟨a,own,rfl,h0⟩,fun _ h=>h,Nat.le_refl _,h1,h2,Fr.refl⟩
theorem zjo:zjp=(zaw (zgh zit zsw ownB)
 (zaw (sIf (tV (eOp neD (eOp ixD (zaf 0) (eC (.str "own"))) (eFn zcW zaj)))
 (zaw (zaK (eOp zer (eOp ixD (eOp ixD (zaf 0) (eC (.str "own"))) (eC (.int 0))) (zaf 1)) (gN 2))
 (zaw (zaK (eOp zkB (eOp ixD (eOp ixD (zaf 0) (eC (.str "own"))) (eC (.int 0))) (zaf 1)) (gI (eOp ixD (zaf 0) (eC (.str "own"))) (eC (.int 0))))
 (zaL (zaf 2))))
 zbL)
 (zaw (zpW (zaf 0) (eC (.str "turn")) (eOp zbj (eOp ixD (zaf 0) (eC (.str "turn"))) (eC (.int 1))))
 (zaw (zaK (eOp ixD (zaf 0) (eC (.str "turn"))) (gN 3))
 (zaw (zaK (eOp zbj (eOp zbj (eOp ixD (zaf 0) (eC (.str "seed"))) (eOp zeb (eOp zeb (zaf 3) (zaf 3)) (eC (.int 7919)))) (eOp zeb (zaf 3) (eC (.int 104729)))) (gN 4))
 (zaw (zaK (eOp zer (eOp zeb (zaf 4) (eC (.int 48271))) (eC (.int 2305843009213693921))) (gN 4))
 (zaw (zaK (eOp zer (eOp zeb (zaf 4) (eOp zbj (eOp zer (zaf 4) (eC (.int 1000003))) (eC (.int 69621)))) (eC (.int 2305843009213693907))) (gN 4))
 (zaL (eOp zer (eOp zkB (zaf 4) (eC (.int 65537))) (zaf 1)))))))))):=rfl
theorem zr7 {b:Int} (h2:m[q]?=some (.lst ((a::own).map D.int))):putL (.ob q) (.int 0) (.int b) m = .ok () (m.set q (.lst ((b::own).map D.int))):=by
 have e:ixN ((a::own).map D.int).length 0=some 0:=by
  unfold ixN; rw [if_pos (by decide),if_pos (by simp)]
  rfl
 simp only [putL,h2,e]
 rfl
theorem zkQ {t:TV} {b:SV}:zgh n t b ρ m=zfg t b n ρ m:=rfl
theorem zaP {k:Int} (hp:P3 m0 p q c m) (hc:c < 2 ^ 40) (k0:0 < k) (k1:k < 2 ^ 64) :
  Run (zau [.ob p,.int k] m) fun a m'=>∃ d:Int,a = .int d/\0<=d/\d < k/\P3 m p q (c+1) m':=by
 obtain ⟨own,s,t,h1,h2,h3,h4,h5,h6,h7,h8,h9⟩:=hp.ex
 unfold zau; rw [zjo,run_at]
 show Run (Res.bind (zaw (zgh zit zsw ownB) _ (some (.ob p)::[some (.int k),none,none,none]) m) zgZ) _
 rw [seq_at,zkQ,bind_then]; refine Run.bind (zlb (ρ := [some (.int k),none,none,none]) own zit m (Nat.lt_of_le_of_lt h4 (by decide)) h1 h2 h3) ?_; rintro _ m1 ⟨rfl,own',g1,g2,g3,g4,g5,g6⟩; erw [zdG g4 (zft _ _ _)]; erw [zog g5]
 rcases g1 with rfl | ⟨a,r,rfl,a0⟩
 ·rw [decide_eq_true rfl]; erw [zdG g4 (zmS _ _ _)]; erw [zr8 g4 (zqP _ _ _),zsv]
  have hp2:(m1.set p (.dct (zkI q s (t+1))))[p]?=some (.dct (zkI q s (t+1))):=zcS g4
  have hq2:(m1.set p (.dct (zkI q s (t+1))))[q]?=some (.lst (([]:List Int).map D.int)):=by rw [zaU h3]; exact g5
  have f2:Fr p q m (m1.set p (.dct (zkI q s (t+1)))):=g6.trans Fr.set
  generalize hm2:m1.set p (.dct (zkI q s (t+1)))=m2 at hp2 hq2 f2; erw [zdG hp2 (zmS _ _ _)]; erw [zdG hp2 (zrt _ _ _)]; erw [zil ⟨by omega,by omega⟩]; erw [zkp ⟨by decide,by decide⟩]; erw [zil ⟨by omega,by omega⟩]; erw [zkp ⟨by decide,by decide⟩]; erw [zcq (by decide)]; ac_nf
  rw [zcq (by decide)]; erw [zkp (zom _)]; erw [zcq (by decide)]; erw [div_i ⟨by decide,by decide⟩]; erw [zcq k0]; ac_nf; exact Run.ok ⟨_,rfl,Int.emod_nonneg _ (by omega),Int.emod_lt_of_pos _ k0,⟨⟨[],s,t+1,hp2,hq2,h3,by decide,fun _ h=>(nomatch h),h6,h7,by omega,by omega⟩,f2⟩⟩
 ·rw [decide_eq_false (by simp)]; erw [zdG g4 (zft _ _ _)]; erw [zoI g5]; erw [zcq k0]; erw [zdG g4 (zft _ _ _)]; erw [zoI g5]; erw [div_i ⟨k0,k1⟩]; ac_nf; simp only [gI_at,zoA,zoz,bind_ok,bind_then,eC_at,op_at,kop_at,var_0]; rw [zdG g4 (zft _ _ _)]; simp only [bind_ok,then_at,zoA,zoz,eC_at,bind_then]
  rw [zr7 g5]; simp only [bind_ok,then_at,zsR]; ac_nf
  have ha:0<=a:=h5 a (g2 a (by simp))
  exact Run.ok ⟨_,rfl,Int.emod_nonneg _ (by omega),Int.emod_lt_of_pos _ k0,⟨⟨a / k::r,s,t,by rw [zaU (Ne.symm h3)]; exact g4,zcS g5,h3,Nat.le_trans g3 h4,fun x hx=>by
   rcases List.mem_cons.mp hx with rfl | hx
   ·exact Int.ediv_nonneg ha (by omega)
   ·exact h5 x (g2 x (List.mem_cons_of_mem _ hx)),h6,h7,h8,by omega⟩,g6.trans Fr.set'⟩⟩
theorem zc3 (hp:P3 m0 p q c m) (hc:c < 2 ^ 40) (h0:0 < xs.length) (h1:xs.length < 1000) :
  Run (zbg [.ob p,.lst xs] m) fun a m'=>a∈xs/\P3 m p q (c+1) m':=by
 unfold zbg zoT; ac_nf; refine Run.bind (zaP hp hc (by omega) (by omega)) ?_; rintro _ m1 ⟨d,rfl,d0,d1,hp1⟩; ac_nf
 obtain ⟨x,hx,e⟩:=zq8 (m:=m1) (xs:=xs) d0 d1
 rw [e]; exact Run.ok ⟨hx,hp1⟩
theorem ze8 (hp:P3 m0 p q c m) (hc:c+2 < 2 ^ 40) (hb:b<=40) :
  Run (zbq [.ob p,.int b] m) fun a m'=>∃ v:Int,a = .int v/\0<=v/\v < 2 ^ b/\P3 m p q (c+2) m':=by
 have hB:=p2 b
 have hB2:=p2lt hb
 unfold zbq zgJ; erw [zdf (by omega)]; erw [zdf (by omega)]; ac_nf; refine Run.bind (zaP hp (by omega) hB hB2) ?_; rintro _ m1 ⟨x,rfl,x0,x1,hp1⟩; ac_nf; refine Run.bind (zaP hp1 (by omega) (by decide) (by decide)) ?_; rintro _ m2 ⟨y,rfl,y0,y1,hp2⟩; ac_nf
 obtain ⟨v,hv,e⟩:=zq8 (m:=m2) (xs:=[.int 0,.int 1,.int (2 ^ b - 1),.int x]) y0 y1
 rw [e]; ac_nf
 have hv':∃ n:Int,v = .int n:=by
  simp only [List.mem_cons,List.not_mem_nil,or_false] at hv
  rcases hv with rfl | rfl | rfl | rfl <;> exact ⟨_,rfl⟩
 obtain ⟨n,rfl⟩:=hv'
 rw [zdf (by omega)]; erw [zcq hB]; ac_nf; exact Run.ok ⟨_,rfl,Int.emod_nonneg _ (by omega),Int.emod_lt_of_pos _ hB,hp1.via hp2⟩
theorem zqs (n:Int):zpy (.int n) m = .ok (.int (-n)) m:=rfl
theorem zoy {pl:Nat} (hp:P3 m0 p q c m) (hc:c+8 < 2 ^ 40) (h1:0 < b) (h2:b<=40) (hpl:pl<=100) :
  Run (zdL [.ob p,.int pl,.int b] m) fun a m'=>∃ kd:Kd,a=kd.e/\kd.Ok2 pl b/\P3 m p q (c+8) m':=by
 have hB:=p2 b
 have hB2:=p2lt h2
 have hB4:=p2le h2
 have hB3:(2:Int)<=2 ^ b:=by
  have:=Nat.pow_le_pow_right (n:=2) (by decide) h1
  exact_mod_cast this
 unfold zdL zhy; ac_nf; refine Run.bind (zaP hp (by omega) (by decide) (by decide)) ?_; rintro _ m1 ⟨w,rfl,w0,w1,hp1⟩; ac_nf
 by_cases c1:w < 2
 ·rw [if_pos c1]; ac_nf; exact Run.ok ⟨.still,rfl,⟨trivial,fun _ h=>by cases h⟩,hp1.more (by omega)⟩
 rw [if_neg c1]; ac_nf
 by_cases c2:w < 4
 ·rw [if_pos c2]; ac_nf; refine Run.bind (ze8 hp1 (by omega) h2) ?_; rintro _ m2 ⟨x,rfl,x0,x1,hp2⟩; ac_nf; exact Run.ok ⟨.step x,rfl,⟨⟨x0,x1⟩,fun _ h=>by cases h⟩,(hp1.via hp2).more (by omega)⟩
 rw [if_neg c2]; ac_nf
 by_cases c3:w=4
 ·rw [if_pos c3]; ac_nf; refine Run.bind (zaP hp1 (by omega) (by decide) (by decide)) ?_; rintro _ m2 ⟨x,rfl,x0,x1,hp2⟩; erw [zdf (by omega)]; erw [zdf (by omega)]; ac_nf; refine Run.bind (zaP hp2 (by omega) hB hB2) ?_; rintro _ m3 ⟨y,rfl,y0,y1,hp3⟩; ac_nf; refine Run.bind (zaP hp3 (by omega) (by decide) (by decide)) ?_; rintro _ m4 ⟨z,rfl,z0,z1,hp4⟩
  erw [zil ⟨by decide,by decide⟩]; ac_nf; generalize hn:(if (2:Int) ^ b < 2+x then (2:Int) ^ b else 2+x)=n
  have n0:2<=n:=by rw [<- hn]; split <;> omega
  have n1:n<=12:=by rw [<- hn]; split <;> omega
  have n2:n<=2 ^ b:=by rw [<- hn]; split <;> omega
  clear hn
  obtain ⟨N,rfl⟩:∃ N:Nat,n=N:=⟨n.toNat,by omega⟩
  rw [zbt (ds:=zcU 0 N) (fun d=>match d with | .int i => .int ((y+(2 * z+1) * i) % 2 ^ b) | _ => .non)]
  ·ac_nf
   refine Run.ok ⟨.turn ((List.range N).map fun i:Nat=>(y+(2 * z+1) * (i:Int)) % 2 ^ b),?_,⟨⟨?_,by simp; omega,?_⟩,fun row h=>?_⟩,(hp1.via (hp2.via (hp3.via hp4))).more (by omega)⟩
   ·simp only [Kd.e,zcU,List.map_map,Int.zero_add]; rfl
   ·intro h
    have:=congrArg List.length h
    simp at this
    omega
   ·intro v hv
    simp only [List.mem_map] at hv
    obtain ⟨i,_,rfl⟩:=hv
    exact ⟨Int.emod_nonneg _ (by omega),Int.emod_lt_of_pos _ hB⟩
   ·cases h
    exact ⟨by simp; omega,zoe _ _ fun i j hi hj e=>zrP (by omega) (by omega) e⟩
  ·erw [zgi (by omega) (by omega)]
   rfl
  ·rw [za7]; omega
  ·intro d hd
   simp only [zcU,List.mem_map] at hd
   obtain ⟨i,hi,rfl⟩:=hd
   refine ⟨_,rfl,?_⟩
   show eOp zer (eOp zbj (zaf 5) (eOp zeb (zaf 6) (zaf 8))) (eOp zfU (eC (.int 1)) (zaf 2)) [some (.ob p),some (.int pl),some (.int b),some (.int w),some (.int N),some (.int y),some (.int (2 * z+1)),none,some (.int (0+(i:Nat)))] m4=_
   erw [zil ⟨by omega,by omega⟩]; erw [zdf (by omega)]; erw [zcq hB]
 rw [if_neg c3]; ac_nf
 by_cases c4:w < 7/\0 < pl
 ·rw [if_pos c4.1]; rw [decide_eq_true (show (0:Int) < (pl:Nat) by omega)]; erw [zqs]; erw [zqs]; ac_nf; refine Run.bind (zaP hp1 (by omega) (by decide) (by decide)) ?_; rintro _ m2 ⟨x,rfl,x0,x1,hp2⟩; erw [zqy]; ac_nf; refine Run.bind (zaP hp2 (by omega) (by omega) (by omega)) ?_; rintro _ m3 ⟨y,rfl,y0,y1,hp3⟩; ac_nf
  refine Run.bind (zc3 hp3 (by omega) (by simp) (by simp)) ?_; rintro v m4 ⟨hv,hp4⟩; ac_nf
  obtain ⟨i,rfl⟩:∃ i:Nat,y=i:=⟨y.toNat,by omega⟩
  have hv':∃ t:Int,v = .int t /\ -99<=t/\t<=99:=by
   simp only [List.mem_cons,List.not_mem_nil,or_false] at hv
   rcases hv with rfl | rfl | rfl | rfl | rfl | rfl | rfl <;> exact ⟨_,rfl,by omega,by omega⟩
  obtain ⟨t,rfl,t0,t1⟩:=hv'
  exact Run.ok ⟨.wth i t,rfl,⟨⟨by omega,t0,t1⟩,fun _ h=>by cases h⟩,(hp1.via (hp2.via (hp3.via hp4))).more (by omega)⟩
 ·have hd:Run (Res.bind (zaw zbL (zaL (eFn zbn (zac (eC (.str "drawn")) zaj))) [some (.ob p),some (.int pl),some (.int b),some (.int w),none,none,none,none] m1) zgZ) fun a m'=>∃ kd:Kd,a=kd.e/\kd.Ok2 pl b/\P3 m p q (c+8) m':=by
   ac_nf; exact Run.ok ⟨.drawn,rfl,⟨trivial,fun _ h=>by cases h⟩,hp1.more (by omega)⟩
  by_cases c5:w < 7
  ·rw [if_pos c5]; rw [decide_eq_false (show ¬ (0:Int) < (pl:Nat) by omega)]; ac_nf; exact Run.ok ⟨.drawn,rfl,⟨trivial,fun _ h=>by cases h⟩,hp1.more (by omega)⟩
  ·rw [if_neg c5]; ac_nf; exact Run.ok ⟨.drawn,rfl,⟨trivial,fun _ h=>by cases h⟩,hp1.more (by omega)⟩
theorem zk3 (c:Nat):∀ (k:Nat) (a:Array Nat),((List.replicate k #[c]).foldl (· ++ ·) a).toList=a.toList++List.replicate k c
 | 0,a=>by simp
 | k+1,a=>by
  rw [List.replicate_succ,List.foldl_cons,zk3 c k]
  simp [List.replicate_succ]
theorem mul_one (h:1<=n):(Txt.mul ⟨#[c]⟩ (n:Nat)).cps.toList=List.replicate n c:=by
 unfold Txt.mul
 rw [if_neg (by omega)]
 split
 ·rename_i h2
  have:n=1:=by
   rw [Bool.or_eq_true] at h2
   rcases h2 with h2 | h2
   ·have:=eq_of_beq h2
    omega
   ·exact absurd (eq_of_beq h2) (by show ¬ 1=0; decide)
  subst this
  rfl
 ·show ((List.replicate (n:Int).toNat #[c]).foldl (· ++ ·) #[]).toList=_
  rw [zk3]
  simp
theorem nm_mul (hj:j < 26) (h1:1<=n) (h2:n<=8):nmB (Txt.mul ⟨#[97+j]⟩ (n:Nat))=true/\(Txt.mul ⟨#[97+j]⟩ (n:Nat)).length<=8/\(Txt.mul ⟨#[97+j]⟩ (n:Nat)).cps.toList.head?=some (97+j):=by
 have e:=mul_one (c:=97+j) h1
 have hl:(Txt.mul ⟨#[97+j]⟩ (n:Nat)).length=n:=by
  show (Txt.mul ⟨#[97+j]⟩ (n:Nat)).cps.size=n
  rw [<- Array.length_toList,e,List.length_replicate]
 refine ⟨?_,by omega,?_⟩
 ·unfold nmB; rw [hl,e,decide_eq_true ⟨h1,h2⟩,Bool.true_and,List.all_eq_true]
  intro x hx
  have:=(List.mem_replicate.mp hx).2
  subst this
  simp only [chB,decide_eq_true_eq]
  omega
 ·rw [e]
  cases n with
  | zero=>omega
  | succ n=>rfl
theorem lst_8 (a b c e f g i j:D):zcW [a,b,c,e,f,g,i,j] m = .ok (.lst [a,b,c,e,f,g,i,j]) m:=if_pos (zb2 (by simp))
variable {most:Nat}
theorem zlX (hp:P3 m0 p q c m) (hc:c+200 < 2 ^ 40) (hm0:0 < most) (hm1:most<=12) :
  Run (zc9 [.ob p,.int most] m) fun a m'=>∃ (fs:List Fd) (n:Int),a=shD fs n/\0 < n/\n<=1000000/\0 < fs.length/\fs.length<=12/\ShG fs/\P3 m p q (c+200) m':=by
 unfold zc9 zgL; ac_nf; refine Run.bind (zaP hp (by omega) (by decide) (by decide)) ?_; rintro _ m1 ⟨f,rfl,f0,f1,hp1⟩
 obtain ⟨f,rfl⟩:∃ f':Nat,f=f':=⟨f.toNat,by omega⟩
 erw [zof]; ac_nf
 have hpA:P3 m p q (c+1) (m1++[.lst []]):=hp1.app
 have hr:(m1++[MO.lst []])[m1.length]?=some (.lst []):=by simp
 have hrp:m1.length≠p:=Nat.ne_of_gt hp1.lt.1
 have hrq:m1.length≠q:=Nat.ne_of_gt hp1.lt.2
 have hr0:m.length<=m1.length:=hp1.fr.len
 generalize m1.length=r at hr hrp hrq hr0 ⊢; generalize m1++[MO.lst []]=mA at hpA hr ⊢; refine Run.bind (zaP hpA (by omega) (by omega) (by omega)) ?_; rintro _ m2 ⟨k,rfl,k0,k1,hp2⟩
 obtain ⟨k,rfl⟩:∃ k':Nat,k=k':=⟨k.toNat,by omega⟩
 have hr2:=hp2.kept hr hrp hrq
 have hpB:=hpA.via hp2
 erw [zgi (by omega) (by omega)]; ac_nf; refine Run.bind (zbw (fun i ρ m'=>∃ (fs:List Fd) (x5 x6 x7:Option D),ρ = [some (.ob p),some (.int most),some (.str "abcdefghijklmnopqrstuvwxyz"),some (.int f),some (.ob r),x5,x6,x7]/\m'[r]?=some (.lst (fs.map Fd.e))/\fs.length=i/\(∀ (j:Nat) (g:Fd),fs[j]?=some g->(0 < g.b/\g.b<=40/\g.kd.Ok2 j g.b)/\nmB g.nm=true/\g.nm.length<=8/\g.nm.cps.toList.head?=some (97+(f+3 * j) % 26))/\P3 m p q (c+2+9 * i) m') (zcU 0 (1+(k:Int)).toNat) 0 ⟨[],none,none,none,rfl,hr2,rfl,fun j g h=>by simp at h,hpB⟩ ?_) ?_
 ·rintro i d ρ m3 hd ⟨fs,x5,x6,x7,rfl,g1,g2,g3,g4⟩
  have hi:=(List.getElem?_eq_some_iff.mp hd).1
  rw [za7] at hi
  have:=ziA hd
  subst this
  rw [Nat.zero_add] at g2 g4 ⊢
  erw [lst_8]; ac_nf; refine Run.bind (zc3 g4 (by omega) (by simp) (by simp)) ?_; rintro v m4 ⟨hv,hp4⟩
  have hv':∃ b:Nat,v = .int b/\0 < b/\b<=40:=by
   simp only [List.mem_cons,List.not_mem_nil,or_false] at hv
   rcases hv with rfl | rfl | rfl | rfl | rfl | rfl | rfl | rfl
   ·exact ⟨1,rfl,by decide,by decide⟩
   ·exact ⟨2,rfl,by decide,by decide⟩
   ·exact ⟨3,rfl,by decide,by decide⟩
   ·exact ⟨4,rfl,by decide,by decide⟩
   ·exact ⟨5,rfl,by decide,by decide⟩
   ·exact ⟨8,rfl,by decide,by decide⟩
   ·exact ⟨16,rfl,by decide,by decide⟩
   ·exact ⟨40,rfl,by decide,by decide⟩
  obtain ⟨b,rfl,b0,b1⟩:=hv'
  erw [zil ⟨by decide,by decide⟩]; erw [zcq (by decide)]; erw [show ((f:Int)+3 * (i:Nat)) % 26=(((f+3 * i) % 26:Nat):Int) by push_cast; rfl,alpha (Nat.mod_lt _ (by decide))]; erw [zcq (by decide)]; erw [show (1:Int)+((f:Int)+(i:Nat)) % 8=((1+(f+i) % 8:Nat):Int) by push_cast; rfl,mul_s (by rfl) (by omega) (by omega)]
  ac_nf
  have g1':=hp4.kept g1 hrp hrq
  rw [if_pos (zjf g1')]; ac_nf; refine Run.bind (zoy hp4 (by omega) b0 b1 (by omega)) ?_; rintro _ m5 ⟨kd,rfl,hk,hp5⟩
  have g1'':=hp5.kept g1' hrp hrq
  erw [zjS g1'' (by rw [List.length_map]; exact zcE (by omega))]; ac_nf
  obtain ⟨n1,n2,n3⟩:=nm_mul (j:=(f+3 * i) % 26) (n:=1+(f+i) % 8) (Nat.mod_lt _ (by decide)) (by omega) (by omega)
  refine Run.ok ⟨_,rfl,fs++[⟨Txt.mul ⟨#[97+(f+3 * i) % 26]⟩ ((1+(f+i) % 8:Nat):Int),b,kd⟩],_,_,_,rfl,?_,?_,?_,?_⟩
  ·rw [zcS g1'',List.map_append]
   rfl
  ·rw [List.length_append,g2]; rfl
  ·intro j g hg
   rcases Nat.lt_trichotomy j fs.length with hj | hj | hj
   ·rw [List.getElem?_append_left hj] at hg; exact g3 j g hg
   ·subst hj
    simp at hg
    subst hg
    exact ⟨⟨b0,b1,by rw [g2]; exact hk⟩,n1,n2,by rw [g2]; exact n3⟩
   ·rw [List.getElem?_eq_none (by simp; omega)] at hg; cases hg
  ·refine P3.set ((g4.via (hp4.via hp5)).more (by omega)) hr0 hrp hrq
 ·rintro _ m3 ⟨ρ,rfl,fs,x5,x6,x7,rfl,g1,g2,g3,g4⟩
  rw [Nat.zero_add,za7] at g2 g4
  ac_nf; simp only [zmN,g1]; erw [pow106]; erw [lst_8]; ac_nf; refine Run.bind (zc3 g4 (by omega) (by simp) (by simp)) ?_; rintro v m4 ⟨hv,hp4⟩
  have hv':∃ n:Int,v = .int n/\0 < n/\n<=1000000:=by
   simp only [List.mem_cons,List.not_mem_nil,or_false] at hv
   rcases hv with rfl | rfl | rfl | rfl | rfl | rfl | rfl | rfl <;> exact ⟨_,rfl,by omega,by omega⟩
  obtain ⟨n,rfl,n0,n1⟩:=hv'
  ac_nf
  have hfl:fs.length<=12:=by omega
  refine Run.ok ⟨fs,n,rfl,n0,n1,by omega,hfl,⟨fun j g h=>(g3 j g h).1,fun x hx=>?_,?_⟩,(g4.via hp4).more (by omega)⟩
  ·obtain ⟨g,hg,rfl⟩:=List.mem_map.mp hx
   obtain ⟨j,hj⟩:=List.mem_iff_getElem?.mp hg
   exact ⟨(g3 j g hj).2.1,(g3 j g hj).2.2.1⟩
  ·rw [List.Nodup,List.pairwise_map,List.pairwise_iff_getElem]
   intro i j hi hj hij e
   have a1:=(g3 i fs[i] (List.getElem?_eq_getElem hi)).2.2.2
   have a2:=(g3 j fs[j] (List.getElem?_eq_getElem hj)).2.2.2
   rw [e,a2] at a1
   have:=Option.some.inj a1
   omega
structure Fm where
 a:Nat
 b:Nat
 wys:List Wy
def Fm.e (f:Fm):D:=fmD f.a f.b f.wys
structure FmOk (fs:List Fd) (f:Fm):Prop where
 a0:0 < f.a
 a1:f.a<=40
 b0:0 < f.b
 b1:f.b<=40
 wy:WyOk fs f.wys
structure Rd4 where
 skips:Nat
 gap:Nat
 late:Nat
 anew:Nat
def Rd4.e (r:Rd4):D := .tup [.int r.skips,.int r.gap,.int r.late,.int r.anew]
structure RdOk (r:Rd4):Prop where
 s1:r.skips<=39
 g0:r.skips<=r.gap
 g1:r.gap<=400
 l1:r.late<=20
 n1:r.anew<=400
structure Pt where
 fs:List Fd
 n:Int
 wide:Nat
 fms:List Fm
 rd:Rd4
def Pt.e (p:Pt):D := .tup [shD p.fs p.n,.int p.wide,.tup (p.fms.map Fm.e),p.rd.e]
structure PtOk (p:Pt):Prop where
 n0:0 < p.n
 n1:p.n<=1000000
 f0:0 < p.fs.length
 f1:p.fs.length<=12
 sh:ShG p.fs
 w0:0 < p.wide
 w1:p.wide<=40
 fm:∀ f∈p.fms,FmOk p.fs f
 fml:p.fms.length<=12
 rd:RdOk p.rd
theorem zpD (hp:P3 m0 p q c m) (hc:c+5 < 2 ^ 40) (h0:0 < b) (h1:b<=40) :
  Run (ze1 [.ob p,.int b] m) fun a m'=>∃ wy:Wy,a=wy.e/\wy.Ok b/\P3 m p q (c+4) m':=by
 unfold ze1 zjl; ac_nf; refine Run.bind (zaP hp (by omega) (by decide) (by decide)) ?_; rintro _ m1 ⟨x,rfl,x0,x1,hp1⟩; ac_nf
 by_cases c1:x < 3
 ·rw [if_pos c1]; ac_nf; exact Run.ok ⟨.keep,rfl,trivial,hp1.more (by omega)⟩
 rw [if_neg c1]; ac_nf
 by_cases c2:x=3
 ·rw [if_pos c2]; ac_nf; exact Run.ok ⟨.whole,rfl,trivial,hp1.more (by omega)⟩
 rw [if_neg c2]; ac_nf; refine Run.bind (zaP hp1 (by omega) (by omega) (by omega)) ?_; rintro _ m2 ⟨y,rfl,y0,y1,hp2⟩
 obtain ⟨w,hw⟩:∃ w:Nat,1+y=w:=⟨(1+y).toNat,by omega⟩
 erw [hw]; refine Run.bind (ze8 hp2 (by omega) (b:=w) (by omega)) ?_; rintro _ m3 ⟨v,rfl,v0,v1,hp3⟩; ac_nf; exact Run.ok ⟨.low w v,rfl,⟨by omega,by omega,v0,v1⟩,(hp1.via (hp2.via hp3)).more (by omega)⟩
theorem lst_9 (a b c e f g i j k:D):zcW [a,b,c,e,f,g,i,j,k] m = .ok (.lst [a,b,c,e,f,g,i,j,k]) m:=if_pos (slen (by simp))
theorem zoX {fs:List Fd} {n:Int} (hp:P3 m0 p q c m) (hc:c+62 < 2 ^ 40) (hs:zmL fs) (hn:fs.length<=12) :
  Run (zda [.ob p,shD fs n] m) fun x m'=>∃ f:Fm,x=f.e/\FmOk fs f/\P3 m p q (c+62) m':=by
 unfold zda zhz shD; ac_nf; refine Run.bind (zgW (ds:=fs.map Fd.e) (fun k m'=>P3 m p q (c+5 * k) m') (fun i d x=>∃ w:Wy,x=w.e/\∀ f,fs[i]?=some f->w.Ok f.b) (by ac_nf) (by rw [List.length_map]; omega) hp.re ?_) ?_
 ·intro i d m' hd hI
  have hi:i < fs.length:=by have:=(List.getElem?_eq_some_iff.mp hd).1; simpa using this
  have e1:=List.getElem?_eq_getElem hi
  have hd':d=fs[i].e:=by
   rw [List.getElem?_map,e1] at hd
   simpa using hd.symm
  subst hd'
  obtain ⟨b0,b1,hk⟩:=hs i _ e1
  simp only [Fd.e]; ac_nf
  refine Run.mono (zpD hI (by omega) b0 b1) ?_
  rintro a m3 ⟨w,rfl,hw,hp3⟩
  exact ⟨⟨w,rfl,fun f hf=>by rw [e1] at hf; cases hf; exact hw⟩,(hI.via hp3).more (by omega)⟩
 ·rintro xs m' ⟨hlen,hP,hI⟩; ac_nf
  rw [List.length_map] at hlen hI
  obtain ⟨l,rfl,hl⟩:=lift Wy.e (fun i w=>∀ f,fs[i]?=some f->Wy.Ok f.b w) xs 0 fun i x hx=>by
   have hi:i < fs.length:=by have:=(List.getElem?_eq_some_iff.mp hx).1; omega
   rw [Nat.zero_add]
   exact hP i fs[i].e x (by rw [List.getElem?_map,List.getElem?_eq_getElem hi]; rfl) hx
  rw [zqy]; ac_nf; refine Run.bind (zc3 hI (by omega) (by simp) (by simp)) ?_; rintro v m2 ⟨hv,hp2⟩; erw [lst_9]; ac_nf; refine Run.bind (zc3 hp2 (by omega) (by simp) (by simp)) ?_; rintro u m3 ⟨hu,hp3⟩; ac_nf
  have hv':∃ a:Nat,v = .int a/\0 < a/\a<=40:=by
   simp only [List.mem_cons,List.not_mem_nil,or_false] at hv
   rcases hv with rfl | rfl | rfl | rfl | rfl | rfl | rfl
   ·exact ⟨1,rfl,by decide,by decide⟩
   ·exact ⟨2,rfl,by decide,by decide⟩
   ·exact ⟨3,rfl,by decide,by decide⟩
   ·exact ⟨4,rfl,by decide,by decide⟩
   ·exact ⟨6,rfl,by decide,by decide⟩
   ·exact ⟨9,rfl,by decide,by decide⟩
   ·exact ⟨40,rfl,by decide,by decide⟩
  have hu':∃ a:Nat,u = .int a/\0 < a/\a<=40:=by
   simp only [List.mem_cons,List.not_mem_nil,or_false] at hu
   rcases hu with rfl | rfl | rfl | rfl | rfl | rfl | rfl | rfl | rfl
   ·exact ⟨1,rfl,by decide,by decide⟩
   ·exact ⟨2,rfl,by decide,by decide⟩
   ·exact ⟨3,rfl,by decide,by decide⟩
   ·exact ⟨4,rfl,by decide,by decide⟩
   ·exact ⟨5,rfl,by decide,by decide⟩
   ·exact ⟨6,rfl,by decide,by decide⟩
   ·exact ⟨8,rfl,by decide,by decide⟩
   ·exact ⟨12,rfl,by decide,by decide⟩
   ·exact ⟨40,rfl,by decide,by decide⟩
  obtain ⟨a,rfl,a0,a1⟩:=hv'
  obtain ⟨b,rfl,b0,b1⟩:=hu'
  refine Run.ok ⟨⟨a,b,l⟩,rfl,⟨a0,a1,b0,b1,⟨by simpa using hlen,fun i f v hf hv=>?_⟩⟩,(hI.via (hp2.via hp3)).more (by omega)⟩
  have:=hl i v hv
  rw [Nat.zero_add] at this
  exact this f hf
theorem zpZ (hp:P3 m0 p q c m) (hc:c+4 < 2 ^ 40) :
  Run (ze2 [.ob p] m) fun x m'=>∃ r:Rd4,x=r.e/\RdOk r/\P3 m p q (c+4) m':=by
 unfold ze2 zjm; erw [zqy]; ac_nf; refine Run.bind (zc3 hp (by omega) (by simp) (by simp)) ?_; rintro v m1 ⟨hv,hp1⟩
 have hv':∃ s:Nat,v = .int s/\s<=39:=by
  simp only [List.mem_cons,List.not_mem_nil,or_false] at hv
  rcases hv with rfl | rfl | rfl | rfl | rfl | rfl | rfl
  ·exact ⟨0,rfl,by decide⟩
  ·exact ⟨0,rfl,by decide⟩
  ·exact ⟨1,rfl,by decide⟩
  ·exact ⟨2,rfl,by decide⟩
  ·exact ⟨3,rfl,by decide⟩
  ·exact ⟨5,rfl,by decide⟩
  ·exact ⟨39,rfl,by decide⟩
 obtain ⟨s,rfl,s1⟩:=hv'
 ac_nf; refine Run.bind (zc3 hp1 (by omega) (by simp) (by simp)) ?_; rintro v m2 ⟨hv,hp2⟩
 have hv':∃ g:Nat,v = .int g/\g<=361:=by
  simp only [List.mem_cons,List.not_mem_nil,or_false] at hv
  rcases hv with rfl | rfl | rfl | rfl | rfl
  ·exact ⟨0,rfl,by decide⟩
  ·exact ⟨1,rfl,by decide⟩
  ·exact ⟨4,rfl,by decide⟩
  ·exact ⟨30,rfl,by decide⟩
  ·exact ⟨361,rfl,by decide⟩
 obtain ⟨g,rfl,g1⟩:=hv'
 erw [lst_6]; ac_nf; refine Run.bind (zc3 hp2 (by omega) (by simp) (by simp)) ?_; rintro v m3 ⟨hv,hp3⟩
 have hv':∃ l:Nat,v = .int l/\l<=20:=by
  simp only [List.mem_cons,List.not_mem_nil,or_false] at hv
  rcases hv with rfl | rfl | rfl | rfl | rfl | rfl
  ·exact ⟨0,rfl,by decide⟩
  ·exact ⟨0,rfl,by decide⟩
  ·exact ⟨1,rfl,by decide⟩
  ·exact ⟨2,rfl,by decide⟩
  ·exact ⟨5,rfl,by decide⟩
  ·exact ⟨20,rfl,by decide⟩
 obtain ⟨l,rfl,l1⟩:=hv'
 erw [zqy]; ac_nf; refine Run.bind (zc3 hp3 (by omega) (by simp) (by simp)) ?_; rintro v m4 ⟨hv,hp4⟩
 have hv':∃ a:Nat,v = .int a/\a<=400:=by
  simp only [List.mem_cons,List.not_mem_nil,or_false] at hv
  rcases hv with rfl | rfl | rfl | rfl | rfl | rfl | rfl
  ·exact ⟨0,rfl,by decide⟩
  ·exact ⟨0,rfl,by decide⟩
  ·exact ⟨0,rfl,by decide⟩
  ·exact ⟨7,rfl,by decide⟩
  ·exact ⟨30,rfl,by decide⟩
  ·exact ⟨1,rfl,by decide⟩
  ·exact ⟨400,rfl,by decide⟩
 obtain ⟨a,rfl,a1⟩:=hv'
 erw [zmY (by simp)]; ac_nf; exact Run.ok ⟨⟨s,s+g,l,a⟩,by simp [Rd4.e],⟨s1,by show s<=s+g; omega,by show s+g<=400; omega,l1,a1⟩,(hp1.via (hp2.via (hp3.via hp4))).more (by omega)⟩
theorem znO (hp:P3 m0 p q c m) (hc:c+1000 < 2 ^ 40) (hm0:0 < most) (hm1:most<=12) :
  Run (zdY [.ob p,.int most] m) fun x m'=>∃ pt:Pt,x=pt.e/\PtOk pt/\9<=pt.wide/\P3 m p q (c+1000) m':=by
 unfold zdY zjn; ac_nf; refine Run.bind (zlX hp (by omega) hm0 hm1) ?_; rintro _ m1 ⟨fs,n,rfl,n0,n1,f0,f1,hs,hp1⟩; ac_nf
 have hk:Run (zbR 1 (ziB zj7 (zac (eFn zbg (zac (zaf 0) (zac (eFn zcW (zac (eC (.int 0)) (zac (eC (.int 1)) (zac (eC (.int 2)) (zac (eC (.int 3)) (zac (eC (.int 5)) (zac (eC (.int 12)) zaj))))))) zaj))) zaj)) (gN 4) zbV (eFn zda (zac (zaf 0) (zac (zaf 2) zaj))) [some (.ob p),some (.int most),some (shD fs n),none] m1) fun xs m'=>∃ fms:List Fm,xs=fms.map Fm.e/\(∀ f∈fms,FmOk fs f)/\fms.length<=12/\P3 m p q (c+950) m':=by
  unfold zbR; erw [lst_6]; ac_nf; refine Run.bind (zc3 hp1 (by omega) (by simp) (by simp)) ?_; rintro v m2 ⟨hv,hp2⟩
  have hv':∃ k:Nat,v = .int k/\k<=12:=by
   simp only [List.mem_cons,List.not_mem_nil,or_false] at hv
   rcases hv with rfl | rfl | rfl | rfl | rfl | rfl
   ·exact ⟨0,rfl,by decide⟩
   ·exact ⟨1,rfl,by decide⟩
   ·exact ⟨2,rfl,by decide⟩
   ·exact ⟨3,rfl,by decide⟩
   ·exact ⟨5,rfl,by decide⟩
   ·exact ⟨12,rfl,by decide⟩
  obtain ⟨k,rfl,k1⟩:=hv'
  erw [zgi (by omega) (by omega)]; erw [if_pos (by rw [za7]; omega)]
  refine Run.mono (ziy (g:=gN 4) (ρ := [some (.ob p),some (.int most),some (shD fs n),none]++List.replicate 1 none) (fun k m'=>P3 m p q (c+201+62 * k) m') (fun i d x=>∃ f:Fm,x=f.e/\FmOk fs f) (zcU 0 (k:Int).toNat) 0 (hp1.via hp2) ?_) ?_
  ·intro i d m' hd hI
   have hi:=(List.getElem?_eq_some_iff.mp hd).1
   rw [za7] at hi
   rw [Nat.zero_add] at hI
   show Run (Res.bind (gN 4 d [some (.ob p),some (.int most),some (shD fs n),none,none] m') _) _
   ac_nf
   refine Run.mono (zoX hI (by omega) hs.ok f1) ?_
   rintro a m3 ⟨f,rfl,hf,hp3⟩
   exact ⟨⟨f,rfl,hf⟩,(hI.via hp3).more (by omega)⟩
  ·rintro xs m' ⟨hlen,hP,hI⟩
   rw [za7] at hlen hI
   obtain ⟨l,rfl,hl⟩:=lift Fm.e (fun i f=>FmOk fs f) xs 0 fun i x hx=>by
    have hi:i < k:=by have:=(List.getElem?_eq_some_iff.mp hx).1; omega
    exact hP i (.int (i:Nat)) x (by simp [zcU,hi]) hx
   refine ⟨l,rfl,fun f hf=>?_,by rw [List.length_map] at hlen; omega,hI.more (by omega)⟩
   obtain ⟨i,hi⟩:=List.mem_iff_getElem?.mp hf
   exact hl i f hi
 refine Run.bind hk ?_; rintro _ m2 ⟨fms,rfl,hfm,hfl,hp2⟩; ac_nf; refine Run.bind (zc3 hp2 (by omega) (by simp) (by simp)) ?_; rintro v m3 ⟨hv,hp3⟩
 have hv':∃ w:Nat,v = .int w/\9<=w/\w<=40:=by
  simp only [List.mem_cons,List.not_mem_nil,or_false] at hv
  rcases hv with rfl | rfl | rfl | rfl
  ·exact ⟨9,rfl,by decide,by decide⟩
  ·exact ⟨12,rfl,by decide,by decide⟩
  ·exact ⟨16,rfl,by decide,by decide⟩
  ·exact ⟨40,rfl,by decide,by decide⟩
 obtain ⟨w,rfl,w0,w1⟩:=hv'
 ac_nf; refine Run.bind (zpZ hp3 (by omega)) ?_; rintro _ m4 ⟨r,rfl,hr,hp4⟩; erw [zmY (by simp)]; ac_nf; exact Run.ok ⟨⟨fs,n,w,fms,r⟩,rfl,⟨n0,n1,f0,f1,hs,by show 0 < w; omega,w1,hfm,hfl,hr⟩,w0,(hp2.via (hp3.via hp4)).more (by omega)⟩
theorem zgo:zia (.int 10) (.int 60) m = .ok (.int (10 ^ 60)) m:=by
 rw [zeo]
 have e:zp9 (.int 10) (.int 60) m=if (0:Int)<=60/\(60:Int)<=1000000/\(10:Int).natAbs < 2 ^ 64 then .ok (.int ((10:Int) ^ (60:Int).toNat)) m else .bad:=rfl
 rw [e,if_pos (by decide)]
 rfl
theorem zsg:zia (.int 10) (.int 30) m = .ok (.int 1000000000000000000000000000000) m:=by
 rw [zeo]
 have e:zp9 (.int 10) (.int 30) m=if (0:Int)<=30/\(30:Int)<=1000000/\(10:Int).natAbs < 2 ^ 64 then .ok (.int ((10:Int) ^ (30:Int).toNat)) m else .bad:=rfl
 rw [e,if_pos (by decide)]
 rfl
theorem zlg {b:Int} (h:a.natAbs.log2 < 1100/\b.natAbs.log2 < 1100):zsK (.int a) (.int b) m = .ok (.int (a * b)) m:=by rw [zoj]; exact if_pos h
theorem zs4:(0:Int) < 10 ^ 60 * 10 ^ 60 * 10 ^ 60 * 10 ^ 60 * 10 ^ 60:=by decide +kernel
theorem abs_i (c:Int):absF [.int c] m = .ok (.int c.natAbs) m:=by
 have e:(if c < 0 then -c else c)=(c.natAbs:Int):=by split <;> omega
 rw [<- e]
 rfl
variable {ns:List Int}
theorem sl_scr:slD (.scr (ns.map D.int)) none (some 63) m = .ok (.lst ((ns.take 63).map D.int)) m:=by
 show Res.ok (D.lst (zix (ns.map D.int) none (some ((63:Nat):Int)))) m=_
 rw [zrm,List.map_take]
theorem ztd (hn:ns.length<=63):Run (zfl [.scr (ns.map D.int)] m) fun a m'=>∃ p q,a = .ob p/\P3 m' p q 0 m':=by
 unfold zfl zlr; erw [zof]; erw [zgo]; erw [zgo]; erw [zlg (by decide +kernel)]; erw [zgo]; erw [zlg (by decide +kernel)]; erw [zgo]; erw [zlg (by decide +kernel)]; erw [zgo]; erw [zlg (by decide +kernel)]; ac_nf
 have hN:=zs4
 generalize (10:Int) ^ 60 * 10 ^ 60 * 10 ^ 60 * 10 ^ 60 * 10 ^ 60=N at hN; rw [sl_scr]; ac_nf
 have hr:(m++[MO.lst []])[m.length]?=some (.lst []):=by simp
 generalize m.length=r at hr ⊢; generalize m++[MO.lst []]=mA at hr ⊢; refine Run.bind (zbw (fun k ρ m'=>∃ (seed:Int) (own:List Int) (x4:Option D),ρ = [some (.scr (ns.map D.int)),some (.int seed),some (.ob r),some (.int N),x4]/\m'[r]?=some (.lst (own.map D.int))/\own.length<=k/\(∀ a∈own,0<=a)/\0<=seed/\seed < 2305843009213693951) ((ns.take 63).map D.int) 0 ⟨41,[],none,rfl,hr,Nat.le_refl _,fun _ h=>(nomatch h),by decide,by decide⟩ ?_) ?_
 ·rintro i d ρ m1 hd ⟨seed,own,x4,rfl,g1,g2,g3,g4,g5⟩
  have hi:=(List.getElem?_eq_some_iff.mp hd).1
  rw [List.length_map,List.length_take] at hi
  obtain ⟨v,hv,rfl⟩:=List.mem_map.mp (List.mem_of_getElem? hd)
  erw [zkp ⟨by decide,by decide⟩]; erw [zsg]; erw [zcq (by decide)]; erw [zcq (by decide)]; erw [abs_i]; erw [zsj]; ac_nf; generalize hS:(seed * 1000003+v % 1000000000000000000000000000000+7) % 2305843009213693951=S
  have S0:0<=S:=by rw [<- hS]; exact Int.emod_nonneg _ (by decide)
  have S1:S < 2305843009213693951:=by rw [<- hS]; exact Int.emod_lt_of_pos _ (by decide)
  by_cases hb:(1000000000000000000:Int)<=(v.natAbs:Int)
  ·rw [if_pos hb]; erw [if_pos (zjf g1)]; erw [abs_i]; erw [zcq hN]; erw [zjS g1 (by rw [List.length_map]; exact zcE (by omega))]; ac_nf
   refine Run.ok ⟨_,rfl,S,own++[(v.natAbs:Int) % N],_,rfl,by rw [zcS g1,List.map_append]; rfl,by rw [List.length_append]; show own.length+1<=_; omega,fun a ha=>?_,S0,S1⟩
   rcases List.mem_append.mp ha with ha | ha
   ·exact g3 a ha
   ·rw [List.mem_singleton.mp ha]
    exact Int.emod_nonneg _ (by omega)
  ·rw [if_neg hb]; ac_nf; exact Run.ok ⟨_,rfl,S,own,_,rfl,g1,by omega,g3,S0,S1⟩
 ·rintro _ m1 ⟨ρ,rfl,seed,own,x4,rfl,g1,g2,g3,g4,g5⟩
  rw [Nat.zero_add,List.length_map,List.length_take] at g2
  erw [show zhe [("own", zaf 2),("seed", zaf 1),("turn", eC (.int 0))] [some (.scr (ns.map D.int)),some (.int seed),some (.ob r),some (.int N),x4] m1 = .ok (.ob m1.length) (m1++[.dct (zkI r seed 0)]) from rfl]; ac_nf
  have hrl:=(List.getElem?_eq_some_iff.mp g1).1
  exact Run.ok ⟨m1.length,r,rfl,⟨⟨own,seed,0,by simp,by rw [List.getElem?_append_left hrl]; exact g1,by omega,by omega,g3,g4,by omega,by decide,by decide⟩,Fr.refl⟩⟩
theorem add_ll {a b:List D} (h:a.length+b.length<=1000):zbj (.lst a) (.lst b) m = .ok (.lst (a++b)) m:=if_pos (Nat.le_trans h (by decide))
open PySem L2
theorem zjE {k:Nat} {o:MO} {g:GV} {el:EV} {ρ : En} {m:Sto} (f:D->D) (hk:m[k]?=some o):∀ (ds:List D),(∀ d∈ds,∃ ρ1,g d ρ m = .ok ρ1 m/\el ρ1 m = .ok (f d) m)->zfQ k o g zbV el ρ ds m = .ok (ds.map f) m
 | [],_=>by rw [zfQ,zrb hk]; rfl
 | d::r,h=>by
  obtain ⟨ρ1,e1,e2⟩:=h d (by simp)
  rw [zfQ,zrb hk,e1,bind_ok]
  show (Res.ok true m).bind _=_
  rw [bind_ok,if_pos rfl,e2,bind_ok,zjE f hk r fun d hd=>h d (List.mem_cons_of_mem _ hd),bind_ok]
  rfl
variable {fa:EV}
theorem zmK {k:Nat} {g:GV} (f:D->D) (h:fa ρ m = .ok (.ob k) m) (hk:m[k]?=some (.lst ds)) (hl:ds.length<=1000000) (hf:∀ d∈ds,∃ ρ1,g d (ρ ++ List.replicate n none) m = .ok ρ1 m/\el ρ1 m = .ok (f d) m):zgX n (zth fa) g zbV el ρ m = .ok (ds.map f) m:=by
 unfold zgX zth; rw [h,bind_ok]
 have e:zpt (.ob k) m = .ok (k,.lst ds,ds) m:=by simp only [zpt,hk]
 rw [e,bind_ok,if_pos hl]
 exact zjE f hk ds hf
theorem zpv (l:List τ):allF [.lst (l.map fun _=>D.bl true)] m = .ok (.bl true) m:=by
 rw [show (l.map fun _=>D.bl true)=(l.map fun _=>true).map D.bl by simp,zpw]
 simp
variable {g:List D->Sto->Res D}
section
variable {c f mth:Str} {fv:EV} {fr:AV}
def kFs3 (ρ : En):Unit->Sto->Res Fl:=fun _ m3 => .ok (.nx ρ) m3
def kFs2 (c f:Str) (ρ : En) (y:D):D->Sto->Res Fl:=fun x m2=>(setM c f x y m2).bind (kFs3 ρ)
def kFs1 (c f:Str) (fo:EV) (ρ : En):D->Sto->Res Fl:=fun y m1=>(fo ρ m1).bind (kFs2 c f ρ y)
theorem fld_at:zcX c f fa ρ m=(fa ρ m).bind (zpA c f):=rfl
theorem sfld_at:zeM c f fa fv ρ m=(fv ρ m).bind (kFs1 c f fa ρ):=rfl
theorem kfs1_at:kFs1 c f fa ρ d m=(fa ρ m).bind (kFs2 c f ρ d):=rfl
theorem kfs2_at (x:D):kFs2 c f ρ d x m=(setM c f x d m).bind (kFs3 ρ):=rfl
theorem kfs3_at:kFs3 ρ () m = .ok (.nx ρ) m:=rfl
def kMt2 (g:List D->Sto->Res D) (x:D):List D->Sto->Res D:=fun ds m2=>g (x::ds) m2
def kMt1 (c mth:Str) (g:List D->Sto->Res D) (fr:AV) (ρ : En):D->Sto->Res D:=fun x m1=>if zdx c mth x m1=true then (fr ρ m1).bind (kMt2 g x) else .bad
theorem mth_at:zbQ c mth g fa fr ρ m=(fa ρ m).bind (kMt1 c mth g fr ρ):=rfl
theorem kmt1_at:kMt1 c mth g fr ρ d m=if zdx c mth d m=true then (fr ρ m).bind (kMt2 g d) else .bad:=rfl
theorem kmt2_at (ds:List D):kMt2 g d ds m=g (d::ds) m:=rfl
def kPar3 (i j k:Nat) (ρ : En):List D->Sto->Res Fl:=fun ds m1=>match ds with
 | [x,y,z] => .ok (.nx (((ρ.set i (some x)).set j (some y)).set k (some z))) m1
 | _ => .bad
theorem par3_at (i j k:Nat):sPar3 i j k fr ρ m=(fr ρ m).bind (kPar3 i j k ρ):=rfl
theorem kpar3_at (i j k:Nat) (x y z:D):kPar3 i j k ρ [x,y,z] m = .ok (.nx (((ρ.set i (some x)).set j (some y)).set k (some z))) m:=rfl
def kForO (h:GV) (b:SV) (ρ : En):Nat × MO × List D->Sto->Res Fl:=fun t m1=>zot t.1 t.2.1 h b t.2.2 ρ m1
theorem forO_at {it:OI} {h:GV} {b:SV}:sForO it h b ρ m=(it ρ m).bind (kForO h b ρ):=rfl
theorem kforO_at {h:GV} {b:SV} (k:Nat) (o:MO) (ds:List D):kForO h b ρ (k,o,ds) m=zot k o h b ds ρ m:=rfl
theorem objI_at:zth fa ρ m=(fa ρ m).bind zpt:=rfl
theorem isnt_in (i:Int):zkw (.int i) .non m = .ok (.bl true) m:=rfl
theorem is_in (i:Int):isD (.int i) .non m = .ok (.bl false) m:=rfl
theorem zjt {k:Nat} {fs:List (Str × D)} {v:D} (h:m[k]?=some (.ins c fs)) (e:fs.lookup f=some v):zpA c f (.ob k) m = .ok v m:=by
 simp only [zpA,h,if_true,e,opt]
theorem zdB {k:Nat} {fs:List (Str × D)} {y:D} (h:m[k]?=some (.ins c fs)) (e:fs.length < 1000):setM c f (.ob k) y m = .ok () (m.set k (.ins c (zgn f y fs))):=by
 simp only [setM,h]
 exact if_pos ⟨trivial,e⟩
theorem mth_ok {k:Nat} {fs:List (Str × D)} (h:m[k]?=some (.ins c fs)) (e:fs.lookup mth=none):zdx c mth (.ob k) m=true:=by
 simp only [zdx,h,e,decide_true,Option.isNone_none,Bool.and_self]
end
local macro_rules | `(tactic| walk_at "w") => do
  let ids := ("run_at fin_nx fin_rt seq_at seq_nx seq_rt nil_at ret_at rt_at retN_at drop_at kdrop_at if_at kif_at asg_at kasg_at nx_at gs_nil gs_cons gT_at par_at kpar_at List.set_cons_zero List.set_cons_succ for_at kfor_at eC_at op_at kop_at un_at fn_at ife_at kife_at aNil_at aCons_at kcons_at kcons2_at asB_at tV_at andT_at kandT_at orT_at korT_at notT_at knotT_at and_at kand_at or_at kor_at not_at knot_at aIt_at sq_t sq_l sq_s sq_c rngA_at enumA_at kenum_t kenum_l zipA_at kzip_at zip3A_at kzip3_at kzip4_at oNone_at oSome_at ksome_at slD_at ksl1_at ksl2_at slA_at kslA1_at kslA2_at meth_at kmeth_at isStr_at isTup_at chain_at kch1_at kch2_at kch3_at put_at kputA_at kputB_at kputC_at kputE_at bind_ok bind_then then_at var_0 var_S gN_at Bool.false_eq_true reduceIte List.map_cons List.map_nil List.length_cons List.length_nil Nat.reduceAdd Nat.reduceSub List.cons_append List.nil_append add_i sub_i eq_i ne_i eq_s ne_s lt_i le_i gt_i ge_i lst_0 lst_2 lst_3 lst_4 lst_5 tup_0 tup_1 tup_2 tup_3 min_i len_t len_l tup_l l1 ix_t0 ix_t1 ix_t2 List.replicate List.append_nil decide_eq_true_eq Bool.not_true Bool.not_false eq_self not_true_eq_false not_false_eq_true decide_true decide_false ofs_eq String.reduceEq fld_at sfld_at kfs1_at kfs2_at kfs3_at mth_at kmt1_at kmt2_at par3_at kpar3_at forO_at kforO_at objI_at isnt_in is_in is_nn isnt_nn max_i".splitOn " ").toArray.map fun s => Lean.mkIdent s.toName
  `(tactic| try simp only [$[$ids:ident],*])
def onD:Option Nat->D
 | none => .non
 | some n => .int n
def prF (pt:D) (l:Nat) (had base:Option Nat) (fresh:Nat):List (Str × D):=[("pact", pt),("pressed", .ob l),("had", onD had),("base", onD base),("fresh", .int fresh)]
structure PrAt (m:Sto) (k l:Nat) (pt:Pt) (hs:List (List Int)) (had base:Option Nat) (fresh:Nat):Prop where
 self:m[k]?=some (.ins "Presser" (prF pt.e l had base fresh))
 lst:m[l]?=some (.lst (hs.map zbX))
 kl:k≠l
variable {l:Nat} {base:Option Nat} {hs:List (List Int)} {had:Option Nat}
theorem PrAt.app {r:Sto} {k:Nat} {pt:Pt} {fresh:Nat} (h:PrAt m k l pt hs had base fresh):PrAt (m++r) k l pt hs had base fresh:=⟨zoR h.self,zoR h.lst,h.kl⟩
theorem PrAt.fr {k:Nat} {pt:Pt} {fresh:Nat} (h:PrAt m k l pt hs had base fresh) (f:Fr p q m m') (a:k≠p) (b:k≠q) (c:l≠p) (d:l≠q):PrAt m' k l pt hs had base fresh :=
 ⟨by rw [f.at' k (List.getElem?_eq_some_iff.mp h.self).1 a b]; exact h.self,by rw [f.at' l (List.getElem?_eq_some_iff.mp h.lst).1 c d]; exact h.lst,h.kl⟩
theorem PrAt.lt {k:Nat} {pt:Pt} {fresh:Nat} (h:PrAt m k l pt hs had base fresh):k < m.length/\l < m.length:=⟨(List.getElem?_eq_some_iff.mp h.self).1,(List.getElem?_eq_some_iff.mp h.lst).1⟩
variable {m1:Sto} {reach:Nat}
section
variable {k:Nat} {pt:Pt} {fresh:Nat}
theorem PrAt.pact (h:PrAt m k l pt hs had base fresh):zpA "Presser" "pact" (.ob k) m = .ok pt.e m:=zjt h.self rfl
theorem PrAt.pressed (h:PrAt m k l pt hs had base fresh):zpA "Presser" "pressed" (.ob k) m = .ok (.ob l) m:=zjt h.self rfl
theorem PrAt.hadF (h:PrAt m k l pt hs had base fresh):zpA "Presser" "had" (.ob k) m = .ok (onD had) m:=zjt h.self rfl
theorem PrAt.baseF (h:PrAt m k l pt hs had base fresh):zpA "Presser" "base" (.ob k) m = .ok (onD base) m:=zjt h.self rfl
theorem PrAt.freshF (h:PrAt m k l pt hs had base fresh):zpA "Presser" "fresh" (.ob k) m = .ok (.int fresh) m:=zjt h.self rfl
theorem zeY (pt:Pt):ixD pt.e (.int 0) m = .ok (shD pt.fs pt.n) m:=ix_t0 _ _
theorem zjc (pt:Pt):ixD pt.e (.int 1) m = .ok (.int pt.wide) m:=ix_t1 _ _ _
theorem zfx (pt:Pt):ixD pt.e (.int 2) m = .ok (.tup (pt.fms.map Fm.e)) m:=ix_t2 _ _ _ _
theorem zoH (pt:Pt):ixD pt.e (.int 3) m = .ok pt.rd.e m:=zpz (n:=3) rfl
theorem ix_rd0 (r:Rd4):ixD r.e (.int 0) m = .ok (.int r.skips) m:=ix_t0 _ _
theorem ix_rd3 (r:Rd4):ixD r.e (.int 3) m = .ok (.int r.anew) m:=zpz (n:=3) rfl
theorem zov (h:m[r]?=some (.lst xs)):zfO [.ob r] m = .ok (.int xs.length) m:=by simp only [zfO,h]
theorem zcF (h:PrAt m k l pt hs had base fresh):zak [.ob k] m = .ok (.int hs.length) m:=by
 apply zar
 unfold zak zeZ; erw [h.pressed]; erw [zov h.lst,List.length_map]; exact Run.ok ⟨rfl,rfl⟩
theorem PrAt.meth (h:PrAt m k l pt hs had base fresh) (e:(prF pt.e l had base fresh).lookup x=none):zdx "Presser" x (.ob k) m=true:=mth_ok h.self e
def anB (pt:Pt) (n:Nat):Bool:=decide (pt.rd.anew≠0/\n % pt.rd.anew=0)
theorem anew_w (h:PrAt m k l pt hs had base fresh):zaW [.ob k] m = .ok (.bl (anB pt hs.length)) m:=by
 apply zar
 unfold zaW zct; erw [h.pact]; erw [zoH]; erw [ix_rd3]; ac_nf
 by_cases h0:pt.rd.anew=0
 ·rw [decide_eq_true (show ((pt.rd.anew:Nat):Int)=0 by omega)]; ac_nf; exact Run.ok ⟨by simp [anB,h0],rfl⟩
 ·rw [decide_eq_false (show ¬ ((pt.rd.anew:Nat):Int)=0 by omega)]; erw [if_pos (h.meth rfl)]; erw [zcF h]; erw [zcq (by omega)]; ac_nf
  refine Run.ok ⟨?_,rfl⟩
  unfold anB
  congr 1
  apply decide_eq_decide.mpr
  have:((hs.length:Int) % pt.rd.anew)=((hs.length % pt.rd.anew:Nat):Int):=by push_cast; rfl
  rw [this]
  constructor
  ·intro e; exact ⟨h0,by exact_mod_cast e⟩
  ·rintro ⟨_,e⟩; exact_mod_cast e
def shB (pt:Pt) (n:Nat) (base:Option Nat) (fresh reach:Nat):Bool:=(match base with | some b=>decide ((n:Int) - reach<=b) | none=>false) || (decide ((fresh:Int)<=n - 1 - pt.rd.skips) && decide ((n:Int) - reach<=n - 1 - pt.rd.skips))
theorem zpu (bs:List Bool):anyF [.lst (bs.map D.bl)] m = .ok (.bl (bs.any id)) m:=by
 simp only [anyF,lOf,Option.bind_some]; rw [zgV (fun b=>b)]
 simp
theorem zpe {before:Int} {xs:List Int} (h:PrAt m1 k l pt hs had base fresh) (hr:m1[r]?=some (.lst (xs.map D.int))) (hx:xs.length<=10) :
  zgX 1 (zth (zaf 2)) (gN 4) zbV (eOp geD (zaf 4) (eOp zeC (zbQ "Presser" "sent" zak (zaf 0) zaj) (zaf 1))) [some (.ob k),some (.int reach),some (.ob r),some (.int before)] m1 = .ok ((xs.map fun x=>decide ((hs.length:Int) - reach<=x)).map D.bl) m1:=by
 rw [zmK (k:=r) (ds:=xs.map D.int) (fun d=>match d with | .int x => .bl (decide ((hs.length:Int) - reach<=x)) | _ => .non) (by ac_nf) hr (by rw [List.length_map]; omega) (by
  intro d hd
  obtain ⟨x,hx,rfl⟩:=List.mem_map.mp hd
  refine ⟨_,rfl,?_⟩
  show (eOp geD (zaf 4) (eOp zeC (zbQ "Presser" "sent" zak (zaf 0) zaj) (zaf 1))) [some (.ob k),some (.int reach),some (.ob r),some (.int before),some (.int x)] m1=_
  erw [if_pos (h.meth rfl)]; erw [zcF h]
  ac_nf)]
 congr 1
 simp
theorem zlW (h:PrAt m k l pt hs had base fresh):Run (zbc [.ob k,.int reach] m) fun a m'=>a = .bl (shB pt hs.length base fresh reach)/\∃ r,m'=m++r:=by
 unfold zbc zc6
 have key:∀ (m1:Sto) (r:Nat) (xs:List Int) (rr:Sto),m1=m++rr->PrAt m1 k l pt hs had base fresh->m1[r]?=some (.lst (xs.map D.int))->m.length<=r->xs.length<=5 →
   Run ((zaw (zaK (eOp zeC (eOp zeC (zbQ "Presser" "sent" zak (zaf 0) zaj) (eC (.int 1))) (eOp ixD (eOp ixD (zcX "Presser" "pact" (zaf 0)) (eC (.int 3))) (eC (.int 0)))) (gN 3))
 (zaw (sIf (tV (eOp geD (zaf 3) (zcX "Presser" "fresh" (zaf 0))))
 (zbi (zdr zdH zcA (zaf 2) (zac (zaf 3) zaj)))
 zbL)
 (zaL (eFn anyF (zac (eFn gL1 (zgX 1 (zth (zaf 2)) (gN 4) zbV (eOp geD (zaf 4) (eOp zeC (zbQ "Presser" "sent" zak (zaf 0) zaj) (zaf 1))))) zaj)))) [some (.ob k),some (.int reach),some (.ob r),none] m1).bind zgZ) fun a m'=>a = .bl ((xs.any fun x=>decide ((hs.length:Int) - reach<=x)) || (decide ((fresh:Int)<=hs.length - 1 - pt.rd.skips) && decide ((hs.length:Int) - reach<=hs.length - 1 - pt.rd.skips)))/\∃ r,m'=m++r:=by
  intro m1 r xs rr e1 h1 hr hr0 hx
  erw [if_pos (h1.meth rfl)]; erw [zcF h1]; erw [h1.pact]; erw [zoH]; erw [ix_rd0]; erw [h1.freshF]; ac_nf
  by_cases hb:(fresh:Int)<=hs.length - 1 - pt.rd.skips
  ·rw [if_pos hb]; erw [if_pos (zjf hr)]; erw [zjS hr (by rw [List.length_map]; exact zcE (by omega))]; ac_nf
   have hl:=h.lt
   have h2:PrAt (m1.set r (.lst (xs.map D.int++[.int (hs.length - 1 - pt.rd.skips)]))) k l pt hs had base fresh:=⟨by rw [zaU (by omega)]; exact h1.self,by rw [zaU (by omega)]; exact h1.lst,h.kl⟩
   have hr2:(m1.set r (.lst (xs.map D.int++[.int (hs.length - 1 - pt.rd.skips)])))[r]?=some (.lst ((xs++[(hs.length:Int) - 1 - pt.rd.skips]).map D.int)):=by rw [zcS hr]; simp
   rw [zpe h2 hr2 (by simp; omega)]; erw [zpu]; ac_nf
   refine Run.ok ⟨?_,rr.set (r - m.length) (.lst (xs.map D.int++[.int (hs.length - 1 - pt.rd.skips)])),?_⟩
   ·simp [List.any_append,hb,List.any_map,Function.comp_def]
   ·rw [e1,List.set_append_right _ _ hr0]
  ·rw [if_neg hb]; erw [zpe h1 hr (by omega)]; erw [zpu]; ac_nf; exact Run.ok ⟨by simp [hb,List.any_map,Function.comp_def],rr,e1⟩
 erw [h.baseF]
 cases base with
 | none =>
  simp only [onD]; erw [zof]; simp only [kasg_at,gN_at,List.set_cons_succ,List.set_cons_zero,bind_ok,bind_then,then_at,nx_at,seq_nx]
  have:=key (m++[.lst []]) m.length [] [.lst []] rfl h.app (by simp) (Nat.le_refl _) (by simp)
  simpa [shB] using this
 | some b =>
  simp only [onD]; erw [h.baseF]; simp only [onD]; erw [new_of (by simp)]; simp only [kasg_at,gN_at,List.set_cons_succ,List.set_cons_zero,bind_ok,bind_then,then_at,nx_at,seq_nx]
  have:=key (m++[.lst [.int b]]) m.length [(b:Int)] [.lst [.int b]] rfl h.app (by simp) (Nat.le_refl _) (by simp)
  simpa [shB] using this
end
def mxI (a b:Int):Int:=if b>a then b else a
def leV (pt:Pt) (n:Nat) (had:Option Nat):Int:=match had with
 | none=>mxI 0 ((n:Int) - 1 - pt.rd.gap)
 | some h=>mxI (mxI 0 ((n:Int) - 1 - pt.rd.gap)) ((h:Int) - pt.rd.late)
def ctB (pt:Pt) (n:Nat) (had:Option Nat) (count:Nat):Bool:=decide ((n:Int)+pt.rd.late - leV pt n had < 2 ^ count)
theorem sl_13 (a b c d:D):slD (.tup [a,b,c,d]) (some 1) (some 3) m = .ok (.tup [b,c]) m:=rfl
section
variable {k:Nat} {pt:Pt} {fresh:Nat}
theorem zpd (h:PrAt m k l pt hs had base fresh) {count:Nat} (hc:count<=1000):za3 [.ob k,.int count] m = .ok (.bl (ctB pt hs.length had count)) m:=by
 apply zar
 unfold za3 zcN; erw [h.pact]; erw [zoH]; ac_nf; simp only [Rd4.e]; rw [sl_13]; erw [if_pos (h.meth rfl)]; erw [zcF h]; erw [h.hadF]
 cases had with
 | none =>
  simp only [onD]; erw [zdf (by omega)]; erw [if_pos (h.meth rfl)]; erw [zcF h]; ac_nf; exact Run.ok ⟨rfl,rfl⟩
 | some a =>
  simp only [onD]; erw [h.hadF]; simp only [onD]; erw [zdf (by omega)]; erw [if_pos (h.meth rfl)]; erw [zcF h]; ac_nf; exact Run.ok ⟨rfl,rfl⟩
def fmL (hs:List (List Int)) (reach:Nat):List (Int × List Int):=(List.range (min reach hs.length)).map fun i=>(((i:Nat):Int)+1,hs.getD (hs.length - 1 - i) [])
theorem zp0 {i j:Int} (h:i<=j) (h1 : -1000000<=i) (h2:j<=1000000):rng2 [.int i,.int j] m = .ok (zcU i (j - i).toNat) m:=by
 rw [znl]
 exact if_pos ⟨by omega,by omega,by omega,by omega⟩
theorem zjs (h:PrAt m k l pt hs had base fresh) (hr:reach<=1000) (hl:hs.length<=100000):zaJ [.ob k,.int reach] m = .ok (.tup ((fmL hs reach).map fmE)) m:=by
 apply zar
 unfold zaJ zdv; erw [h.pressed]; ac_nf
 unfold zcP ze4; erw [zov h.lst,List.length_map]; ac_nf
 have hm:(if (hs.length:Int) < reach then (hs.length:Int) else reach)=((min reach hs.length:Nat):Int):=by split <;> omega
 rw [zbt (ds:=zcU 1 (min reach hs.length)) (fun d=>match d with | .int i => .tup [.int i,zbX (hs.getD (hs.length - i.toNat) [])] | _ => .non)]
 ·ac_nf
  refine Run.ok ⟨?_,rfl⟩
  congr 1
  simp only [zcU,fmL,List.map_map]
  apply List.map_congr_left
  intro i hi
  have hi':i < min reach hs.length:=List.mem_range.mp hi
  simp only [Function.comp,fmE]; rw [show (1:Int)+(i:Nat)=(i:Int)+1 by omega,show ((i:Int)+1).toNat=i+1 by omega,show hs.length - (i+1)=hs.length - 1 - i by omega]
  rfl
 ·erw [hm,zp0 (by omega) (by omega) (by omega)]
  congr 2
  omega
 ·rw [za7]; omega
 ·intro d hd
  simp only [zcU,List.mem_map] at hd
  obtain ⟨i,hi,rfl⟩:=hd
  have hi':i < min reach hs.length:=List.mem_range.mp hi
  refine ⟨_,rfl,?_⟩
  show (eFn zbn (zac (zaf 3) (zac (eOp ixD (zaf 0) (eOp zeC (zaf 2) (zaf 3))) zaj))) [some (.ob l),some (.int reach),some (.int hs.length),some (.int (1+(i:Nat)))] m=_
  ac_nf
  have e:ixD (.ob l) (.int ((hs.length:Int) - (1+(i:Nat)))) m = .ok (zbX (hs.getD (hs.length - (1+i)) [])) m:=by
   rw [show (hs.length:Int) - (1+(i:Nat))=((hs.length - (1+i):Nat):Int) by omega]; simp only [ixD,h.lst]
   show opt (atI (hs.map zbX) _) m=_
   rw [zgS,List.getElem?_map,List.getElem?_eq_getElem (show hs.length - (1+i) < hs.length by omega)]
   simp [opt,List.getD,show hs.length - (1+i) < hs.length by omega]
  rw [e]; erw [show ((1:Int)+(i:Nat)).toNat=1+i by omega]
theorem head_g {fs:List Fd} {n:Int} (hs:zmL fs) (hn:fs.length<=12) (hh:HdOk fs hd):zaR [shD fs n,zbX hd] m = .ok (.bl true) m:=by
 apply zar
 unfold zaR zf8 zbX; erw [zar (zcR (by omega))]; erw [zeu]; erw [List.length_map,List.length_map,hh.len,decide_eq_true (by omega)]; ac_nf
 rw [zbt (ds:=zeD (hd.map D.int) (fs.map fun f=>D.int f.b)) (fun _ => .bl true) (by
  ac_nf; simp only [zmP]
  rw [if_pos (by simp [hh.len])]) (by rw [zcY (by simp [hh.len]),List.length_map,hh.len]; omega) (by
  intro d hd'
  obtain ⟨i,hi⟩:=List.mem_iff_getElem?.mp hd'
  obtain ⟨x,y,h1,h2,rfl⟩:=zjV hi
  rw [List.getElem?_map] at h1 h2
  obtain ⟨v,h3,rfl⟩:=Option.map_eq_some_iff.mp h1
  obtain ⟨f,h4,rfl⟩:=Option.map_eq_some_iff.mp h2
  obtain ⟨hb0,hb1,_⟩:=hs i f h4
  refine ⟨_,rfl,?_⟩
  show zb7 [.int v,.int f.b] m=_
  rw [zjg (by omega),decide_eq_true (hh.at' i f v h4 h3)])]
 erw [zpv]; exact Run.ok ⟨rfl,rfl⟩
theorem ztg (h:PrAt m k l pt hs had base fresh) (hp:PtOk pt) (hh:HdOk pt.fs hd):za6 [.ob k,zbX hd] m = .ok .non m:=by
 apply zar
 unfold za6 zcd; erw [h.pact]; erw [zeY]; erw [head_g hp.sh.ok hp.f1 hh]; ac_nf; exact Run.ok ⟨rfl,rfl⟩
def HiV (pt:Pt) (hs:List (List Int)) (had base:Option Nat) (fresh:Nat) (hd:List Int) (f:Fm) (a:D):Prop :=
 if anB pt hs.length=true then a = .str "anew" else if shB pt hs.length base fresh f.a=false then a = .str "shared" else if ctB pt hs.length had f.b=false then a = .str "count" else ∃ o,a=zmD o/\DB pt.fs f.wys hd (fmL hs f.a) o
theorem fmL_ok {fs:List Fd} (h:∀ x∈hs,HdOk fs x):∀ p∈fmL hs reach,HdOk fs p.2:=by
 intro p hp
 simp only [fmL,List.mem_map,List.mem_range] at hp
 obtain ⟨i,hi,rfl⟩:=hp
 have h2:hs.length - 1 - i < hs.length:=by omega
 simp only [List.getD,List.getElem?_eq_getElem h2,Option.getD_some]
 exact h _ (List.getElem_mem h2)
theorem zli (h:PrAt m k l pt hs had base fresh) (hp:PtOk pt) (hh:HdOk pt.fs hd) (hhs:∀ x∈hs,HdOk pt.fs x) (hl:hs.length<=100000) {f:Fm} (hf:pt.fms[i]?=some f) :
  Run (zaz [.ob k,zbX hd,.int i] m) fun a m'=>HiV pt hs had base fresh hd f a/\∃ r,m'=m++r:=by
 have hfm:=hp.fm f (List.mem_of_getElem? hf)
 unfold zaz zcO; erw [h.pact]; erw [zfx]; ac_nf
 have e1:∀ m,ixD (.tup (pt.fms.map Fm.e)) (.int i) m = .ok f.e m:=fun m=>zpz (by rw [List.getElem?_map,hf]; rfl)
 rw [e1]; erw [show slD f.e none (some 2) m = .ok (.tup [.int f.a,.int f.b]) m from rfl]; erw [if_pos (h.meth rfl)]; erw [anew_w h]
 by_cases c1:anB pt hs.length=true
 ·rw [c1]; ac_nf; exact Run.ok ⟨by unfold HiV; rw [if_pos c1],[],by simp⟩
 rw [Bool.eq_false_iff.mpr c1]; erw [if_pos (h.meth rfl)]; ac_nf; refine Run.bind (zlW h) ?_; rintro _ m1 ⟨rfl,r,rfl⟩
 have h1:PrAt (m++r) k l pt hs had base fresh:=h.app
 by_cases c2:shB pt hs.length base fresh f.a=false
 ·rw [c2]; ac_nf; exact Run.ok ⟨by unfold HiV; rw [if_neg c1,if_pos c2],r,rfl⟩
 rw [show shB pt hs.length base fresh f.a=true by simpa using c2]; erw [if_pos (h1.meth rfl)]; erw [zpd h1 (by have:=hfm.b1; omega)]
 by_cases c3:ctB pt hs.length had f.b=false
 ·rw [c3]; ac_nf; exact Run.ok ⟨by unfold HiV; rw [if_neg c1,if_neg c2,if_pos c3],r,rfl⟩
 rw [show ctB pt hs.length had f.b=true by simpa using c3]; erw [h1.pact]; erw [zeY]; erw [h1.pact]; erw [zfx]; erw [e1]; erw [if_pos (h1.meth rfl)]; erw [zjs h1 (by have:=hfm.a1; omega) hl]; ac_nf; refine Run.bind (zo6 hp.sh.ok hp.f1 hfm.wy hh (fmL_ok hhs)) ?_; rintro _ m2 ⟨o,rfl,ho,rfl⟩
 ac_nf; exact Run.ok ⟨by unfold HiV; rw [if_neg c1,if_neg c2,if_neg c3]; exact ⟨o,rfl,ho⟩,r,rfl⟩
end
def wdN (n:Nat):Nat:=if n<=1 then 0 else (n - 1).log2+1
theorem wdN_lt {w:Nat}:2 ^ w < n ↔ w < wdN n:=by
 unfold wdN
 by_cases h:n<=1
 ·rw [if_pos h]
  have:=Nat.one_le_two_pow (n:=w)
  omega
 ·rw [if_neg h,Nat.lt_succ_iff,Nat.le_log2 (by omega)]
  omega
def wfT:TV:=by walk_at "#uk2("
def wfB:SV:=by walk_at "#5`2Ityu;t{u:"
theorem zmR {n:Nat} {m:Sto}:∀ (j w fuel:Nat),w+j=wdN n->j < fuel->zfg wfT wfB fuel [some (.int n),some (.int w),some (.int (2 ^ w))] m = .ok (.nx [some (.int n),some (.int (wdN n)),some (.int (2 ^ wdN n))]) m
 | 0,w,0,_,h=>absurd h (Nat.not_lt_zero _)
 | 0,w,fuel+1,e,_=>by
  have hw:w=wdN n:=by omega
  subst hw
  have hn : ¬ ((2:Int) ^ wdN n < n):=by
   have:=mt wdN_lt.mp (Nat.lt_irrefl (wdN n))
   exact_mod_cast this
  rw [zfg]
  have et:wfT [some (.int n),some (.int (wdN n)),some (.int (2 ^ wdN n))] m = .ok false m:=by
   unfold wfT; erw [decide_eq_false hn]
  rw [et,bind_ok,if_neg (by decide)]
 | j+1,w,0,_,h=>absurd h (Nat.not_lt_zero _)
 | j+1,w,fuel+1,e,h=>by
  have hn:(2:Int) ^ w < n:=by
   have:=wdN_lt.mpr (show w < wdN n by omega)
   exact_mod_cast this
  rw [zfg]
  have et:wfT [some (.int n),some (.int w),some (.int (2 ^ w))] m = .ok true m:=by
   unfold wfT; erw [decide_eq_true hn]
  have eb:wfB [some (.int n),some (.int w),some (.int (2 ^ w))] m = .ok (.nx [some (.int n),some (.int ((w+1:Nat):Int)),some (.int (2 ^ (w+1)))]) m:=by
   unfold wfB; erw [zkp ⟨by decide,by decide⟩]; erw [Int.pow_succ]
   rfl
  rw [et,bind_ok,if_pos rfl,eb,bind_ok]
  exact zmR j (w+1) fuel (by omega) (by omega)
theorem zhg (h:n<=2 ^ 50):zcr [.int n] m = .ok (.int (wdN n)) m:=by
 have hw:wdN n<=50:=Nat.le_of_not_lt fun z=>by
  have:=wdN_lt.mpr z
  omega
 apply zar
 unfold zcr zaY
 show Run (Res.bind (zaw (zaK (eC (.int 0)) (gN 1)) (zaw (zaK (eC (.int 1)) (gN 2)) (zaw (zgh zit wfT wfB) (zaL (zaf 1)))) [some (.int n),none,none] m) zgZ) _
 erw [zkQ]
 have:=zmR (n:=n) (m:=m) (wdN n) 0 zit (by omega) (Nat.lt_of_le_of_lt hw (by decide))
 rw [show ((0:Nat):Int)=0 from rfl,show ((2:Int) ^ 0)=1 from rfl] at this
 rw [this]; ac_nf; exact Run.ok ⟨rfl,rfl⟩
def fmW (pt:Pt):Fm:=⟨1,pt.wide,List.replicate pt.fs.length .whole⟩
def ziu (pt:Pt):Option Nat->Fm
 | none=>fmW pt
 | some i=>pt.fms.getD i ⟨1,1,[]⟩
def ztf (pt:Pt):Option Nat->Prop
 | none=>True
 | some i=>i < pt.fms.length
theorem fmW_ok {pt:Pt} (h:PtOk pt):FmOk pt.fs (fmW pt):=⟨by show 0 < 1; decide,by show 1<=40; decide,h.w0,h.w1,⟨by simp [fmW],fun i f w hf hw=>by
 simp only [fmW] at hw
 have:=List.mem_of_getElem? hw
 rw [(List.mem_replicate.mp this).2]
 exact trivial⟩⟩
variable {at':Option Nat}
theorem zoY {pt:Pt} (h:PtOk pt) (ha:ztf pt at'):FmOk pt.fs (ziu pt at'):=by
 cases at' with
 | none=>exact fmW_ok h
 | some i =>
  have hi:i < pt.fms.length:=ha
  show FmOk pt.fs (pt.fms.getD i ⟨1,1,[]⟩)
  simp only [List.getD,List.getElem?_eq_getElem hi,Option.getD_some]
  exact h.fm _ (List.getElem_mem hi)
theorem zlw {pt:Pt} (h:PtOk pt) (ha:ztf pt at'):zey [pt.e,onD at'] m = .ok (ziu pt at').e m:=by
 apply zar
 unfold zey zlt
 cases at' with
 | none =>
  simp only [onD]; erw [zjc]; erw [zeY]; erw [ix_sh]; erw [List.length_map,mul_t ⟨by have:=h.f0; omega,by have:=h.f1; omega⟩]; ac_nf
  refine Run.ok ⟨?_,rfl⟩
  simp only [ziu,fmW,Fm.e,fmD,List.map_replicate,Int.toNat_natCast,Wy.e]
  rfl
 | some i =>
  have hi:i < pt.fms.length:=ha
  simp only [onD]; erw [zfx]; ac_nf
  rw [zpz (d:=(ziu pt (some i)).e) (by
   rw [List.getElem?_map,List.getElem?_eq_getElem hi]
   simp [ziu,List.getD,List.getElem?_eq_getElem hi])]
  exact Run.ok ⟨rfl,rfl⟩
theorem zj1 {pt:Pt} (h:PtOk pt):zbY [pt.e] m = .ok (.int (wdN (1+pt.fms.length))) m:=by
 apply zar
 unfold zbY zgH; erw [zfx]; erw [List.length_map,show (1:Int)+(pt.fms.length:Nat)=((1+pt.fms.length:Nat):Int) by push_cast; rfl,zhg (by have:=h.fml; omega)]; exact Run.ok ⟨rfl,rfl⟩
theorem zlI {pt:Pt} (h:PtOk pt):zbk [pt.e] m = .ok (.int (wdN pt.n.toNat)) m:=by
 have h0:=h.n0
 have h1:=h.n1
 apply zar
 unfold zbk zfE; erw [zeY]; erw [show ixD (shD pt.fs pt.n) (.int 1) m = .ok (.int pt.n) m from ix_t1 _ _ _]; ac_nf
 have e:=zhg (n:=pt.n.toNat) (m:=m) (by omega)
 rw [Int.toNat_of_nonneg (by omega)] at e
 rw [e]; exact Run.ok ⟨rfl,rfl⟩
def lsz (pt:Pt) (at':Option Nat):Nat:=wdN (1+pt.fms.length)+(ziu pt at').b+(zfs pt.fs (ziu pt at').wys).sum+wdN pt.n.toNat
theorem zfw {pt:Pt} (h:PtOk pt) (ha:ztf pt at'):zbD [pt.e,onD at'] m = .ok (.int (lsz pt at')) m:=by
 apply zar
 unfold zbD zfy; erw [zlw h ha]; erw [zj1 h]; erw [show ixD (ziu pt at').e (.int 1) m = .ok (.int (ziu pt at').b) m from ix_t1 _ _ _]; erw [zeY]; erw [show zfk [shD pt.fs pt.n,(ziu pt at').e] m = .ok (.int ((zfs pt.fs (ziu pt at').wys).sum:Nat)) m from zpL h.sh.ok h.f1 (zoY h ha).wy]
 erw [zlI h]; ac_nf
 refine Run.ok ⟨?_,rfl⟩
 unfold lsz
 congr 1
def ckS (hd:List Int):Int:=((List.range hd.length).map fun i:Nat=>((i:Int)+2) * hd.getD i 0).sum
def ckV (pt:Pt) (number:Nat) (hd:List Int):Int:=((number:Int)+ckS hd) % pt.n
theorem zlB (hd:List Int):∀ (xs:List Int) (k:Nat),(zcB k (xs.map D.int)).map (fun d=>match d with | .tup [.int i,.int v]=>D.int ((i+2) * v) | _ => .non)=((List.range xs.length).map fun i:Nat=>(((k+i:Nat):Int)+2) * xs.getD i 0).map D.int
 | [],k=>rfl
 | x::xs,k=>by
  rw [List.map_cons,zcB,List.map_cons,zlB hd xs (k+1),List.length_cons,List.range_succ_eq_map,List.map_cons,List.map_cons,List.map_map]; simp only [Nat.add_zero,List.getD_cons_zero,List.map_map]
  congr 1
  apply List.map_congr_left
  intro i _
  simp only [Function.comp,Nat.succ_eq_add_one,List.getD_cons_succ]; rw [show k+1+i=k+(i+1) by omega]
theorem sum_i {xs:List Int} (h:(∀ a,a∈xs->0<=a/\a<=2 ^ 50)/\xs.length<=1000):zrA [.lst (xs.map D.int)] m = .ok (.int xs.sum) m:=by
 simp only [zrA,lOf,Option.bind_some,zd2]
 exact if_pos h
variable {number:Nat}
theorem zph {pt:Pt} (h:PtOk pt) (hh:HdOk pt.fs hd):zd0 [shD pt.fs pt.n,.int number,zbX hd] m = .ok (.int (ckV pt number hd)) m:=by
 have hl:=hh.len
 have h1:=h.f1
 apply zar
 unfold zd0 zjr zbX; ac_nf
 rw [zbt (ds:=zcB 0 (hd.map D.int)) (fun d=>match d with | .tup [.int i,.int v]=>D.int ((i+2) * v) | _ => .non) (by ac_nf) (by rw [zd1]; omega) (by
  intro d hd'
  obtain ⟨i,hi⟩:=List.mem_iff_getElem?.mp hd'
  obtain ⟨v,hv,rfl⟩:=zfn hi
  have hil:=(List.getElem?_eq_some_iff.mp hv).1
  refine ⟨_,rfl,?_⟩
  show (eOp zeb (eOp zbj (zaf 3) (eC (.int 2))) (zaf 4)) [some (shD pt.fs pt.n),some (.int number),some (.tup (hd.map D.int)),some (.int ((0+i:Nat):Int)),some (.int v)] m=_
  ac_nf
  rw [zil ⟨by omega,by omega⟩])]
 ac_nf
 rw [zlB hd,sum_i ⟨fun a ha'=>by
  simp only [List.mem_map,List.mem_range] at ha'
  obtain ⟨i,hi,rfl⟩:=ha'
  have e1:=List.getElem?_eq_getElem (show i < pt.fs.length by omega)
  have e2:=List.getElem?_eq_getElem hi
  obtain ⟨v0,v1⟩:=hh.at' i _ _ e1 e2
  have hB:=p2le (h.sh.at' i _ e1).2.1
  simp only [List.getD,e2,Option.getD_some]
  have hk:((0+i:Nat):Int)+2<=14:=by omega
  have hk0:0<=((0+i:Nat):Int)+2:=by omega
  generalize ((0+i:Nat):Int)+2=q at hk hk0; generalize hd[i]=v at v0 v1
  refine ⟨Int.mul_nonneg hk0 v0,?_⟩
  have:q * v<=14 * v:=Int.mul_le_mul_of_nonneg_right hk v0
  omega,by simp; omega⟩]
 erw [show ixD (shD pt.fs pt.n) (.int 1) m = .ok (.int pt.n) m from ix_t1 _ _ _]; erw [zcq h.n0]
 refine Run.ok ⟨?_,rfl⟩
 unfold ckV ckS; simp only [Nat.zero_add]
def srtI:Option Nat->Int
 | none=>0
 | some i=>1+(i:Int)
def ltL (pt:Pt) (at':Option Nat) (number:Nat) (hd:List Int):List Nat:=dgs (srtI at') (wdN (1+pt.fms.length))++dgs ((number:Int) % 2 ^ (ziu pt at').b) (ziu pt at').b++pcK pt.fs (ziu pt at').wys hd pt.fs.length++dgs (ckV pt number hd) (wdN pt.n.toNat)
theorem zqV (h:n<=2 ^ 50):wdN n<=50:=Nat.le_of_not_lt fun z=>by
 have:=wdN_lt.mpr z
 omega
theorem zrD (a b:List Nat):((⟨a.toArray⟩:Str)++⟨b.toArray⟩)=⟨(a++b).toArray⟩:=by
 apply zj0
 show (a.toArray++b.toArray).toList=_
 simp
theorem add_str {a b:List Nat} (h:a.length+b.length<=100000):zbj (.str ⟨a.toArray⟩) (.str ⟨b.toArray⟩) m = .ok (.str ⟨(a++b).toArray⟩) m:=by
 rw [add_ss (show a.toArray.size+b.toArray.size<=sizeLine from by simp; exact Nat.le_trans h (by decide)),zrD]
theorem zmq {pt:Pt} (h:PtOk pt) (ha:ztf pt at') (hh:HdOk pt.fs hd):zc8 [pt.e,onD at',.int number,zbX hd] m = .ok (.str ⟨(ltL pt at' number hd).toArray⟩) m:=by
 have hf:=zoY h ha
 have w1:=zqV (n:=1+pt.fms.length) (by have:=h.fml; omega)
 have w2:=zqV (n:=pt.n.toNat) (by have:=h.n1; omega)
 have hb:=hf.b1
 have hpl:=zj9 hf.wy hh pt.fs.length (Nat.le_refl _)
 have hsb:=zjZ h.sh.ok hf.wy pt.fs.length (Nat.le_refl _)
 have hf1:=h.f1
 apply zar
 unfold zc8 zhx; erw [zlw h ha]; ac_nf
 have e1:∀ m,ixD (ziu pt at').e (.int 1) m = .ok (.int (ziu pt at').b) m:=fun m=>ix_t1 _ _ _
 have tail:Run ((zaw (zaK (eFn zcw (zac (eFn zbC (zac (zaf 2) (zac (eOp ixD (zaf 4) (eC (.int 1))) zaj))) (zac (eOp ixD (zaf 4) (eC (.int 1))) zaj))) (gN 6))
 (zaw (zaK (eFn zcw (zac (eFn zd0 (zac (eOp ixD (zaf 0) (eC (.int 0))) (zac (zaf 2) (zac (zaf 3) zaj)))) (zac (eFn zbk (zac (zaf 0) zaj)) zaj))) (gN 7))
 (zaL (eOp zbj (eOp zbj (eOp zbj (zaf 5) (zaf 6)) (eFn zdq (zac (eOp ixD (zaf 0) (eC (.int 0))) (zac (zaf 4) (zac (zaf 3) zaj))))) (zaf 7))))) [some pt.e,some (onD at'),some (.int number),some (zbX hd),some (ziu pt at').e,some (.str ⟨(dgs (srtI at') (wdN (1+pt.fms.length))).toArray⟩),none,none] m |>.bind zgZ) fun a m'=>a = .str ⟨(ltL pt at' number hd).toArray⟩/\m'=m:=by
  erw [e1]; erw [zar (zcl (by omega))]; erw [e1]; erw [zar (zdd (by omega))]; erw [zeY]; erw [zph h hh]; erw [zlI h]; erw [zar (zdd (by omega))]; erw [add_str (by rw [zcx,zcx]; omega)]; erw [zeY]; erw [show zdq [shD pt.fs pt.n,(ziu pt at').e,zbX hd] m = .ok (.str ⟨(pcK pt.fs (ziu pt at').wys hd pt.fs.length).toArray⟩) m from zar (zd8 h.sh.ok h.f1 hf.wy hh)]
  erw [add_str (by rw [List.length_append,zcx,zcx,hpl]; omega)]; erw [add_str (by rw [List.length_append,List.length_append,zcx,zcx,zcx,hpl]; omega)]; exact Run.ok ⟨rfl,rfl⟩
 cases at' with
 | none =>
  simp only [onD]; erw [zj1 h]; erw [zar (zdd (by omega))]; simp only [kasg_at,gN_at,List.set_cons_succ,List.set_cons_zero,bind_ok,bind_then,then_at,nx_at,seq_nx]
  exact tail
 | some i =>
  simp only [onD]; erw [zj1 h]; erw [zar (zdd (by omega))]; simp only [kasg_at,gN_at,List.set_cons_succ,List.set_cons_zero,bind_ok,bind_then,then_at,nx_at,seq_nx]
  exact tail
section
variable {k:Nat} {pt:Pt} {fresh:Nat}
theorem HiV.kind {f:Fm} {a:D} (h:HiV pt hs had base fresh hd f a):(∃ s,a = .str s)∨∃ o,a=zmD o:=by
 unfold HiV at h
 split at h
 ·exact .inl ⟨_,h⟩
 ·split at h
  ·exact .inl ⟨_,h⟩
  ·split at h
   ·exact .inl ⟨_,h⟩
   ·obtain ⟨o,h,_⟩:=h
    exact .inr ⟨o,h⟩
theorem is_hi {f:Fm} {a:D} (h:HiV pt hs had base fresh hd f a):∃ b:Bool,isD a .non m = .ok (.bl b) m:=by
 rcases h.kind with ⟨s,rfl⟩ | ⟨o,rfl⟩
 ·exact ⟨false,rfl⟩
 ·match o with
  | none=>exact ⟨true,rfl⟩
  | some (x,y,z)=>exact ⟨false,rfl⟩
theorem ziI (h:PrAt m k l pt hs had base fresh) (hp:PtOk pt) (hh:HdOk pt.fs hd) (hhs:∀ x∈hs,HdOk pt.fs x) (hl:hs.length<=100000) :
  Run (zaT [.ob k,zbX hd] m) fun a m'=>∃ best,a=onD best/\ztf pt best/\∃ r,m'=m++r:=by
 unfold zaT zc5; erw [h.pact]; erw [zfx]; erw [List.length_map,zgi (by omega) (by have:=hp.fml; omega)]; ac_nf; refine Run.bind (zbw (fun i ρ m'=>∃ (best:Option Nat) (x3:Option D) (r:Sto),ρ = [some (.ob k),some (zbX hd),some (onD best),x3]/\ztf pt best/\m'=m++r) (zcU 0 (pt.fms.length:Int).toNat) 0 ⟨none,none,[],rfl,trivial,by simp⟩ ?_) ?_
 ·rintro i d ρ m1 hd1 ⟨best,x3,r,rfl,hb,rfl⟩
  have hi:=(List.getElem?_eq_some_iff.mp hd1).1
  rw [za7] at hi
  have hi':i < pt.fms.length:=by simpa using hi
  have:=ziA hd1
  subst this
  have h1:PrAt (m++r) k l pt hs had base fresh:=h.app
  have hf:=List.getElem?_eq_getElem hi'
  erw [h1.pact]; erw [show zbD [pt.e,.int (i:Nat)] (m++r) = .ok (.int (lsz pt (some i))) (m++r) from zfw (at':=some i) hp hi']; erw [h1.pact]; erw [zfw hp hb]; ac_nf
  by_cases c1:((lsz pt (some i):Nat):Int) < lsz pt best
  ·rw [if_pos c1]; rw [if_pos (h1.meth rfl)]; ac_nf; refine Run.bind (zli h1 hp hh hhs hl hf) ?_; rintro a m2 ⟨ha,r2,rfl⟩
   obtain ⟨b,e⟩:=is_hi (m:=m++r++r2) ha
   erw [e]
   cases b with
   | true =>
    ac_nf; exact Run.ok ⟨_,rfl,some i,_,r++r2,rfl,hi',by simp⟩
   | false =>
    ac_nf; exact Run.ok ⟨_,rfl,best,_,r++r2,rfl,hb,by simp⟩
  ·rw [if_neg c1]; ac_nf; exact Run.ok ⟨_,rfl,best,_,r,rfl,hb,rfl⟩
 ·rintro _ m1 ⟨ρ,rfl,best,x3,r,rfl,hb,rfl⟩; ac_nf; exact Run.ok ⟨best,rfl,hb,r,rfl⟩
theorem Fr.app2 {r:Sto}:Fr p q m (m++r):=⟨by rw [List.length_append]; exact Nat.le_add_right _ _,fun j h _ _=>List.getElem?_append_left h⟩
theorem znz (h:PrAt m k l pt hs had base fresh) (hp:PtOk pt) (hh:HdOk pt.fs hd) (hhs:∀ x∈hs,HdOk pt.fs x) (hl:hs.length<=900) (hw:(hs.length:Int) < 2 ^ pt.wide) :
  Run (zck [.ob k,zbX hd] m) fun a m'=>(∃ best,ztf pt best/\a = .str ⟨(ltL pt best hs.length hd).toArray⟩)/\PrAt m' k l pt (hs++[hd]) had base fresh/\Fr k l m m':=by
 unfold zck zcV; erw [if_pos (h.meth rfl)]; erw [ztg h hp hh]; erw [if_pos (h.meth rfl)]; erw [zcF h]; erw [h.pact]; erw [zjc]; erw [zdf (by have:=hp.w1; omega)]; erw [if_neg (show ¬ ((hs.length:Nat):Int)=2 ^ pt.wide by omega)]; erw [h.pact]; ac_nf
 rw [if_pos (h.meth rfl)]; ac_nf; refine Run.bind (ziI h hp hh hhs (by omega)) ?_; rintro _ m1 ⟨best,rfl,hb,r,rfl⟩
 have h1:PrAt (m++r) k l pt hs had base fresh:=h.app
 erw [zmq hp hb hh]; erw [h1.pressed]; erw [if_pos (zjf h1.lst)]; erw [zjS h1.lst (by rw [List.length_map]; exact zcE (by omega))]; ac_nf
 refine Run.ok ⟨⟨best,hb,rfl⟩,⟨by rw [zaU (Ne.symm h.kl)]; exact h1.self,by rw [zcS h1.lst,List.map_append]; rfl,h.kl⟩,Fr.app2.trans Fr.set'⟩
def hrO (o:Option Nat) (n:Nat):Option Nat:=match o with
 | none=>some n
 | some a=>some (max a n)
theorem znX (a n:Nat):D.int (if (n:Int)>a then (n:Int) else a)=onD (some (max a n)):=by
 simp only [onD]
 congr 1
 split <;> omega
theorem zq4 {pt:D} {a:Option Nat}:zgn "had" (onD a) (prF pt l had base fresh)=prF pt l a base fresh:=rfl
theorem zka {pt:D} {a:Option Nat}:zgn "base" (onD a) (prF pt l had base fresh)=prF pt l had a fresh:=rfl
theorem zqg {pt:D} {a:Nat}:zgn "fresh" (.int a) (prF pt l had base fresh)=prF pt l had base a:=rfl
theorem zky (h:PrAt m k l pt hs had base fresh):Run (za4 [.ob k,.int n] m) fun a m'=>a = .non/\PrAt m' k l pt hs (hrO had n) (if fresh<=n then hrO base n else base) fresh/\Fr k l m m':=by
 have hset:∀ {m:Sto} {h1 b1 h2 b2:Option Nat} {f1 f2:Nat},PrAt m k l pt hs h1 b1 f1->PrAt (m.set k (.ins "Presser" (prF pt.e l h2 b2 f2))) k l pt hs h2 b2 f2:=fun h=>⟨zcS h.self,by rw [zaU h.kl]; exact h.lst,h.kl⟩
 have key:∀ (m1:Sto) (had1:Option Nat),PrAt m1 k l pt hs had1 base fresh->Fr k l m m1->Run (Res.bind (sIf (tV (eOp geD (zaf 1) (zcX "Presser" "fresh" (zaf 0))))
 (zeM "Presser" "base" (zaf 0) (eIf (tV (eOp isD (zcX "Presser" "base" (zaf 0)) (eC .non))) (zaf 1) (eFn zgw (zac (zcX "Presser" "base" (zaf 0)) (zac (zaf 1) zaj)))))
 zbL [some (.ob k),some (.int n)] m1) zgZ) fun a m'=>a = .non/\PrAt m' k l pt hs had1 (if fresh<=n then hrO base n else base) fresh/\Fr k l m m':=by
  intro m1 had1 h1 f1
  erw [h1.freshF]; ac_nf
  by_cases c:fresh<=n
  ·rw [if_pos (show (fresh:Int)<=n by omega),if_pos c]; erw [h1.baseF]
   cases base with
   | none =>
    simp only [onD]; erw [zdB h1.self (by show 5 < 1000; decide),show D.int (n:Nat)=onD (some n) from rfl,zka]; ac_nf; exact Run.ok ⟨rfl,hset h1,f1.trans Fr.set⟩
   | some b =>
    simp only [onD]; erw [h1.baseF]; simp only [onD]; erw [znX,zdB h1.self (by show 5 < 1000; decide),zka]; ac_nf; exact Run.ok ⟨rfl,hset h1,f1.trans Fr.set⟩
  ·rw [if_neg (show ¬ (fresh:Int)<=n by omega),if_neg c]; ac_nf; exact Run.ok ⟨rfl,h1,f1⟩
 unfold za4 zdu; erw [h.hadF]
 cases had with
 | none =>
  simp only [onD]; erw [zdB h.self (by show 5 < 1000; decide),show D.int (n:Nat)=onD (some n) from rfl,zq4]; simp only [bind_ok,bind_then,then_at,kfs3_at,seq_nx]
  exact key _ (some n) (hset h) Fr.set
 | some a =>
  simp only [onD]; erw [h.hadF]; simp only [onD]; erw [znX,zdB h.self (by show 5 < 1000; decide),zq4]; simp only [bind_ok,bind_then,then_at,kfs3_at,seq_nx]
  exact key _ (some (max a n)) (hset h) Fr.set
theorem zmv (h:PrAt m k l pt hs had base fresh) (hn:n < hs.length):Run (zbo [.ob k,.tup [.str "have", .int n]] m) fun a m'=>a = .non/\PrAt m' k l pt hs (hrO had n) (if fresh<=n then hrO base n else base) fresh/\Fr k l m m':=by
 unfold zbo zb6; erw [zde,decide_eq_false (by simp [ofs_eq])]; erw [zde,decide_eq_true (by simp)]; erw [if_pos (h.meth rfl)]; erw [zcF h]; erw [zgR,decide_eq_true (by omega)]; erw [if_pos (h.meth rfl)]; ac_nf; refine Run.bind (zky h) ?_; rintro _ m1 ⟨rfl,h1,f1⟩
 ac_nf; exact Run.ok ⟨rfl,h1,f1⟩
theorem zmw (h:PrAt m k l pt hs had base fresh):Run (zbo [.ob k,.tup [.str "anew"]] m) fun a m'=>a = .non/\PrAt m' k l pt hs had none hs.length/\Fr k l m m':=by
 unfold zbo zb6; erw [zde,decide_eq_true (by simp)]; erw [if_pos (h.meth rfl)]; erw [zcF h]; erw [zdB h.self (by show 5 < 1000; decide),zqg]
 have h1:PrAt (m.set k (.ins "Presser" (prF pt.e l had base hs.length))) k l pt hs had base hs.length:=⟨zcS h.self,by rw [zaU h.kl]; exact h.lst,h.kl⟩
 have f1:Fr k l m (m.set k (.ins "Presser" (prF pt.e l had base hs.length))):=Fr.set
 generalize m.set k (.ins "Presser" (prF pt.e l had base hs.length))=m1 at h1 f1 ⊢; erw [zdB h1.self (by show 5 < 1000; decide),show D.non=onD none from rfl,zka]; ac_nf; exact Run.ok ⟨rfl,⟨zcS h1.self,by rw [zaU h.kl]; exact h1.lst,h.kl⟩,f1.trans Fr.set⟩
theorem make_w (pt:Pt) (m:Sto):Run (mkM "Presser" zbG [pt.e] m) fun a m'=>a = .ob m.length/\PrAt m' m.length (m.length+1) pt [] none none 0/\∃ r,m'=m++r:=by
 unfold mkM zbG ze0; ac_nf
 have e0:∀ fs:List (Str × D),(m++[MO.ins "Presser" fs])[m.length]?=some (.ins "Presser" fs):=fun fs=>by simp
 rw [zdB (e0 _) (by show 0 < 1000; decide)]; rw [show (m++[MO.ins "Presser" []]).set m.length (.ins "Presser" (zgn "pact" pt.e []))=m++[.ins "Presser" [("pact", pt.e)]] by rw [List.set_append_right _ _ (Nat.le_refl _),Nat.sub_self]; rfl]; erw [zof]; ac_nf
 have e1:∀ fs:List (Str × D),(m++[MO.ins "Presser" fs]++[MO.lst []])[m.length]?=some (.ins "Presser" fs):=fun fs=>by simp
 have es:∀ fs gs:List (Str × D),(m++[MO.ins "Presser" fs]++[MO.lst []]).set m.length (.ins "Presser" gs)=m++[.ins "Presser" gs]++[.lst []]:=fun fs gs=>by
  rw [List.append_assoc,List.set_append_right _ _ (Nat.le_refl _),Nat.sub_self,List.append_assoc]; rfl
 have el:∀ fs:List (Str × D),(m++[MO.ins "Presser" fs]).length=m.length+1:=fun fs=>by simp
 rw [el,zdB (e1 _) (by show 1 < 1000; decide),es]; erw [zdB (e1 _) (by show 2 < 1000; decide),es]; erw [zdB (e1 _) (by show 3 < 1000; decide),es]; erw [zdB (e1 _) (by show 4 < 1000; decide),es]; ac_nf
 refine Run.ok ⟨rfl,⟨by rw [e1]; rfl,?_,by omega⟩,_,by rw [List.append_assoc]⟩
 rw [List.getElem?_append_right (by simp)]
 simp
end
theorem lst_n (h:xs.length<=100):zcW xs m = .ok (.lst xs) m:=if_pos (slen h)
theorem P3.fr2 {k:Nat} (h:P3 m0 p q c m) (f:Fr k l m m') (a:k≠p) (b:k≠q) (c':l≠p) (d:l≠q):P3 m' p q c m':=by
 obtain ⟨own,s,t,h1,h2,h3⟩:=h.ex
 refine ⟨⟨own,s,t,?_,?_,h3⟩,Fr.refl⟩
 ·rw [f.at' p (List.getElem?_eq_some_iff.mp h1).1 (Ne.symm a) (Ne.symm c')]; exact h1
 ·rw [f.at' q (List.getElem?_eq_some_iff.mp h2).1 (Ne.symm b) (Ne.symm d)]; exact h2
theorem zpC (hp:P3 m0 p q c m) (hc:c+3 < 2 ^ 40) (hi:i<=100) :
  Run (zdX [.ob p,.int i] m) fun a m'=>(a = .tup [.str "anew"]∨∃ n:Nat,n < i/\a = .tup [.str "have", .int n])/\P3 m p q (c+3) m':=by
 unfold zdX zjk; ac_nf; refine Run.bind (zaP hp (by omega) (by decide) (by decide)) ?_; rintro _ m1 ⟨x,rfl,x0,x1,hp1⟩; ac_nf
 by_cases c1:x=0
 ·rw [if_pos c1]; ac_nf; exact Run.ok ⟨.inl rfl,hp1.more (by omega)⟩
 rw [if_neg c1]; ac_nf
 by_cases c2:(i:Int)=0
 ·rw [if_pos c2]; ac_nf; exact Run.ok ⟨.inl rfl,hp1.more (by omega)⟩
 rw [if_neg c2]; ac_nf; refine Run.bind (zaP hp1 (by omega) (by omega) (by omega)) ?_; rintro _ m2 ⟨y,rfl,y0,y1,hp2⟩; erw [lst_n (by simp)]; ac_nf; refine Run.bind (zc3 hp2 (by omega) (by simp) (by simp)) ?_; rintro v m3 ⟨hv,hp3⟩
 have hv':∃ z:Int,v = .int z/\0<=z:=by
  simp only [List.mem_cons,List.not_mem_nil,or_false] at hv
  rcases hv with rfl | rfl | rfl | rfl | rfl | rfl
  ·exact ⟨0,rfl,by decide⟩
  ·exact ⟨0,rfl,by decide⟩
  ·exact ⟨1,rfl,by decide⟩
  ·exact ⟨2,rfl,by decide⟩
  ·exact ⟨5,rfl,by decide⟩
  ·exact ⟨y,rfl,y0⟩
 obtain ⟨z,rfl,z0⟩:=hv'
 ac_nf
 obtain ⟨n,hn,hn1⟩:∃ n:Nat,(if (i:Int) - 1 - z>0 then (i:Int) - 1 - z else 0)=n/\n < i:=by
  by_cases c3:(i:Int) - 1 - z>0
  ·rw [if_pos c3]
   exact ⟨((i:Int) - 1 - z).toNat,by omega,by omega⟩
  ·rw [if_neg c3]
   exact ⟨0,rfl,by omega⟩
 refine Run.ok ⟨.inr ⟨n,hn1,?_⟩,(hp1.via (hp2.via hp3)).more (by omega)⟩
 rw [<- hn]
section
variable {k s:Nat} {pt:Pt} {fresh:Nat}
theorem zsP (h:PrAt m k l pt hs had base fresh):za9 [.ob k] m = .ok (.tup [onD had,onD base,.int fresh]) m:=by
 apply zar
 unfold za9 zed; erw [h.hadF]; erw [h.baseF]; erw [h.freshF]; ac_nf; exact Run.ok ⟨rfl,rfl⟩
end
theorem zqL {fs:List Fd} {n:Int} {more:Int} (hs:zmL fs) (hf:fs[i]?=some f) (hv:fo[i]?=some v) (ha:i<=ah.length) (h1 : -100000<=more) (h2:more<=100000) :
  Run (zbP [shD fs n,.int i,.tup (fo.map D.int),.tup (ah.map D.int),.int more] m) fun a m'=>(∃ x:Int,a = .int x/\0<=x/\x < 2 ^ f.b)/\m'=m:=by
 obtain ⟨hb0,hb1,hk⟩:=hs i f hf
 unfold zbP zee shD; erw [zjd hf]; erw [zdo hv]; ac_nf
 have hp:=p2 f.b
 have hlt:=p2lt hb1
 have hsh:=zdf (m:=m) (n:=f.b) (by (clear hlt hp hb0 ha; omega))
 have hmod:=md2
 have fin:∀ (y:Int) (ρ : En),ρ = [some (.tup [.tup (fs.map Fd.e),.int n]),some (.int i),some (.tup (fo.map D.int)),some (.tup (ah.map D.int)),some (.int more),some f.kd.e,some (.int y)]->Run (Res.bind ((zaL (eOp zer (zaf 6) (eOp zfU (eC (.int 1)) (eOp ixD (eOp ixD (eOp ixD (zaf 0) (eC (.int 0))) (zaf 1)) (eC (.int 1)))))) ρ m) zgZ) fun a m'=>(∃ x:Int,a = .int x/\0<=x/\x < 2 ^ f.b)/\m'=m:=by
  rintro y _ rfl; erw [zjd hf]; erw [hsh]; erw [zcq hp]; ac_nf; exact Run.ok ⟨⟨_,rfl,hmod y f.b⟩,rfl⟩
 cases hkd:f.kd with
 | step w =>
  rw [hkd] at hk fin
  simp only [Kd.e] at fin ⊢
  erw [zkp ⟨by (clear hlt hp hb0 ha; omega),by (clear hlt hp hb0 ha; omega)⟩]; simp only [bind_ok,bind_then,then_at,kop_at,var_0,var_S,add_i,kasg_at,gN_at,List.set_cons_succ,List.set_cons_zero,nx_at,seq_nx]
  exact fin _ _ rfl
 | turn row =>
  rw [hkd] at fin
  simp only [Kd.e] at fin ⊢
  erw [zoM]; ac_nf
  by_cases hr:v∈row
  ·rw [if_pos hr]; erw [zkU hr]; ac_nf; simp only [List.length_map]
   have hl:0 < row.length:=List.length_pos_of_mem hr
   rw [zcq (by (clear hlt hp hb0 ha; omega))]; ac_nf
   have a0:=Int.emod_nonneg (row.idxOf v+more) (b:=row.length) (by (clear hlt hp hb0 ha; omega))
   have a1:=Int.emod_lt_of_pos (row.idxOf v+more) (b:=row.length) (by (clear a0 hlt hp hb0 ha; omega))
   generalize hx:((row.idxOf v:Int)+more) % row.length=x at a0 a1
   obtain ⟨j,rfl⟩:∃ j:Nat,x=j:=⟨x.toNat,by (clear a1 hx hl hlt hp hb0 ha; omega)⟩
   have hj:j < row.length:=by (clear a0 hx hl hlt hp hb0 ha; omega)
   rw [zdo (List.getElem?_eq_getElem hj)]; simp only [bind_ok,bind_then,then_at,kasg_at,gN_at,List.set_cons_succ,List.set_cons_zero,nx_at,seq_nx]
   exact fin _ _ rfl
  ·rw [if_neg hr]; simp only [bind_ok,bind_then,then_at,kif_at,Bool.false_eq_true,reduceIte]; erw [zjd hf]; erw [hsh]; erw [zcq hp]; ac_nf; exact Run.ok ⟨⟨_,rfl,hmod v f.b⟩,rfl⟩
 | wth j w =>
  rw [hkd] at hk fin
  simp only [Kd.Ok] at hk
  simp only [Kd.e] at fin ⊢
  ac_nf
  have hj1:j < ah.length:=by (clear hlt hp hb0; omega)
  have hj2:j < fo.length:=by have:=(List.getElem?_eq_some_iff.mp hv).1; (clear hj1 hlt hp hb0 ha; omega)
  rw [zdo (List.getElem?_eq_getElem hj1)]; erw [zdo (List.getElem?_eq_getElem hj2)]; erw [zil (by (clear hj2 hj1 hlt hp hb0 ha; omega))]; simp only [bind_ok,bind_then,then_at,kop_at,var_0,var_S,add_i,kasg_at,gN_at,List.set_cons_succ,List.set_cons_zero,nx_at,seq_nx]
  exact fin _ _ rfl
 | still =>
  simp only [Kd.e]; erw [zjd hf]; erw [hsh]; erw [zcq hp]; ac_nf; exact Run.ok ⟨⟨_,rfl,hmod v f.b⟩,rfl⟩
 | drawn =>
  simp only [Kd.e]; erw [zjd hf]; erw [hsh]; erw [zcq hp]; ac_nf; exact Run.ok ⟨⟨_,rfl,hmod v f.b⟩,rfl⟩
section
variable {fs:List Fd} {n:Int}
theorem zkL (hp:P3 m0 p q c m) (hc:c+30 < 2 ^ 40) (hs:zmL fs) (hl:fs.length<=12) :
  Run (zb1 [.ob p,shD fs n] m) fun a m'=>∃ hd,a=zbX hd/\HdOk fs hd/\P3 m p q (c+30) m':=by
 unfold zb1 zfC shD; ac_nf; refine Run.bind (zgW (ds:=fs.map Fd.e) (fun k m'=>P3 m p q (c+2 * k) m') (fun i d x=>∃ v:Int,x = .int v/\∀ f,fs[i]?=some f->0<=v/\v < 2 ^ f.b) (by ac_nf) (by rw [List.length_map]; omega) hp.re ?_) ?_
 ·intro i d m' hd hI
  have hi:i < fs.length:=by have:=(List.getElem?_eq_some_iff.mp hd).1; simpa using this
  have e1:=List.getElem?_eq_getElem hi
  have hd':d=fs[i].e:=by
   rw [List.getElem?_map,e1] at hd
   simpa using hd.symm
  subst hd'
  obtain ⟨b0,b1,hk⟩:=hs i _ e1
  simp only [Fd.e]; ac_nf
  refine Run.mono (ze8 hI (by omega) b1) ?_
  rintro a m3 ⟨v,rfl,v0,v1,hp3⟩
  exact ⟨⟨v,rfl,fun f hf=>by rw [e1] at hf; cases hf; exact ⟨v0,v1⟩⟩,(hI.via hp3).more (by omega)⟩
 ·rintro xs m' ⟨hlen,hP,hI⟩; ac_nf
  rw [List.length_map] at hlen hI
  obtain ⟨l,rfl,hl2⟩:=lift D.int (fun i v=>∀ f,fs[i]?=some f->0<=v/\v < 2 ^ f.b) xs 0 fun i x hx=>by
   have hi:i < fs.length:=by have:=(List.getElem?_eq_some_iff.mp hx).1; omega
   rw [Nat.zero_add]
   exact hP i fs[i].e x (by rw [List.getElem?_map,List.getElem?_eq_getElem hi]; rfl) hx
  refine Run.ok ⟨l,rfl,⟨by simpa using hlen,fun i f v hf hv=>?_⟩,hI.more (by omega)⟩
  have:=hl2 i v hv
  rw [Nat.zero_add] at this
  exact this f hf
theorem zi5 (hp:P3 m0 p q c m) (hc:c+40 < 2 ^ 40) (hs:zmL fs) (hl:fs.length<=12) (hf:HdOk fs fo) {calm:Nat} (c0:0 < calm) (c1:calm<=100) :
  Run (zbH [.ob p,shD fs n,zbX fo,.int calm] m) fun a m'=>∃ hd,a=zbX hd/\HdOk fs hd/\P3 m p q (c+40) m':=by
 unfold zbH ze3 shD; ac_nf; refine Run.bind (zbw (fun k ρ m'=>∃ (hd:List Int) (x5 x6 x7:Option D),ρ = [some (.ob p),some (.tup [.tup (fs.map Fd.e),.int n]),some (zbX fo),some (.int calm),some (.tup (hd.map D.int)),x5,x6,x7]/\hd.length=k/\(∀ (j:Nat) (f:Fd) (v:Int),fs[j]?=some f->hd[j]?=some v->0<=v/\v < 2 ^ f.b)/\P3 m p q (c+3 * k) m') (zcB 0 (fs.map Fd.e)) 0 ⟨[],_,_,_,rfl,rfl,fun j f v _ h=>by simp at h,hp.re⟩ ?_) ?_
 ·rintro i d ρ m1 hd ⟨h,x5,x6,x7,rfl,hlen,hok,hI⟩
  obtain ⟨f,e1,rfl⟩:=zfn hd
  have hi:=(List.getElem?_eq_some_iff.mp e1).1
  rw [Nat.zero_add] at hlen hI ⊢
  obtain ⟨b0,b1,hk⟩:=hs i _ e1
  have hfl:i < fo.length:=by rw [hf.len]; exact hi
  have e2:=List.getElem?_eq_getElem hfl
  ac_nf; refine Run.bind (zqL hs e1 e2 (by omega) (by decide) (by decide)) ?_; rintro _ _ ⟨⟨x,rfl,x0,x1⟩,rfl⟩
  have done:∀ (m2:Sto) (y:Int),0<=y->y < 2 ^ f.b->P3 m p q (c+3 * i+3) m2->Run ((zaK (eOp zbj (zaf 4) (eFn zbn (zac (zaf 7) zaj))) (gN 4)) [some (.ob p),some (.tup [.tup (fs.map Fd.e),.int n]),some (zbX fo),some (.int calm),some (.tup (h.map D.int)),some (.int (i:Nat)),some f.e,some (.int y)] m2) fun fl m'=>∃ ρ2,fl = .nx ρ2/\∃ (hd:List Int) (x5 x6 x7:Option D),ρ2=[some (.ob p),some (.tup [.tup (fs.map Fd.e),.int n]),some (zbX fo),some (.int calm),some (.tup (hd.map D.int)),x5,x6,x7]/\hd.length=i+1/\(∀ (j:Nat) (f:Fd) (v:Int),fs[j]?=some f->hd[j]?=some v->0<=v/\v < 2 ^ f.b)/\P3 m p q (c+3 * (i+1)) m':=by
   intro m2 y y0 y1 hp2
   erw [add_tt (slen (by simp; omega))]; ac_nf
   refine Run.ok ⟨_,rfl,h++[y],_,_,_,by rw [List.map_append]; rfl,by simp [hlen],fun j g v hg hv=>?_,hp2.more (by omega)⟩
   rcases Nat.lt_or_ge j h.length with hj | hj
   ·rw [List.getElem?_append_left hj] at hv
    exact hok j g v hg hv
   ·have hj2:=(List.getElem?_eq_some_iff.mp hv).1
    rw [List.length_append] at hj2
    have:j=i:=by have:j < h.length+1:=hj2; omega
    subst this
    rw [e1] at hg
    cases hg
    rw [List.getElem?_append_right hj,hlen,Nat.sub_self] at hv
    cases hv
    exact ⟨y0,y1⟩
  ac_nf; refine Run.bind (zaP hI (by omega) (by omega) (by omega)) ?_; rintro _ m2 ⟨u,rfl,u0,u1,hp2⟩; ac_nf
  by_cases cu:u=0
  ·rw [if_pos cu]; erw [zqs]; erw [zqs]; ac_nf; simp only [Fd.e]; erw [zdf (by omega)]; ac_nf; refine Run.bind (zaP hp2 (by omega) (p2 f.b) (p2lt b1)) ?_; rintro _ m3 ⟨z,rfl,z0,z1,hp3⟩; ac_nf; refine Run.bind (zc3 hp3 (by omega) (by simp) (by simp)) ?_; rintro v m4 ⟨hv,hp4⟩
   have hv':∃ y:Int,v = .int y:=by
    simp only [List.mem_cons,List.not_mem_nil,or_false] at hv
    rcases hv with rfl | rfl | rfl | rfl | rfl <;> exact ⟨_,rfl⟩
   obtain ⟨y,rfl⟩:=hv'
   erw [zdf (by omega)]; erw [zcq (p2 f.b)]
   have:=md2 (x+y) f.b
   simp only [bind_ok,bind_then,then_at,kasg_at,gN_at,nil_at,List.set_cons_succ,List.set_cons_zero,nx_at,seq_nx]
   exact done m4 _ this.1 this.2 ((hI.via (hp2.via (hp3.via hp4))).more (by omega))
  ·rw [if_neg cu]; simp only [bind_ok,bind_then,then_at,kasg_at,gN_at,nil_at,List.set_cons_succ,List.set_cons_zero,nx_at,seq_nx]
   exact done m2 x x0 x1 ((hI.via hp2).more (by omega))
 ·rintro _ m1 ⟨ρ,rfl,h,x5,x6,x7,rfl,hlen,hok,hI⟩
  rw [zd1,Nat.zero_add] at hlen hI
  ac_nf; exact Run.ok ⟨h,rfl,⟨hlen,hok⟩,hI.more (by omega)⟩
end
open PySem L2
open PySem L2
open PySem L2
section
variable {k:Nat} {pt:Pt} {fresh:Nat}
theorem HiV.uniq {f:Fm} {a a':D} (h:HiV pt hs had base fresh hd f a) (h':HiV pt hs had base fresh hd f a'):a=a':=by
 unfold HiV at h h'
 split at h
 ·rename_i c; rw [if_pos c] at h'; rw [h,h']
 ·rename_i c1
  rw [if_neg c1] at h'
  split at h
  ·rename_i c; rw [if_pos c] at h'; rw [h,h']
  ·rename_i c2
   rw [if_neg c2] at h'
   split at h
   ·rename_i c; rw [if_pos c] at h'; rw [h,h']
   ·rename_i c3
    rw [if_neg c3] at h'
    obtain ⟨o,rfl,ho⟩:=h
    obtain ⟨o',rfl,ho'⟩:=h'
    rw [DB.uniq ho ho']
theorem is_hi2 {f:Fm} {a:D} (h:HiV pt hs had base fresh hd f a):∃ b:Bool,isD a .non m = .ok (.bl b) m/\(b=true ↔ a = .non):=by
 rcases h.kind with ⟨s,rfl⟩ | ⟨o,rfl⟩
 ·exact ⟨false,rfl,by simp⟩
 ·match o with
  | none=>exact ⟨true,rfl,by simp [zmD]⟩
  | some (x,y,z)=>exact ⟨false,rfl,by simp [zmD]⟩
def zti (pt:Pt) (hs:List (List Int)) (had base:Option Nat) (fresh:Nat) (hd:List Int) (i:Nat):Prop:=∃ f,pt.fms[i]?=some f/\HiV pt hs had base fresh hd f .non
end
structure St26 (m:Sto) (p q c k l:Nat) (pt:Pt) (hs:List (List Int)) (had base:Option Nat) (fresh:Nat):Prop where
 pr:PrAt m k l pt hs had base fresh
 bx:P3 m p q c m
structure Ne26 (p q k l:Nat):Prop where
 kp:k≠p
 kq:k≠q
 lp:l≠p
 lq:l≠q
variable {sc d2 d4 d5 d6:D}
section
variable {k:Nat} {pt:Pt} {fresh:Nat} {d3:D} {x16:Option D}
theorem St26.box (h:St26 m p q c k l pt hs had base fresh) (n:Ne26 p q k l) (hp:P3 m p q c' m'):St26 m' p q c' k l pt hs had base fresh:=⟨h.pr.fr hp.fr n.kp n.kq n.lp n.lq,hp.re⟩
theorem St26.pre {hs':List (List Int)} {had' base':Option Nat} {fresh':Nat} (h:St26 m p q c k l pt hs had base fresh) (n:Ne26 p q k l) (f:Fr k l m m') (hp:PrAt m' k l pt hs' had' base' fresh'):St26 m' p q c k l pt hs' had' base' fresh':=⟨hp,h.bx.fr2 f n.kp n.kq n.lp n.lq⟩
end
open Classical in
theorem zjB {g:GV} {c:TV} {el:EV} {ρ : En} (I:Sto->Prop) (M:Nat->Prop) (f:Nat->D):∀ (ds:List D) (k:Nat) {m:Sto},I m->(∀ i d m,ds[i]?=some d->I m->∃ ρ1,g d ρ m = .ok ρ1 m/\Run (c ρ1 m) fun b m'=>I m'/\(b=true ↔ M (k+i))/\el ρ1 m' = .ok (f (k+i)) m') →
  Run (zez g c el ρ ds m) fun xs m'=>xs=((List.range' k ds.length).filter fun i=>decide (M i)).map f/\I m'
 | [],k,m,h,_=>⟨[],m,rfl,rfl,h⟩
 | d::r,k,m,h,st=>by
  obtain ⟨ρ1,e1,b,m1,e2,h1,hb,e3⟩:=st 0 d m rfl h
  rw [Nat.add_zero] at hb e3
  obtain ⟨xs,m2,e4,rfl,h2⟩:=zjB I M f r (k+1) h1 fun i d m hd hi=>by
   have:=st (i+1) d m (by simpa using hd) hi
   rw [show k+(i+1)=k+1+i by omega] at this
   exact this
  rw [zez,e1,bind_ok,e2,bind_ok,List.length_cons,List.range'_succ,List.filter_cons]
  cases b with
  | true=>exact ⟨_,m2,by rw [if_pos rfl,e3,bind_ok,e4,bind_ok],by rw [if_pos (decide_eq_true (hb.mp rfl)),List.map_cons],h2⟩
  | false=>exact ⟨_,m2,by rw [if_neg (by decide),e4],by rw [if_neg (by rw [decide_eq_true_eq]; exact fun z=>by have:=hb.mpr z; cases this)],h2⟩
open Classical in
def usL (pt:Pt) (M:Nat->Prop):List Int:=((List.range pt.fms.length).filter fun i=>decide (M i)).map fun i:Nat=>(i:Int)
section
variable {k:Nat} {pt:Pt} {fresh:Nat}
theorem zhh (h:PrAt m k l pt hs had base fresh) (hp:PtOk pt) (hh:HdOk pt.fs hd) (hhs:∀ x∈hs,HdOk pt.fs x) (hl:hs.length<=100000) :
  Run (zb5 [.ob k,zbX hd] m) fun a m'=>a = .tup ((usL pt (zti pt hs had base fresh hd)).map D.int)/\∃ r,m'=m++r:=by
 unfold zb5 zcs; erw [if_pos (h.meth rfl)]; erw [ztg h hp hh]; ac_nf
 have ec:Run (zbR 1 (ziB zj7 (zac (eFn zfO (zac (eOp ixD (zcX "Presser" "pact" (zaf 0)) (eC (.int 2))) zaj)) zaj)) (gN 2) (tV (eOp isD (zbQ "Presser" "hindrance" zaz (zaf 0) (zac (zaf 1) (zac (zaf 2) zaj))) (eC .non))) (zaf 2) [some (.ob k),some (zbX hd)] m) fun xs m'=>xs=(usL pt (zti pt hs had base fresh hd)).map D.int/\∃ r,m'=m++r:=by
  unfold zbR; erw [h.pact]; erw [zfx]; erw [List.length_map,zgi (by omega) (by have:=hp.fml; omega)]; erw [if_pos (by rw [za7]; have:=hp.fml; omega)]
  refine Run.mono (zjB (fun m'=>∃ r,m'=m++r) (zti pt hs had base fresh hd) (fun i:Nat => .int i) _ 0 ⟨[],by simp⟩ ?_) ?_
  ·rintro i d m1 hd1 ⟨r,rfl⟩
   have hi:=(List.getElem?_eq_some_iff.mp hd1).1
   rw [za7] at hi
   have hi':i < pt.fms.length:=by simpa using hi
   have:=ziA hd1
   subst this
   have h1:PrAt (m++r) k l pt hs had base fresh:=h.app
   have hf:=List.getElem?_eq_getElem hi'
   rw [Nat.zero_add]
   refine ⟨[some (.ob k),some (zbX hd),some (.int (i:Nat))],rfl,?_⟩
   erw [if_pos (h1.meth rfl)]; ac_nf; refine Run.bind (zli h1 hp hh hhs hl hf) ?_; rintro a m2 ⟨ha,r2,rfl⟩
   obtain ⟨b,e,hb⟩:=is_hi2 (m:=m++r++r2) ha
   erw [e]
   refine Run.ok ⟨⟨r++r2,by simp⟩,hb.trans ⟨fun z=>⟨_,hf,by rw [<- z]; exact ha⟩,fun ⟨f',hf',ha'⟩=>?_⟩,trivial⟩
   rw [hf] at hf'
   cases hf'
   exact ha.uniq ha'
  ·rintro _ m1 ⟨rfl,r,rfl⟩
   refine ⟨?_,r,rfl⟩
   rw [za7,Int.toNat_natCast,usL,List.map_map,<- List.range_eq_range']
   rfl
 refine Run.bind ec ?_; rintro _ m1 ⟨rfl,r,rfl⟩; ac_nf; exact Run.ok ⟨rfl,r,rfl⟩
end
section
variable {k:Nat} {pt:Pt} {fresh:Nat} {f:Fm}
end
instance (l:List Nat):Decidable (Bin l):=by unfold Bin; infer_instance
variable {h:List D->Sto->Res D} {m2:Sto}
section
variable {fr:AV} {c:TV} {f g:SV} {e:Exc}
theorem puA (q:fa ρ m = .ok d m1):zaw (sPu (zaK fa (gN i))) g ρ m=g (ρ.set i (some d)) m1:=by
 show (Res.pu (Res.bind (fa ρ m) _)).bind _=_
 rw [q]
 rfl
theorem exT {a:D} (q:c ρ m = .ok true m1):zaw (sIf (tPu c) (zni x (aPu (zac (eC a) zaj))) zbL) g ρ m = .exc ⟨x,[]⟩ m1:=by
 show (Res.bind (Res.pu (c ρ m)) _).bind _=_
 rw [q]
 rfl
end
section
variable {pt:Pt} {l:List Nat}
theorem tryX {es:List Str} {fb fs:SV} {c:Exc} (q:fb ρ m = .exc c m1) (hx:(es.contains c.cls && isX c.cls x)=true):zrL es x fb i fs ρ m=(fs (ρ.set i (some (.exn c.cls c.args))) m1).bind fun fl m2 => .ok (zs2 i fl) m2:=by
 unfold zrL; rw [q]
 exact if_pos hx
end
def OkLe (a b:Res α):Prop:=∀ x m,a = .ok x m->b = .ok x m
section
variable {β : Type} {a a' b:Res α} {k k':α -> Sto->Res β}
theorem OkLe.refl:OkLe a a:=fun _ _ h=>h
theorem OkLe.bad:OkLe (.bad:Res α) b:=fun _ _ h=>nomatch h
theorem OkLe.pu (h:OkLe a b):OkLe a b.pu:=fun x m e=>by rw [h x m e]; rfl
theorem OkLe.bind (h:OkLe a a') (hk:∀ x m,OkLe (k x m) (k' x m)):OkLe (a.bind k) (a'.bind k'):=fun y m e=>by
 cases ha:a with
 | ok x m1=>rw [ha] at e; rw [h x m1 ha]; exact hk x m1 y m e
 | exc c m1=>rw [ha] at e; cases e
 | bad=>rw [ha] at e; cases e
end
variable {cn mn:Str}
section
variable {f f' g g':SV} {c:TV} {fr:AV} {h':List D->Sto->Res D}
def SLe (f g:SV):Prop:=∀ ρ m,OkLe (f ρ m) (g ρ m)
theorem SLe.refl:SLe f f:=fun _ _ => .refl
theorem SLe.pu:SLe f (sPu f):=fun _ _=>OkLe.pu .refl
theorem SLe.bad:SLe sBad f:=fun _ _ => .bad
theorem SLe.seq (h1:SLe f f') (h2:SLe g g'):SLe (zaw f g) (zaw f' g'):=fun ρ m=>OkLe.bind (h1 ρ m) fun fl m1=>by
 cases fl with
 | nx ρ1=>exact h2 ρ1 m1
 | rt d=>exact .refl
 | bk ρ1=>exact .refl
 | ct ρ1=>exact .refl
theorem SLe.ife (h1:SLe f f') (h2:SLe g g'):SLe (sIf c f g) (sIf (tPu c) f' g'):=fun ρ m=>OkLe.bind (OkLe.pu .refl) fun b m1=>by
 cases b with
 | true=>exact h1 ρ m1
 | false=>exact h2 ρ m1
theorem SLe.mth (h1:∀ ds m,OkLe (h ds m) (h' ds m)):SLe (zbi (zbQ cn mn h fa fr)) (zbi (zjU cn mn h' fa fr)):=fun ρ m=>OkLe.bind (OkLe.bind (OkLe.pu .refl) fun x m1=>by
 by_cases hi:zdx cn mn x m1=true
 ·rw [if_pos hi,if_pos hi]
  exact OkLe.bind (OkLe.pu .refl) fun ds m2=>h1 _ _
 ·rw [if_neg hi]
  exact .bad) fun _ _ => .refl
theorem SLe.run (h1:SLe f f'):OkLe (zaY n f ds m) (zaY n f' ds m):=OkLe.bind (h1 _ _) fun _ _ => .refl
end
theorem zps (ds:List D) (m:Sto):OkLe (za6 ds m) (zaD ds m):=by
 unfold za6 zaD zcd zbp
 exact SLe.run (SLe.ife .bad .refl)
theorem zp7 (ds:List D) (m:Sto):OkLe (zck ds m) (zaF ds m):=by
 unfold zck zaF zcV za2
 exact SLe.run (SLe.seq (SLe.mth zps) (SLe.seq .pu (SLe.seq (SLe.ife .bad .refl) (SLe.seq .pu (SLe.seq .pu .pu)))))
theorem zlj (ds:List D) (m:Sto):OkLe (zbo ds m) (zap ds m):=by
 unfold zbo zap zb6 za5
 exact SLe.run (SLe.ife (SLe.seq .pu .pu) (SLe.ife .pu .bad))
theorem ziD (ds:List D) (m:Sto):OkLe (zb5 ds m) (zay ds m):=by
 unfold zb5 zay zcs zbx
 exact SLe.run (SLe.seq (SLe.mth zps) .pu)
theorem ztc {c w:Str} (h:(c = "NoHead" /\ w = "head")∨(c = "NoWord" /\ w = "word")∨(c = "NoMore" /\ w = "more")∨(c = "NoLetter" /\ w = "letter")):zb8 [.exn c ds] m = .ok (.str w) m:=by
 rcases h with ⟨rfl,rfl⟩ | ⟨rfl,rfl⟩ | ⟨rfl,rfl⟩ | ⟨rfl,rfl⟩ <;> rfl
variable {m3:Sto}
section
variable {fr:AV} {g:SV} {e:Exc}
theorem zs8 (q1:fa ρ m = .ok d m1) (hi:zdx cn mn d m1=true) (q2:fr ρ m1 = .ok ds m2) (r:h (d::ds) m2 = .exc e m3):zaw (zbi (zjU cn mn h fa fr)) g ρ m = .exc e m3:=by
 show (Res.bind (Res.bind (Res.pu (fa ρ m)) _) _).bind _=_
 rw [q1]
 show (Res.bind (if zdx cn mn d m1=true then _ else _) _).bind _=_
 rw [if_pos hi]
 show (Res.bind (Res.bind (Res.pu (fr ρ m1)) _) _).bind _=_
 rw [q2]
 show (Res.bind (h (d::ds) m2) _).bind _=_
 rw [r]
 rfl
theorem zjA (q1:fa ρ m = .ok d m1) (hi:zdx cn mn d m1=true) (q2:fr ρ m1 = .ok ds m2) (r:h (d::ds) m2 = .exc e m3):zbi (zjU cn mn h fa fr) ρ m = .exc e m3:=by
 show Res.bind (Res.bind (Res.pu (fa ρ m)) _) _=_
 rw [q1]
 show Res.bind (if zdx cn mn d m1=true then _ else _) _=_
 rw [if_pos hi]
 show Res.bind (Res.bind (Res.pu (fr ρ m1)) _) _=_
 rw [q2]
 show Res.bind (h (d::ds) m2) _=_
 rw [r]
 rfl
end
section
variable {k:Nat} {pt:Pt} {fresh:Nat} {a:D}
theorem askX (h:PrAt m k l pt hs had base fresh) (q:zaR [shD pt.fs pt.n,d] m = .ok (.bl false) m):zaD [.ob k,d] m = .exc ⟨"NoHead", []⟩ m:=by
 have e0:zaD [.ob k,d] m=(zbp [some (.ob k),some d] m).bind zgZ:=rfl
 rw [e0]
 unfold zbp
 have ec:(ze9 (tV (eFn zaR (zac (eOp ixD (zcX "Presser" "pact" (zaf 0)) (eC (.int 0))) (zac (zaf 1) zaj))))) [some (.ob k),some d] m = .ok true m:=by
  apply zar
  erw [h.pact]; erw [zeY]; erw [q]; ac_nf; exact Run.ok ⟨rfl,rfl⟩
 show (Res.bind (Res.pu _) _).bind _=_
 rw [ec]
 rfl
theorem pressX (h:PrAt m k l pt hs had base fresh) (q:zaR [shD pt.fs pt.n,d] m = .ok (.bl false) m):zaF [.ob k,d] m = .exc ⟨"NoHead", []⟩ m:=by
 have e0:zaF [.ob k,d] m=(za2 [some (.ob k),some d,none,none] m).bind zgZ:=rfl
 rw [e0]
 unfold za2; rw [zs8 (d := .ob k) (ds:=[d]) (m1:=m) (m2:=m) (m3:=m) rfl (h.meth rfl) rfl (askX h q)]
 rfl
theorem whyX (h:PrAt m k l pt hs had base fresh) (q:zaR [shD pt.fs pt.n,d] m = .ok (.bl false) m):za1 [.ob k,d,a] m = .exc ⟨"NoHead", []⟩ m:=by
 have e0:za1 [.ob k,d,a] m=(zcc [some (.ob k),some d,some a] m).bind zgZ:=rfl
 rw [e0]
 unfold zcc; rw [zs8 (d := .ob k) (ds:=[d]) (m1:=m) (m2:=m) (m3:=m) rfl (h.meth rfl) rfl (askX h q)]
 rfl
theorem zru (h:PrAt m k l pt hs had base fresh) (q:zaR [shD pt.fs pt.n,d] m = .ok (.bl false) m):zay [.ob k,d] m = .exc ⟨"NoHead", []⟩ m:=by
 have e0:zay [.ob k,d] m=(zbx [some (.ob k),some d] m).bind zgZ:=rfl
 rw [e0]
 unfold zbx; rw [zs8 (d := .ob k) (ds:=[d]) (m1:=m) (m2:=m) (m3:=m) rfl (h.meth rfl) rfl (askX h q)]
 rfl
def zhQ:SV:=by walk_at "#vDtMt]tMwnufvDu/t]u/woufvDwpt]y]y^(VtXt]v#v$uf"
theorem zm0 {c w:Str} (hc:(c = "NoHead" /\ w = "head")∨(c = "NoWord" /\ w = "word")∨(c = "NoMore" /\ w = "more")∨(c = "NoLetter" /\ w = "letter")) (q:zhQ [some (.ob k),some (.str z),some d,some a,some (.str ""),none] m = .exc ⟨c,[]⟩ m):zaS [.ob k,.str z,d,a] m = .ok (.str w) m:=by
 have e0:zaS [.ob k,.str z,d,a] m=(zgK [some (.ob k),some (.str z),some d,some a,none,none] m).bind zgZ:=rfl
 rw [e0]
 unfold zgK
 have hx:((["HeadError", "NoHead", "NoLetter", "NoWord", "NoMore"]:List Str).contains c && isX c "HeadError")=true:=by
  rcases hc with ⟨rfl,_⟩ | ⟨rfl,_⟩ | ⟨rfl,_⟩ | ⟨rfl,_⟩ <;> decide
 have et:=tryX (es:=["HeadError", "NoHead", "NoLetter", "NoWord", "NoMore"]) (x := "HeadError") (fb:=zhQ) (i:=5) (fs:=zaK (eFn zb8 (zac (zaf 5) zaj)) (gN 4)) q hx
 have ef:(zaK (eFn zb8 (zac (zaf 5) zaj)) (gN 4)) [some (.ob k),some (.str z),some d,some a,some (.str ""),some (.exn c [])] m = .ok (.nx [some (.ob k),some (.str z),some d,some a,some (.str w),some (.exn c [])]) m:=by
  show Res.bind (zb8 [.exn c []] m) _=_
  rw [ztc hc]
  rfl
 show Res.bind (zaw (zrL _ _ zhQ _ _) _ [some (.ob k),some (.str z),some d,some a,some (.str ""),none] m) zgZ=_
 show Res.bind (Res.bind (zrL _ _ zhQ _ _ [some (.ob k),some (.str z),some d,some a,some (.str ""),none] m) _) zgZ=_
 rw [et]
 show Res.bind (Res.bind (Res.bind ((zaK (eFn zb8 (zac (zaf 5) zaj)) (gN 4)) [some (.ob k),some (.str z),some d,some a,some (.str ""),some (.exn c [])] m) _) _) zgZ=_
 rw [ef]
 rfl
theorem zlT (h:PrAt m k l pt hs had base fresh) (q:zaR [shD pt.fs pt.n,d] m = .ok (.bl false) m):zaS [.ob k,.str "press", d,a] m = .ok (.str "head") m :=
 zm0 (.inl ⟨rfl,rfl⟩) (zjA (d := .ob k) (ds:=[d]) (m1:=m) (m2:=m) rfl (h.meth rfl) rfl (pressX h q))
theorem zpI (h:PrAt m k l pt hs had base fresh) (q:zaR [shD pt.fs pt.n,d] m = .ok (.bl false) m):zaS [.ob k,.str "use", d,a] m = .ok (.str "head") m :=
 zm0 (.inl ⟨rfl,rfl⟩) (zjA (d := .ob k) (ds:=[d]) (m1:=m) (m2:=m) rfl (h.meth rfl) rfl (zru h q))
theorem zpG (h:PrAt m k l pt hs had base fresh) (q:zaR [shD pt.fs pt.n,d] m = .ok (.bl false) m):zaS [.ob k,.str "why", d,a] m = .ok (.str "head") m :=
 zm0 (.inl ⟨rfl,rfl⟩) (zjA (d := .ob k) (ds:=[d,a]) (m1:=m) (m2:=m) rfl (h.meth rfl) rfl (whyX h q))
end
theorem ifPF {c:TV} {f g:SV} (q:c ρ m = .ok false m1):sIf (tPu c) f g ρ m=g ρ m1:=by
 show Res.bind (Res.pu (c ρ m)) _=_
 rw [q]
 rfl
section
variable {k:Nat} {pt:Pt} {fresh:Nat} {a:D}
theorem zfi (h1:zaM [d,.str "anew", .int 1] m = .ok (.bl false) m) (h2:zaM [d,.str "have", .int 2] m = .ok (.bl false) m):zap [.ob k,d] m = .exc ⟨"NoWord", []⟩ m:=by
 have e0:zap [.ob k,d] m=(za5 [some (.ob k),some d] m).bind zgZ:=rfl
 rw [e0]
 unfold za5
 have ec:(tV (eFn zaM (zac (zaf 1) (zac (eC (.str "anew")) (zac (eC (.int 1)) zaj))))) [some (.ob k),some d] m = .ok false m:=by
  apply zar
  erw [h1]; ac_nf; exact Run.ok ⟨rfl,rfl⟩
 have ed:(zej (tV (eFn zaM (zac (zaf 1) (zac (eC (.str "have")) (zac (eC (.int 2)) zaj))))) (tV (eFn zaQ (zac (eOp ixD (zaf 1) (eC (.int 1))) (zac (eC (.int 0)) (zac (eOp zeC (zbQ "Presser" "sent" zak (zaf 0) zaj) (eC (.int 1))) zaj)))))) [some (.ob k),some d] m = .ok false m:=by
  apply zar
  erw [h2]; ac_nf; exact Run.ok ⟨rfl,rfl⟩
 rw [ifPF ec,ifPF ed]
 rfl
theorem zev (h:PrAt m k l pt hs had base fresh) (q:zaQ [d,.int 0,.int ((hs.length:Int) - 1)] m = .ok (.bl false) m):zap [.ob k,.tup [.str "have", d]] m = .exc ⟨"NoWord", []⟩ m:=by
 have e0:zap [.ob k,.tup [.str "have", d]] m=(za5 [some (.ob k),some (.tup [.str "have", d])] m).bind zgZ:=rfl
 rw [e0]
 unfold za5
 have ec:(tV (eFn zaM (zac (zaf 1) (zac (eC (.str "anew")) (zac (eC (.int 1)) zaj))))) [some (.ob k),some (.tup [.str "have", d])] m = .ok false m:=by
  apply zar
  erw [zde,decide_eq_false (by rintro ⟨z,_⟩; simp at z)]; ac_nf; exact Run.ok ⟨rfl,rfl⟩
 have ed:(zej (tV (eFn zaM (zac (zaf 1) (zac (eC (.str "have")) (zac (eC (.int 2)) zaj))))) (tV (eFn zaQ (zac (eOp ixD (zaf 1) (eC (.int 1))) (zac (eC (.int 0)) (zac (eOp zeC (zbQ "Presser" "sent" zak (zaf 0) zaj) (eC (.int 1))) zaj)))))) [some (.ob k),some (.tup [.str "have", d])] m = .ok false m:=by
  apply zar
  erw [zde,decide_eq_true ⟨rfl,rfl⟩]; erw [if_pos (h.meth rfl)]; erw [zcF h]; erw [q]; ac_nf; exact Run.ok ⟨rfl,rfl⟩
 rw [ifPF ec,ifPF ed]
 rfl
theorem zlU (h:PrAt m k l pt hs had base fresh) (q:zap [.ob k,d] m = .exc ⟨"NoWord", []⟩ m):zaS [.ob k,.str "heard", d,a] m = .ok (.str "word") m :=
 zm0 (.inr (.inl ⟨rfl,rfl⟩)) (zjA (d := .ob k) (ds:=[d]) (m1:=m) (m2:=m) rfl (h.meth rfl) rfl q)
end
def wd32 (n r:Nat):List D:=[.tup [.str "have", .int n],.tup [.str "have", .int (-1)],.tup [.str "have", .bl true],.tup [.str "have"],.tup [.str "have", .int 0,.int 0],.tup [.str "have", .non],.tup [.str "have", .str "0"],.tup [.str "anew", .int 0],.tup [.str "anew", .non],.lst [.str "anew"],.lst [.str "have", .int 0],.str "anew", .str "have", .tup [],.non,.ob r,.int 0,.bl true,.tup [.str "had", .int 0],.tup [.tup [.str "anew"]],.tup [.non],.tup [.int 0,.str "have"],.tup [.str "have", .tup [.int 0]],.tup [.str "have", .int 10000000000000000000000000]]
theorem zsh:zia (.int 10) (.int 25) m = .ok (.int 10000000000000000000000000) m:=by
 rw [zeo]
 have e:zp9 (.int 10) (.int 25) m=if (0:Int)<=25/\(25:Int)<=1000000/\(10:Int).natAbs < 2 ^ 64 then .ok (.int ((10:Int) ^ (25:Int).toNat)) m else .bad:=rfl
 rw [e,if_pos (by decide)]
 rfl
theorem zrq:zbZ [.int n] m = .ok (.lst (wd32 n m.length)) (m++[.dct []]):=by
 have ep:(eOp zia (eC (.int 10)) (eC (.int 25)))=eC (.int 10000000000000000000000000):=by
  funext ρ m
  exact zsh
 unfold zbZ zfA; rw [ep]
 rfl
section
variable {k:Nat} {pt:Pt} {fresh:Nat}
theorem zqq (h:PrAt m k l pt hs had base fresh) (hl:hs.length<=100000) (hr:m[r]?=some (.dct [])):∀ d∈wd32 hs.length r,zap [.ob k,d] m = .exc ⟨"NoWord", []⟩ m:=by
 have wn:∀ {d:D},zio "tuple" d m = .ok (.bl false) m->zap [.ob k,d] m = .exc ⟨"NoWord", []⟩ m:=fun {d} hd =>
  zfi (zcZ (zj6 hd)) (zcZ (zj6 hd))
 have wt:∀ {s:Str} {xs:List D},¬ (s = "anew" /\ xs.length=0) -> ¬ (s = "have" /\ xs.length=1)->zap [.ob k,.tup (.str s::xs)] m = .exc ⟨"NoWord", []⟩ m:=fun {s xs} a b =>
  zfi (by rw [zde,decide_eq_false fun z=>a ⟨z.2,by omega⟩]) (by rw [zde,decide_eq_false fun z=>b ⟨z.2,by omega⟩])
 intro d hd
 simp only [wd32,List.mem_cons,List.not_mem_nil,or_false] at hd
 rcases hd with rfl | rfl | rfl | rfl | rfl | rfl | rfl | rfl | rfl | rfl | rfl | rfl | rfl | rfl | rfl | rfl | rfl | rfl | rfl | rfl | rfl | rfl | rfl | rfl
 ·exact zev h (zeB (by omega))
 ·exact zev h (zeB (by omega))
 ·exact zev h (zcz wn_b)
 ·exact wt (by decide) (by decide)
 ·exact wt (by decide) (by simp)
 ·exact zev h (zcz wn_n)
 ·exact zev h (zcz wn_s)
 ·exact wt (by simp) (by decide)
 ·exact wt (by simp) (by decide)
 ·exact wn rfl
 ·exact wn rfl
 ·exact wn rfl
 ·exact wn rfl
 ·exact zfi (zcZ (by rw [zeu]; rfl)) (zcZ (by rw [zeu]; rfl))
 ·exact wn rfl
 ·exact wn (by simp [zio,tyN,hr]; rfl)
 ·exact wn rfl
 ·exact wn rfl
 ·exact wt (by decide) (by decide)
 ·exact zfi (zc0 rfl) (zc0 rfl)
 ·exact zfi (zc0 rfl) (zc0 rfl)
 ·exact zfi (zc0 rfl) (zc0 rfl)
 ·exact zev h (zcz wn_t)
 ·exact zev h (zeB (by omega))
end
theorem zlk {fs:List Fd} {n:Int} (hs:∀ (i:Nat) (f:Fd),fs[i]?=some f->f.b<=40) (hn:fs.length<=12) (hx:∀ x∈xs,Pl x):zaR [shD fs n,.tup xs] m = .ok (.bl (zs7 fs (.tup xs))) m:=by
 apply zar
 unfold zaR zf8; erw [zar (zcR (by omega))]; erw [zeu]; erw [List.length_map]
 by_cases hl:xs.length=fs.length
 ·rw [decide_eq_true (by omega)]; ac_nf
  rw [zbt (ds:=zeD xs (fs.map fun f=>D.int f.b)) fZ (by
   ac_nf; simp only [zmP]
   rw [if_pos (by simp [hl])]) (by rw [zcY (by simp [hl])]; omega) (by
   intro d hd
   obtain ⟨i,hi⟩:=List.mem_iff_getElem?.mp hd
   obtain ⟨x,y,h1,h2,rfl⟩:=zjV hi
   rw [List.getElem?_map] at h2
   obtain ⟨f,h4,rfl⟩:=Option.map_eq_some_iff.mp h2
   have hb1:=hs i f h4
   refine ⟨_,rfl,?_⟩
   show zb7 [x,.int f.b] m=_
   exact zkx (hx x (List.mem_of_getElem? h1)) (by omega)),zz_b]
  erw [zpw]; ac_nf; exact Run.ok ⟨by simp [zs7,hl],rfl⟩
 ·rw [decide_eq_false (by omega)]; ac_nf; exact Run.ok ⟨by simp [zs7,hl],rfl⟩
theorem zrh {fs:List Fd} {x:D} (hf:fs[i]?=some f) (hx:xs[i]?=some x) (h:okV x f.b=false):zs7 fs (.tup xs)=false:=by
 have e:(zz xs fs)[i]?=some false:=by
  unfold zz; rw [List.getElem?_zipWith,hx,hf]
  exact congrArg some h
 have:(zz xs fs).all id=false:=by
  rw [Bool.eq_false_iff]
  intro z
  have:=List.all_eq_true.mp z false (List.mem_of_getElem? e)
  cases this
 simp [zs7,this]
theorem zo3 {fs:List Fd} (h:xs.length≠fs.length):zs7 fs (.tup xs)=false:=by simp [zs7,h]
def hdW (hd:List Int) (i:Nat) (x:D):D := .tup ((hd.map D.int).take i++[x]++(hd.map D.int).drop (i+1))
def hd32 (hd:List Int) (b i r:Nat):List D:=([.int (2 ^ b),.int (-1),.bl true,.non,.str "0", .tup [.int 0],.int 100000000000000000000]:List D).map (hdW hd i)++[.tup (hd.map D.int++[.int 0]),.tup ((hd.map D.int).drop 1),.lst (hd.map D.int),.non,.ob r,.int 7,.str "head", .lst [zbX hd],.tup [zbX hd]]
theorem zqr {fs:List Fd} {n:Int} (hs:∀ (i:Nat) (f:Fd),fs[i]?=some f->f.b<=40) (hn:fs.length<=12) (hf:fs[i]?=some f) (hl:hd.length=fs.length) (hr:m[r]?=some (.dct [])):∀ d∈hd32 hd f.b i r,zaR [shD fs n,d] m = .ok (.bl false) m:=by
 have hi:i < fs.length:=(List.getElem?_eq_some_iff.mp hf).1
 have pI:∀ x∈hd.map D.int,Pl x:=fun x hx=>by
  obtain ⟨v,_,rfl⟩:=List.mem_map.mp hx
  trivial
 have w1:∀ {x:D},Pl x->okV x f.b=false->zaR [shD fs n,hdW hd i x] m = .ok (.bl false) m:=fun {x} px hx=>by
  unfold hdW
  rw [zlk hs hn (fun y hy=>by
   rcases List.mem_append.mp hy with hy | hy
   ·rcases List.mem_append.mp hy with hy | hy
    ·exact pI y (List.mem_of_mem_take hy)
    ·cases List.mem_singleton.mp hy; exact px
   ·exact pI y (List.mem_of_mem_drop hy))]
  rw [zrh hf (x:=x) (by
   rw [List.append_assoc,List.getElem?_append_right (by simp; omega)]
   have:i - (List.take i (hd.map D.int)).length=0:=by simp; omega
   rw [this]
   rfl) hx]
 have hp:(2:Int) ^ f.b < 100000000000000000000:=by
  have:f.b<=40:=hs i f hf
  have h2:(2:Int) ^ f.b<=2 ^ 40:=by
   have:(2:Nat) ^ f.b<=2 ^ 40:=Nat.pow_le_pow_right (by decide) this
   exact_mod_cast this
  have h3:(2:Int) ^ 40 < 100000000000000000000:=by decide
  omega
 intro d hd'
 unfold hd32 at hd'
 rcases List.mem_append.mp hd' with hd' | hd'
 ·simp only [List.map_cons,List.map_nil,List.mem_cons,List.not_mem_nil,or_false] at hd'
  rcases hd' with rfl | rfl | rfl | rfl | rfl | rfl | rfl
  ·exact w1 trivial (by simp [okV])
  ·exact w1 trivial (by simp [okV])
  ·exact w1 trivial rfl
  ·exact w1 trivial rfl
  ·exact w1 trivial rfl
  ·exact w1 trivial rfl
  ·exact w1 trivial (by simp only [okV,decide_eq_false_iff_not]; omega)
 ·simp only [List.mem_cons,List.not_mem_nil,or_false] at hd'
  rcases hd' with rfl | rfl | rfl | rfl | rfl | rfl | rfl | rfl | rfl
  ·rw [zlk hs hn (fun y hy=>by
    rcases List.mem_append.mp hy with hy | hy
    ·exact pI y hy
    ·cases List.mem_singleton.mp hy; trivial),zo3 (by simp; omega)]
  ·rw [zlk hs hn (fun y hy=>pI y (List.mem_of_mem_drop hy)),zo3 (by simp; omega)]
  ·exact zhu hn rfl
  ·exact zhu hn rfl
  ·exact zhu hn (by simp [zio,tyN,hr]; rfl)
  ·exact zhu hn rfl
  ·exact zhu hn rfl
  ·exact zhu hn rfl
  ·rw [zlk hs hn (fun y hy=>by cases List.mem_singleton.mp hy; trivial)]
   have h0:0 < fs.length:=by omega
   rw [zrh (i:=0) (List.getElem?_eq_getElem h0) (x:=zbX hd) rfl rfl]
theorem dropO {fr:AV} {g:SV} {d':D} (q1:fa ρ m = .ok d m1) (hi:zdx cn mn d m1=true) (q2:fr ρ m1 = .ok ds m2) (r:h (d::ds) m2 = .ok d' m3):zaw (zbi (zjU cn mn h fa fr)) g ρ m=g ρ m3:=by
 show (Res.bind (Res.bind (Res.pu (fa ρ m)) _) _).bind _=_
 rw [q1]
 show (Res.bind (if zdx cn mn d m1=true then _ else _) _).bind _=_
 rw [if_pos hi]
 show (Res.bind (Res.bind (Res.pu (fr ρ m1)) _) _).bind _=_
 rw [q2]
 show (Res.bind (h (d::ds) m2) _).bind _=_
 rw [r]
 rfl
section
variable {k:Nat} {pt:Pt} {fresh:Nat} {a:D}
theorem pressM (h:PrAt m k l pt hs had base fresh) (hp:PtOk pt) (hh:HdOk pt.fs hd) (hw:(hs.length:Int)=2 ^ pt.wide):zaF [.ob k,zbX hd] m = .exc ⟨"NoMore", []⟩ m:=by
 have e0:zaF [.ob k,zbX hd] m=(za2 [some (.ob k),some (zbX hd),none,none] m).bind zgZ:=rfl
 rw [e0]
 unfold za2; rw [dropO (d := .ob k) (ds:=[zbX hd]) (m1:=m) (m2:=m) (m3:=m) rfl (h.meth rfl) rfl (zps _ _ _ _ (ztg h hp hh))]
 rw [puA (d := .int hs.length) (m1:=m) (by
  apply zar
  erw [if_pos (h.meth rfl)]; erw [zcF h]
  exact Run.ok ⟨rfl,rfl⟩)]
 rw [exT (m1:=m) (by
  apply zar
  erw [h.pact]; erw [zjc]; erw [zdf (by have:=hp.w1; omega)]; ac_nf
  exact Run.ok ⟨decide_eq_true hw,rfl⟩)]
 rfl
theorem zmZ (h:PrAt m k l pt hs had base fresh) (hp:PtOk pt) (hh:HdOk pt.fs hd) (hw:(hs.length:Int)=2 ^ pt.wide):zaS [.ob k,.str "press", zbX hd,a] m = .ok (.str "more") m :=
 zm0 (.inr (.inr (.inl ⟨rfl,rfl⟩))) (zjA (d := .ob k) (ds:=[zbX hd]) (m1:=m) (m2:=m) rfl (h.meth rfl) rfl (pressM h hp hh hw))
end
theorem dict0:zhe [] ρ m = .ok (.ob m.length) (m++[.dct []]):=rfl
theorem zsX (h:ds.length<=1000):zcW ds m = .ok (.lst ds) m:=if_pos (Nat.le_trans h (by decide))
theorem zkn {fs:List Fd} {n:Int} (hp:P3 m0 p q c m) (hc:c < 2 ^ 40) (hs:∀ (i:Nat) (f:Fd),fs[i]?=some f->f.b<=40) (hn:fs.length<=12) (h0:0 < fs.length) (hl:hd.length=fs.length) :
  Run (zb0 [.ob p,zbX hd,shD fs n] m) fun a m'=>∃ (i r:Nat) (f:Fd),fs[i]?=some f/\a = .lst (hd32 hd f.b i r)/\m'[r]?=some (.dct [])/\P3 m p q (c+1) m':=by
 unfold zb0 zfB; erw [show zfO [zbX hd] m = .ok (.int hd.length) m by simp [zfO,zbX]]; ac_nf; refine Run.bind (zaP hp hc (by omega) (by omega)) ?_; rintro _ m1 ⟨x,rfl,x0,x1,h1⟩
 obtain ⟨i,rfl⟩:=Int.eq_ofNat_of_zero_le x0
 have hi:i < fs.length:=by omega
 have hf:=List.getElem?_eq_getElem hi
 erw [show ixD (shD fs n) (.int 0) m1 = .ok (.tup (fs.map Fd.e)) m1 from ix_t0 _ _]; erw [zjd hf]; erw [zdf (by have:=hs i _ hf; omega)]; erw [neg_1]; erw [zsi]; erw [zsX (by simp)]; ac_nf
 have hlm:(hd.map D.int).length=fs.length:=by rw [List.length_map,hl]
 rw [zbt (ds:=[.int (2 ^ fs[i].b),.int (-1),.bl true,.non,.str "0", .tup [.int 0],.int 100000000000000000000]) (hdW hd i) rfl (by simp) (by
  intro d _
  refine ⟨_,rfl,?_⟩
  apply zar
  ac_nf
  unfold zbX; rw [zrG (by omega)]; ac_nf
  have h12:(hd.map D.int).length<=12:=by omega
  rw [zqT (by rw [List.length_take]; simp only [List.length_cons,List.length_nil]; exact Nat.le_trans (show _<=13 by omega) (by decide))]; erw [show ((i:Int)+1)=((i+1:Nat):Int) by omega,zm7 (by omega) (by omega)]; ac_nf
  rw [zqT (by
   simp only [List.length_append,List.length_take,List.length_drop,List.length_cons,List.length_nil]
   exact Nat.le_trans (show _<=1000 by omega) (by decide))]
  exact Run.ok ⟨rfl,rfl⟩)]
 ac_nf
 rw [show zbj (zbX hd) (.tup [.int 0]) m1 = .ok (.tup (hd.map D.int++[.int 0])) m1 from zqT (by
  simp only [List.length_cons,List.length_nil]
  exact Nat.le_trans (show _<=1000 by omega) (by decide))]
 erw [show slD (zbX hd) (some 1) none m1 = .ok (.tup ((hd.map D.int).drop 1)) m1 from zm7 (k:=1) (by decide) (by omega)]; erw [show lstF [zbX hd] m1 = .ok (.lst (hd.map D.int)) m1 from rfl]; erw [dict0]; erw [zsX (by simp)]; erw [zsX (by simp)]; erw [add_ll (by simp)]; ac_nf; exact Run.ok ⟨i,m1.length,fs[i],hf,rfl,by simp,h1.app⟩
def ziS:SV:=by walk_at "#[xsvzuS&trtMcyaw3t~xE1txt(tZu!vCvC!nw1+uVtTuCw;I6E0v?t8t|ItD!vFvAwpt(uA!Mtmn"
def ziR:SV:=by walk_at "#rvFvAu/t(tZMxXn"
def zqQ:EV:=by walk_at "#tD/u7vExYxZvEwgwh$w8"
theorem zfP:zfz=(zaw (zaK zqQ (gN 4))
 (zaw (zh6 (aIt (eFn zb0 (zac (zaf 0) (zac (zaf 3) (zac (eOp ixD (zaf 2) (eC (.int 0))) zaj))))) (gN 5) ziS)
 (zaw (zh6 (aIt (eFn zbZ (zac (zbQ "Presser" "sent" zak (zaf 1) zaj) zaj))) (gN 5) ziR)
 (zaL (eOp eqD zqQ (zaf 4)))))):=rfl
variable {x0 x2 x3 x4 x5 x6:Option D}
section
variable {k:Nat} {pt:Pt} {fresh:Nat}
def bfD (hs:List (List Int)) (had base:Option Nat) (fresh:Nat):D := .tup [.int hs.length,.tup [onD had,onD base,.int fresh],.tup ((fmL hs 40).map fmE)]
theorem bef_w (h:PrAt m k l pt hs had base fresh) (hl:hs.length<=100000):zqQ [x0,some (.ob k),x2,x3,x4,x5,x6] m = .ok (bfD hs had base fresh) m:=by
 apply zar
 unfold zqQ; erw [if_pos (h.meth rfl)]; erw [zcF h]; erw [if_pos (h.meth rfl)]; erw [zsP h]; erw [if_pos (h.meth rfl)]; erw [show (40:Int)=((40:Nat):Int) from rfl,zjs h (by decide) hl]; ac_nf; exact Run.ok ⟨rfl,rfl⟩
theorem refB (h:PrAt m k l pt hs had base fresh) (q:zap [.ob k,d] m = .exc ⟨"NoWord", []⟩ m):ziR [x0,some (.ob k),x2,x3,x4,some d,x6] m = .ok (.nx [x0,some (.ob k),x2,x3,x4,some d,x6]) m:=by
 apply zar
 unfold ziR; erw [zlU h q]; ac_nf; exact Run.ok ⟨rfl,rfl⟩
theorem eqB_hh:eqB (.lst [.str "head", .str "head"]) (.lst [.str "head", .str "head"])=some true:=by
 show (if deep (.lst [.str "head", .str "head"]) && deep (.lst [.str "head", .str "head"]) then some (PyData.eqv (py (.lst [.str "head", .str "head"])) (py (.lst [.str "head", .str "head"]))) else none)=_
 rw [show deep (.lst [.str "head", .str "head"])=true by
  have hk:PyData.strOk (Str.ofString "head")=true:=by decide +kernel
  simp [deep,zeR,pyOkL,py,pyL,SeqAt.shaped,PyData.canLay0,PyData.canLayAll0,PyData.depth,PyData.depthAll,hk]]
 simp [py,pyL,PyData.eqv,PyData.eqvAll]
theorem ne_hh:neD (.lst [.str "head", .str "head"]) (.lst [.str "head", .str "head"]) m = .ok (.bl false) m:=by simp only [neD,rs,eqB_hh]; rfl
theorem refA (hp:P3 m p q c m) (hc:c < 2 ^ 40) (h:PrAt m k l pt hs had base fresh) (hk:PtOk pt) (hkp:k≠p) (hkq:k≠q) (hlp:l≠p) (hlq:l≠q) (hd:∀ m':Sto,P3 m p q (c+1) m'->zaR [shD pt.fs pt.n,d] m' = .ok (.bl false) m') (hd0:zaR [shD pt.fs pt.n,d] m = .ok (.bl false) m) (hβ : ∀ m:Sto,neD (.tup (pt.fms.map Fm.e)) (.tup []) m = .ok (.bl β) m) :
  Run (ziS [some (.ob p),some (.ob k),some pt.e,x3,x4,some d,x6] m) fun fl m'=>(∃ y6,fl = .nx [some (.ob p),some (.ob k),some pt.e,x3,x4,some d,y6])/\P3 m p q (c+1) m':=by
 unfold ziS; ac_nf
 rw [zbt (ds:=[.str "press", .str "use"]) (fun _ => .str "head") rfl (by decide) (by
  intro d' hd'
  simp only [List.mem_cons,List.not_mem_nil,or_false] at hd'
  rcases hd' with rfl | rfl
  ·exact ⟨_,rfl,zlT h hd0⟩
  ·exact ⟨_,rfl,zpI h hd0⟩)]
 erw [show neD (.lst [.str "head", .str "head"]) (.lst [.str "head", .str "head"]) m = .ok (.bl false) m from ne_hh]; erw [zfx]; erw [List.length_map]
 have hfl:=hk.fml
 refine Run.bind (zaP hp hc (by split <;> omega) (by split <;> omega)) ?_
 rintro _ m1 ⟨x,rfl,x0,x1,h1⟩
 have hA:PrAt m1 k l pt hs had base fresh:=h.fr h1.fr hkp hkq hlp hlq
 erw [zfx]; erw [hβ]; ac_nf
 cases β with
 | false =>
  ac_nf; exact Run.ok ⟨⟨_,rfl⟩,h1⟩
 | true =>
  erw [zpG hA (hd m1 h1)]; ac_nf; exact Run.ok ⟨⟨_,rfl⟩,h1⟩
end
section
variable {k:Nat} {pt:Pt} {fresh:Nat}
theorem P3.apart (h:P3 m0 p q c m) (hr:m[r]?=some (.dct [])):r≠p/\r≠q:=by
 obtain ⟨own,s,t,h1,h2,_⟩:=h.ex
 constructor
 ·rintro rfl
  rw [h1] at hr
  cases hr
 ·rintro rfl
  rw [h2] at hr
  cases hr
theorem zmx (hp:P3 m p q c m) (hc:c+xs.length < 2 ^ 40) (h:PrAt m k l pt hs had base fresh) (hk:PtOk pt) (hkp:k≠p) (hkq:k≠q) (hlp:l≠p) (hlq:l≠q) (hr:m[r]?=some (.dct [])) (hx:∀ d∈xs,∀ m':Sto,m'[r]?=some (.dct [])->zaR [shD pt.fs pt.n,d] m' = .ok (.bl false) m')
 (hβ : ∀ m:Sto,neD (.tup (pt.fms.map Fm.e)) (.tup []) m = .ok (.bl β) m) :
  Run (zd4 (gN 5) ziS xs [some (.ob p),some (.ob k),some pt.e,x3,x4,x5,x6] m) fun fl m'=>(∃ y5 y6,fl = .nx [some (.ob p),some (.ob k),some pt.e,x3,x4,y5,y6])/\P3 m p q (c+xs.length) m':=by
 obtain ⟨hrp,hrq⟩:=hp.apart hr
 refine Run.mono (zbw (fun j ρ m'=>(∃ y5 y6,ρ = [some (.ob p),some (.ob k),some pt.e,x3,x4,y5,y6])/\P3 m p q (c+j) m') xs 0 ⟨⟨_,_,rfl⟩,hp⟩ ?_) ?_
 ·rintro i d ρ m' hd ⟨⟨y5,y6,rfl⟩,hp'⟩
  rw [Nat.zero_add] at hp' ⊢
  have hi:=(List.getElem?_eq_some_iff.mp hd).1
  have hm:=List.mem_of_getElem? hd
  have h':PrAt m' k l pt hs had base fresh:=h.fr hp'.fr hkp hkq hlp hlq
  have hr':m'[r]?=some (.dct []):=hp'.kept hr hrp hrq
  show Run (ziS [some (.ob p),some (.ob k),some pt.e,x3,x4,some d,y6] m') _
  refine Run.mono (refA hp'.re (by omega) h' hk hkp hkq hlp hlq (fun m2 h2=>hx d hm m2 (h2.kept hr' hrp hrq)) (hx d hm m' hr') hβ) ?_
  rintro _ m2 ⟨⟨y6',rfl⟩,h2⟩
  exact ⟨_,rfl,⟨_,_,rfl⟩,hp'.via h2⟩
 ·rintro _ m' ⟨ρ,rfl,⟨y5,y6,rfl⟩,hp'⟩
  rw [Nat.zero_add] at hp'
  exact ⟨⟨_,_,rfl⟩,hp'⟩
theorem zlN (h:PrAt m k l pt hs had base fresh) (hx:∀ d∈xs,zap [.ob k,d] m = .exc ⟨"NoWord", []⟩ m) :
  Run (zd4 (gN 5) ziR xs [x0,some (.ob k),x2,x3,x4,x5,x6] m) fun fl m'=>(∃ y5,fl = .nx [x0,some (.ob k),x2,x3,x4,y5,x6])/\m'=m:=by
 refine Run.mono (zbw (fun j ρ m'=>(∃ y5,ρ = [x0,some (.ob k),x2,x3,x4,y5,x6])/\m'=m) xs 0 ⟨⟨_,rfl⟩,rfl⟩ ?_) ?_
 ·rintro i d ρ m' hd ⟨⟨y5,rfl⟩,rfl⟩
  show Run (ziR [x0,some (.ob k),x2,x3,x4,some d,x6] m') _
  rw [refB h (hx d (List.mem_of_getElem? hd))]; exact Run.ok ⟨_,rfl,⟨_,rfl⟩,rfl⟩
 ·rintro _ m' ⟨ρ,rfl,⟨y5,rfl⟩,rfl⟩
  exact ⟨⟨_,rfl⟩,rfl⟩
end
section
variable {k:Nat} {pt:Pt} {fresh:Nat}
theorem zj8 (hp:P3 m p q c m) (hc:c < 2 ^ 39) (h:PrAt m k l pt hs had base fresh) (hk:PtOk pt) (hkp:k≠p) (hkq:k≠q) (hlp:l≠p) (hlq:l≠q) (hb:∀ (i:Nat) (f:Fd),pt.fs[i]?=some f->f.b<=40) (hn:pt.fs.length<=12) (h0:0 < pt.fs.length) (hl:hd.length=pt.fs.length) (hlen:hs.length<=100000)
 (hβ : ∀ m:Sto,neD (.tup (pt.fms.map Fm.e)) (.tup []) m = .ok (.bl β) m) (heq:∀ m:Sto,eqD (bfD hs had base fresh) (bfD hs had base fresh) m = .ok (.bl true) m) :
  Run (zba [.ob p,.ob k,pt.e,zbX hd] m) fun a m'=>a = .bl true/\P3 m p q (c+17) m':=by
 unfold zba; rw [zfP]; erw [bef_w h hlen]; erw [zeY]; ac_nf; refine Run.bind (zkn hp (by omega) hb hn h0 hl) ?_; rintro _ m1 ⟨i,r,f,hf,rfl,hr,h1⟩
 obtain ⟨xs,ex,hx,hxl⟩:∃ xs,hd32 hd f.b i r=xs/\(∀ d∈xs,∀ m':Sto,m'[r]?=some (.dct [])->zaR [shD pt.fs pt.n,d] m' = .ok (.bl false) m')/\xs.length=16 :=
  ⟨_,rfl,fun d hd' m' hr'=>zqr hb hn hf hl hr' d hd',rfl⟩
 rw [ex]
 have hA:PrAt m1 k l pt hs had base fresh:=h.fr h1.fr hkp hkq hlp hlq
 ac_nf; refine Run.bind (zmx h1.re (by omega) hA hk hkp hkq hlp hlq hr hx hβ) ?_; rintro _ m2 ⟨⟨y5,y6,rfl⟩,h2⟩
 have hB:PrAt m2 k l pt hs had base fresh:=hA.fr h2.fr hkp hkq hlp hlq
 erw [if_pos (hB.meth rfl)]; erw [zcF hB]; erw [zrq]
 have hC:PrAt (m2++[MO.dct []]) k l pt hs had base fresh:=hB.app
 have hD:(m2++[MO.dct []])[m2.length]?=some (MO.dct []):=by simp
 have hw:=zqq hC hlen hD
 generalize wd32 hs.length m2.length=ws at hw ⊢; ac_nf; refine Run.bind (zlN hC hw) ?_; rintro _ _ ⟨⟨z5,rfl⟩,rfl⟩; erw [bef_w hC hlen]; erw [heq]; ac_nf
 have h3:=(h1.via h2).app (r:=[MO.dct []])
 exact Run.ok ⟨rfl,h3.more (by omega)⟩
end
open PySem L2
open PySem L2
structure Dq (k:Nat) (d:D):Prop where
 ok:zeR d=true
 ly:(py d).canLay0=true
 dp:(py d).depth<=k
theorem Dq.all {k:Nat}:∀ {xs:List D},(∀ x∈xs,Dq k x)->pyOkL xs=true/\PyData.canLayAll0 (pyL xs)=true/\PyData.depthAll (pyL xs)<=k
 | [],_=>⟨by simp [pyOkL],by simp [pyL,PyData.canLayAll0],by simp [pyL,PyData.depthAll]⟩
 | x::r,h=>by
  obtain ⟨a,b,c⟩:=Dq.all fun y hy=>h y (List.mem_cons_of_mem _ hy)
  have hx:=h x (by simp)
  refine ⟨by simp [pyOkL,hx.ok,a],by simp [pyL,PyData.canLayAll0,hx.ly,b],?_⟩
  simp only [pyL,PyData.depthAll]
  have:=hx.dp
  omega
theorem zqM {k:Nat} (a:Int):Dq k (.int a):=⟨by simp [zeR],by simp [py,PyData.canLay0],by simp [py,PyData.depth]⟩
theorem dq_n {k:Nat}:Dq k .non:=⟨by simp [zeR],by simp [py,PyData.canLay0],by simp [py,PyData.depth]⟩
theorem dq_s {k:Nat} (hs:PyData.strOk s=true):Dq k (.str s):=⟨by simp [zeR],by simp [py,PyData.canLay0,hs],by simp [py,PyData.depth]⟩
theorem zo5 {k:Nat} (h:∀ x∈xs,Dq k x):Dq (k+1) (.tup xs):=by
 obtain ⟨a,b,c⟩:=Dq.all h
 exact ⟨by simp [zeR,a],by simp [py,PyData.canLay0,b],by simp [py,PyData.depth]; omega⟩
theorem Dq.deep {k:Nat} (q:Dq k (.tup xs)) (hk:k<=60):deep (.tup xs)=true:=by
 have:=q.dp
 simp only [MD.deep,q.ok,SeqAt.shaped,q.ly,Bool.true_and,Bool.and_true]
 simp
 omega
theorem eq_dq {k:Nat} (q:Dq k (.tup xs)) (hk:k<=60):eqD (.tup xs) (.tup xs) m = .ok (.bl true) m:=by
 have e:eqB (.tup xs) (.tup xs)=some true:=by
  show (if MD.deep (.tup xs) && MD.deep (.tup xs) then some (PyData.eqv (py (.tup xs)) (py (.tup xs))) else none)=_
  rw [q.deep hk,SeqAt.eqv_refl _ q.ly]
  rfl
 simp only [eqD,rs,e]
theorem dq_o {k:Nat} (o:Option Nat):Dq k (onD o):=by
 cases o with
 | none=>exact dq_n
 | some a=>exact zqM _
theorem dq_hd {k:Nat} (l:List Int):Dq (k+1) (zbX l):=zo5 fun x hx=>by
 obtain ⟨a,_,rfl⟩:=List.mem_map.mp hx
 exact zqM a
theorem dq_bf (hs:List (List Int)) (had base:Option Nat) (fresh:Nat):Dq 4 (bfD hs had base fresh):=zo5 fun x hx=>by
 simp only [List.mem_cons,List.not_mem_nil,or_false] at hx
 rcases hx with rfl | rfl | rfl
 ·exact zqM _
 ·refine zo5 fun x hx=>?_
  simp only [List.mem_cons,List.not_mem_nil,or_false] at hx
  rcases hx with rfl | rfl | rfl
  ·exact dq_o _
  ·exact dq_o _
  ·exact zqM _
 ·refine zo5 fun x hx=>?_
  obtain ⟨a,_,rfl⟩:=List.mem_map.mp hx
  refine zo5 fun x hx=>?_
  simp only [List.mem_cons,List.not_mem_nil,or_false] at hx
  rcases hx with rfl | rfl
  ·exact zqM _
  ·exact dq_hd _
theorem dq_wy (w:Wy):Dq 1 w.e:=by
 have k1:PyData.strOk (Str.ofString "keep")=true:=by decide +kernel
 have k2:PyData.strOk (Str.ofString "whole")=true:=by decide +kernel
 have k3:PyData.strOk (Str.ofString "low")=true:=by decide +kernel
 cases w with
 | keep=>exact zo5 fun x hx=>by cases List.mem_singleton.mp hx; exact dq_s k1
 | whole=>exact zo5 fun x hx=>by cases List.mem_singleton.mp hx; exact dq_s k2
 | low a b =>
  refine zo5 fun x hx=>?_
  simp only [List.mem_cons,List.not_mem_nil,or_false] at hx
  rcases hx with rfl | rfl | rfl
  ·exact dq_s k3
  ·exact zqM _
  ·exact zqM _
theorem zri (fms:List Fm):Dq 4 (.tup (fms.map Fm.e)):=zo5 fun x hx=>by
 obtain ⟨f,_,rfl⟩:=List.mem_map.mp hx
 refine zo5 fun x hx=>?_
 simp only [List.mem_cons,List.not_mem_nil,or_false] at hx
 rcases hx with rfl | rfl | rfl
 ·exact zqM _
 ·exact zqM _
 ·refine zo5 fun x hx=>?_
  obtain ⟨w,_,rfl⟩:=List.mem_map.mp hx
  exact dq_wy w
theorem ne_fms (fms:List Fm):∃ β : Bool,∀ m:Sto,neD (.tup (fms.map Fm.e)) (.tup []) m = .ok (.bl β) m:=by
 have e:eqB (.tup (fms.map Fm.e)) (.tup [])=some (PyData.eqv (py (.tup (fms.map Fm.e))) (py (.tup []))):=by
  show (if MD.deep (.tup (fms.map Fm.e)) && MD.deep (.tup []) then some (PyData.eqv (py (.tup (fms.map Fm.e))) (py (.tup []))) else none)=_
  rw [(zri fms).deep (by decide),show deep (.tup [])=true from (zri []).deep (by decide)]
  rfl
 refine ⟨!PyData.eqv (py (.tup (fms.map Fm.e))) (py (.tup [])),fun m=>?_⟩
 simp only [neD,rs,e]
theorem ziL {g':List D->Sto->Res D} {P:D->Sto->Prop} (hl:∀ ds m,OkLe (g ds m) (g' ds m)) (h:Run (g ds m) P):Run (puF g' ds m) P:=by
 obtain ⟨a,m',e,q⟩:=h
 exact ⟨a,m',by show (g' ds m).pu=_; rw [hl _ _ _ _ e]; rfl,q⟩
def n32r:SV:=by walk_at "#v?tQt%lxo>Fv8wq1w)uGn"
def n32p:SV:=by walk_at "#XuptMu0wnt)uGtk&yc1duaudEu{"
def n32:SV:=by walk_at "#tv&wZ1uj!Fupu/u0wot)+yb1t6va6mX|f|g"
def t32:SV:=by walk_at "#5hv#u0v$t)uaEvg[vFxwctMuatZMvin[v8wq1w)uGnrwlt8hv#u0v$t)uGlvgt8u7t)!tCu[>)n"
theorem zmB:zoU=(zaw (zaK (eFn zfl (zac (zaf 0) zaj)) (gN 1))
 (zaw (zh6 (ziB zj7 (zac (eC (.int 4)) zaj)) (gN 2)
 (zaw (zaK (eFn zdY (zac (zaf 1) (zac (eC (.int 3)) zaj))) (gT 4 (zaN (gN 3) (zaN (gN 4) (zaN (gN 5) (zaN (gN 6) zdI))))))
 (zaw (zaK (eFn zbn (zac (zaf 3) (zac (eOp zbj (eC (.int 1)) (eFn zau (zac (zaf 1) (zac (eC (.int 5)) zaj)))) (zac (eSlA (zaf 5) zhb (zeW (eC (.int 3)))) (zac (zaf 6) zaj))))) (gN 7))
 (zaw (sPar 8 9 (zac (eFn (mkM "Presser" zbG) (zac (zaf 7) zaj)) (zac (eFn zb1 (zac (zaf 1) (zac (zaf 3) zaj))) zaj)))
 (zaw (zh6 (ziB zj7 (zac (eOp zfU (eC (.int 1)) (eOp ixD (zaf 7) (eC (.int 1)))) zaj)) (gN 10) n32)
 t32)))))
 (zaL (eC (.bl true))))):=rfl
section
variable {k:Nat} {pt:Pt} {fresh:Nat} {x10 x11:Option D}
theorem zns (h:St26 m p q c k l pt hs had base fresh) (n:Ne26 p q k l) (hc:c < 2 ^ 39) (hp:PtOk pt) (hh:HdOk pt.fs hd) (hl:hs.length<=100000):Run (zba [.ob p,.ob k,pt.e,zbX hd] m) fun a m'=>a = .bl true/\St26 m' p q (c+17) k l pt hs had base fresh:=by
 obtain ⟨β,hβ⟩:=ne_fms pt.fms
 refine Run.mono (zj8 h.bx hc h.pr hp n.kp n.kq n.lp n.lq (fun i f hf=>(hp.sh.ok i f hf).2.1) hp.f1 hp.f0 hh.len hl hβ (fun m=>eq_dq (dq_bf hs had base fresh) (by decide))) ?_
 rintro _ m1 ⟨rfl,h1⟩
 exact ⟨rfl,h.box n h1⟩
theorem zqt (h:St26 m p q c k l pt hs had base fresh) (n:Ne26 p q k l) (hc:c < 2 ^ 39) (hp:PtOk pt) (hh:HdOk pt.fs hd) (hl:hs.length<=100) :
  Run (n32r [some sc,some (.ob p),some d2,some (shD pt.fs pt.n),some d4,some d5,some d6,some pt.e,some (.ob k),some (zbX hd),some (.int hs.length),x11] m) fun fl m'=>fl = .nx [some sc,some (.ob p),some d2,some (shD pt.fs pt.n),some d4,some d5,some d6,some pt.e,some (.ob k),some (zbX hd),some (.int hs.length),x11]/\St26 m' p q (c+17) k l pt hs had base fresh:=by
 unfold n32r; erw [zcq (by decide)]; ac_nf
 by_cases c1:(hs.length:Int) % 7=0
 ·rw [if_pos c1]; ac_nf; refine Run.bind (zns h n hc hp hh (by omega)) ?_; rintro _ m1 ⟨rfl,h1⟩; ac_nf; exact Run.ok ⟨rfl,h1⟩
 ·rw [if_neg c1]; ac_nf; exact Run.ok ⟨rfl,h.pr,h.bx.more (by omega)⟩
theorem zqu (h:St26 m p q c k l pt hs had base fresh) (n:Ne26 p q k l) (hc:c < 2 ^ 39) (hp:PtOk pt) (hh:HdOk pt.fs hd) (hhs:∀ x∈hs,HdOk pt.fs x) (hl:hs.length<=100) (hw:(hs.length:Int) < 2 ^ pt.wide) :
  Run (n32p [some sc,some (.ob p),some d2,some (shD pt.fs pt.n),some d4,some d5,some d6,some pt.e,some (.ob k),some (zbX hd),some (.int hs.length),x11] m) fun fl m'=>∃ hd',fl = .nx [some sc,some (.ob p),some d2,some (shD pt.fs pt.n),some d4,some d5,some d6,some pt.e,some (.ob k),some (zbX hd'),some (.int hs.length),x11]/\HdOk pt.fs hd'/\St26 m' p q (c+40) k l pt (hs++[hd]) had base fresh:=by
 unfold n32p; erw [if_pos (h.pr.meth rfl)]; ac_nf; refine Run.bind (ziL zp7 (znz h.pr hp hh hhs (by omega) hw)) ?_; rintro _ m1 ⟨⟨best,_,rfl⟩,h1',f1⟩
 have h1:=h.pre n f1 h1'
 ac_nf; refine Run.bind (zi5 (calm:=5) h1.bx (by omega) hp.sh.ok hp.f1 hh (by decide) (by decide)) ?_; rintro _ m2 ⟨hd',rfl,hh',hp2⟩; ac_nf; exact Run.ok ⟨hd',rfl,hh',h1.box n hp2⟩
theorem zsI (h:St26 m p q c k l pt hs had base fresh) (n:Ne26 p q k l) (hc:c+100 < 2 ^ 39) (hp:PtOk pt) (hh:HdOk pt.fs hd) (hhs:∀ x∈hs,HdOk pt.fs x) (hl:hs.length<=100) (hw:(hs.length:Int) < 2 ^ pt.wide) :
  Run (n32 [some sc,some (.ob p),some d2,some (shD pt.fs pt.n),some d4,some d5,some d6,some pt.e,some (.ob k),some (zbX hd),some (.int hs.length),x11] m) fun fl m'=>∃ (had' base':Option Nat) (fresh':Nat) (hd':List Int),fl = .nx [some sc,some (.ob p),some d2,some (shD pt.fs pt.n),some d4,some d5,some d6,some pt.e,some (.ob k),some (zbX hd'),some (.int hs.length),x11]/\HdOk pt.fs hd'/\St26 m' p q (c+61) k l pt (hs++[hd]) had' base' fresh':=by
 have fin:∀ {m1:Sto} {had1 base1:Option Nat} {fresh1:Nat},St26 m1 p q (c+4) k l pt hs had1 base1 fresh1->Run (zaw n32r n32p [some sc,some (.ob p),some d2,some (shD pt.fs pt.n),some d4,some d5,some d6,some pt.e,some (.ob k),some (zbX hd),some (.int hs.length),x11] m1) fun fl m'=>∃ (had' base':Option Nat) (fresh':Nat) (hd':List Int),fl = .nx [some sc,some (.ob p),some d2,some (shD pt.fs pt.n),some d4,some d5,some d6,some pt.e,some (.ob k),some (zbX hd'),some (.int hs.length),x11]/\HdOk pt.fs hd'/\St26 m' p q (c+61) k l pt (hs++[hd]) had' base' fresh':=by
  intro m1 had1 base1 fresh1 h1
  ac_nf; refine Run.bind (zqt h1 n (by omega) hp hh hl) ?_; rintro _ m2 ⟨rfl,h2⟩; ac_nf
  refine Run.mono (zqu h2 n (by omega) hp hh hhs hl hw) ?_
  rintro _ m3 ⟨hd',rfl,hh',h3⟩
  exact ⟨_,_,_,hd',rfl,hh',h3.pr,h3.bx.more (by omega)⟩
 unfold n32; rw [show ∀ (f g:SV) (ρ : En) (m:Sto),zaw f g ρ m=Res.bind (f ρ m) (kSeq g) from fun _ _ _ _=>rfl]; ac_nf; refine Run.bind (zaP h.bx (by omega) (by decide) (by decide)) ?_; rintro _ m1 ⟨u,rfl,u0,u1,hp1⟩
 have h1:=h.box n hp1
 ac_nf
 by_cases c1:u=0
 ·rw [if_pos c1]; erw [if_pos (h1.pr.meth rfl)]; ac_nf; refine Run.bind (zpC h1.bx (by omega) hl) ?_; rintro _ m2 ⟨hwd,hp2⟩
  have h2:=h1.box n hp2
  rcases hwd with rfl | ⟨z,hz,rfl⟩
  ·ac_nf; refine Run.bind (ziL zlj (zmw h2.pr)) ?_; rintro _ m3 ⟨rfl,h3,f3⟩; ac_nf
   exact fin (h2.pre n f3 h3)
  ·ac_nf; refine Run.bind (ziL zlj (zmv h2.pr hz)) ?_; rintro _ m3 ⟨rfl,h3,f3⟩; ac_nf
   exact fin (h2.pre n f3 h3)
 ·rw [if_neg c1]; ac_nf
  exact fin ⟨h1.pr,h1.bx.more (by omega)⟩
theorem zrx (h:St26 m p q c k l pt hs had base fresh) (n:Ne26 p q k l) (hc:c+100 < 2 ^ 39) (hp:PtOk pt) (hh:HdOk pt.fs hd) (hhs:∀ x∈hs,HdOk pt.fs x) (hl:hs.length<=100) (hw:(hs.length:Int)=2 ^ pt.wide) :
  Run (t32 [some sc,some (.ob p),some d2,some (shD pt.fs pt.n),some d4,some d5,some d6,some pt.e,some (.ob k),some (zbX hd),x10,x11] m) fun fl m'=>∃ y11:Option D,fl = .nx [some sc,some (.ob p),some d2,some (shD pt.fs pt.n),some d4,some d5,some d6,some pt.e,some (.ob k),some (zbX hd),x10,y11]/\St26 m' p q (c+17) k l pt hs had base fresh:=by
 have mem:∀ {m r:Sto} {c:Nat},St26 m p q c k l pt hs had base fresh->St26 (m++r) p q c k l pt hs had base fresh:=fun h=>⟨h.pr.app,h.bx.app.re⟩
 unfold t32; erw [if_pos (h.pr.meth rfl)]; ac_nf; refine Run.bind (ziL ziD (zhh h.pr hp hh hhs (by omega))) ?_; rintro _ m1 ⟨rfl,r1,rfl⟩
 have h1:=mem (r:=r1) h
 erw [zmZ h1.pr hp hh hw]; ac_nf; refine Run.bind (zns h1 n (by omega) hp hh (by omega)) ?_; rintro _ m2 ⟨rfl,h2⟩; erw [if_pos (h2.pr.meth rfl)]; ac_nf; refine Run.bind (ziL ziD (zhh h2.pr hp hh hhs (by omega))) ?_; rintro _ m3 ⟨rfl,r3,rfl⟩
 have h3:=mem (r:=r3) h2
 erw [ne_tup,decide_eq_true rfl]; erw [if_pos (h3.pr.meth rfl)]; erw [zcF h3.pr]; erw [zjc]; erw [zdf (by have:=hp.w1; omega)]; erw [hw]; ac_nf; exact Run.ok ⟨_,rfl,h3⟩
end
theorem zkv (hn:ns.length<=63):Run (zls [.scr (ns.map D.int)] []) fun a _=>a = .bl true:=by
 unfold zls; rw [zmB]; ac_nf; refine Run.bind (ztd hn) ?_; rintro _ m1 ⟨p,q,rfl,hp1⟩; erw [zgi (by decide) (by decide)]; ac_nf; refine Run.bind (zbw (fun k ρ m'=>∃ (x2 x3 x4 x5 x6 x7 x8 x9 x10 x11:Option D),ρ = [some (.scr (ns.map D.int)),some (.ob p),x2,x3,x4,x5,x6,x7,x8,x9,x10,x11]/\P3 m' p q (10000 * k) m') (zcU 0 (4:Int).toNat) 0 ⟨_,_,_,_,_,_,_,_,_,_,rfl,hp1.re⟩ ?_) ?_
 ·rintro i d ρ m2 hd ⟨x2,x3,x4,x5,x6,x7,x8,x9,x10,x11,rfl,hI⟩
  have hi:=(List.getElem?_eq_some_iff.mp hd).1
  rw [za7] at hi
  have hi3:i < 4:=hi
  rw [Nat.zero_add] at hI ⊢
  ac_nf; refine Run.bind (znO (most:=3) hI (by omega) (by decide) (by decide)) ?_; rintro _ m3 ⟨pt0,rfl,hpt0,hw0,hp3⟩
  unfold Pt.e
  ac_nf; refine Run.bind (zaP hp3.re (by omega) (by decide) (by decide)) ?_; rintro _ m4 ⟨u,rfl,u0,u1,hp4⟩
  obtain ⟨u,rfl⟩:=Int.eq_ofNat_of_zero_le u0
  erw [slA_t,show (3:Int)=((3:Nat):Int) from rfl,zrm,<- List.map_take]; erw [zmY (by simp)]
  obtain ⟨pt,ept,hpt,hw5⟩:∃ pt:Pt,pt=⟨pt0.fs,pt0.n,1+u,pt0.fms.take 3,pt0.rd⟩/\PtOk pt/\pt.wide<=5:=⟨_,rfl,⟨hpt0.n0,hpt0.n1,hpt0.f0,hpt0.f1,hpt0.sh,by show 0 < 1+u; omega,by show 1+u<=40; omega,fun f hf=>hpt0.fm f (List.mem_of_mem_take hf),by have:=hpt0.fml; simp; omega,hpt0.rd⟩,by show 1+u<=5; omega⟩
  have epe:D.tup [shD pt0.fs pt0.n,.int (1+(u:Int)),.tup ((pt0.fms.take 3).map Fm.e),pt0.rd.e]=pt.e:=by rw [ept,show (1+(u:Int))=((1+u:Nat):Int) by omega]; rfl
  have eps:shD pt0.fs pt0.n=shD pt.fs pt.n:=by rw [ept]
  rw [epe,eps]; generalize D.int (pt0.wide:Int)=d4; generalize D.tup (pt0.fms.map Fm.e)=d5; generalize pt0.rd.e=d6; ac_nf; refine Run.bind (make_w pt m4) ?_; rintro _ m5 ⟨rfl,h5,x,rfl⟩
  have hp5:P3 m4 p q (10000 * i+1000+1) (m4++x):=hp4.re.app
  have hlt:=hp4.lt
  have hlt4:=h5.lt
  ac_nf; refine Run.bind (zkL hp5 (by omega) hpt.sh.ok hpt.f1) ?_; rintro _ m6 ⟨hd',rfl,hh,hp6⟩
  have h6':=h5.fr hp6.fr (by omega) (by omega) (by omega) (by omega)
  have hn26:Ne26 p q m4.length (m4.length+1):=⟨by omega,by omega,by omega,by omega⟩
  have h6:St26 m6 p q (10000 * i+2031) m4.length (m4.length+1) pt [] none none 0:=⟨h6',hp6.re.more (by omega)⟩
  generalize m4.length+1=l at hn26 h6 ⊢; generalize m4.length=k at hn26 h6 ⊢; erw [zjc]; ac_nf
  have hp2:(2:Int) ^ pt.wide<=32:=by have:=p2mono (w:=pt.wide) (b:=5) hw5; exact this
  have hp20:(0:Int) < 2 ^ pt.wide:=p2 pt.wide
  rw [zdf (by omega)]; erw [zgi (by omega) (by omega)]; ac_nf; refine Run.bind (zbw (fun j ρ m'=>∃ (had base:Option Nat) (fresh:Nat) (hd:List Int) (hs:List (List Int)) (x10 x11:Option D),ρ = [some (.scr (ns.map D.int)),some (.ob p),some d,some (shD pt.fs pt.n),some d4,some d5,some d6,some pt.e,some (.ob k),some (zbX hd),x10,x11]/\hs.length=j/\HdOk pt.fs hd/\(∀ x∈hs,HdOk pt.fs x)/\St26 m' p q (10000 * i+2031+61 * j) k l pt hs had base fresh) _ 0 ⟨none,none,0,hd',[],_,_,rfl,rfl,hh,fun x hx=>(nomatch hx),h6⟩ ?_) ?_
  ·rintro j d' ρ m8 hd8 ⟨had,base,fresh,hd,hs,x10,x11,rfl,hj0,hhd,hhs,h8⟩
   have hj:=(List.getElem?_eq_some_iff.mp hd8).1
   rw [za7] at hj
   have:=ziA hd8
   subst this
   rw [Nat.zero_add] at h8 hj0 ⊢
   subst hj0
   ac_nf
   refine Run.mono (zsI h8 hn26 (by omega) hpt hhd hhs (by omega) (by omega)) ?_
   rintro _ m9 ⟨had',base',fresh',hd9,rfl,hh9,h9⟩
   refine ⟨_,rfl,had',base',fresh',hd9,hs++[hd],_,_,rfl,by simp,hh9,fun x hx=>?_,h9.pr,h9.bx.more (by omega)⟩
   rcases List.mem_append.mp hx with hx | hx
   ·exact hhs x hx
   ·rw [List.mem_singleton.mp hx]; exact hhd
  ·rintro _ m8 ⟨ρ,rfl,had,base,fresh,hd,hs,x10,x11,rfl,hj0,hhd,hhs,h8⟩
   rw [za7,Nat.zero_add] at h8 hj0
   ac_nf
   refine Run.mono (zrx h8 hn26 (by omega) hpt hhd hhs (by omega) (by omega)) ?_
   rintro _ m9 ⟨y11,rfl,h9⟩
   exact ⟨_,rfl,_,_,_,_,_,_,_,_,_,_,rfl,h9.bx.more (by omega)⟩
 ·rintro _ m3 ⟨ρ,rfl,x2,x3,x4,x5,x6,x7,x8,x9,x10,x11,rfl,_⟩; ac_nf
  exact Run.ok rfl
end MD
set_option autoImplicit false
namespace K32
open PySem PyProof.Rows L2 MD
structure Txt (mg:Str->Option Value):Prop where
 ValueError:mg "ValueError" = none
 all:mg "all" = none
 sum:mg "sum" = none
 enumerate:mg "enumerate" = none
 len:mg "len" = none
 tuple:mg "tuple" = none
 range:mg "range" = none
 isi:mg "isinstance" = none
 int:mg "int" = none
 str:mg "str" = none
 any:mg "any" = none
 max:mg "max" = none
 min:mg "min" = none
 bool:mg "bool" = none
 zip:mg "zip" = none
 abs:mg "abs" = none
 list:mg "list" = none
 reversed:mg "reversed" = none
structure TxC (K:PySem.W.Frag) (cl:Str->Addr):Prop where
 cPresser:Cls K (cl "Presser")
 nPresser_base:NoAttr K (cl "Presser") "base"
 nPresser_fresh:NoAttr K (cl "Presser") "fresh"
 nPresser_had:NoAttr K (cl "Presser") "had"
 nPresser_pact:NoAttr K (cl "Presser") "pact"
 nPresser_pressed:NoAttr K (cl "Presser") "pressed"
set_option maxHeartbeats 16000000
section
variable (P:Program) (w:World) {K:PySem.W.Frag} {mg:Str->Option Value} (base:Heap) {cl:Str->Addr} {f:Addr} {fd:FuncData}
theorem zpU:FnScope ["number", "width"] ["number", "width"] (zah zh7):=sco
theorem zn8 (F:Fun K "bits_of" "bits_of" zh7 f fd) (b:Binds K fd ["number", "width"] []) (m:mg "bits_of" = some (.ref f)) (T:Txt mg) (TC:TxC K cl) (TX:TxE K cl ["HeadError", "NoHead", "NoLetter", "NoWord", "NoMore"] ["NoMore", "NoWord", "NoHead"]):FnX P w K mg base cl "bits_of" 1 2 zcw :=
 by walk_at "#f|h4xFydyeyfygyhyiqv~u1uWvjt^vktV|iB|jvGtEt_=t>w^uWvjvkt`w]|k|lByjyk#p|m|np|o|pZ<,:"
theorem scNumberOf:FnScope ["bits", "number", "sign"] ["bits"] (zah zeG):=sco
theorem zkd (F:Fun K "number_of" "number_of" zeG f fd) (b:Binds K fd ["bits"] []) (m:mg "number_of" = some (.ref f)) (T:Txt mg) (TC:TxC K cl) (TX:TxE K cl ["HeadError", "NoHead", "NoLetter", "NoWord", "NoMore"] ["NoMore", "NoWord", "NoHead"]):FnX P w K mg base cl "number_of" 1 1 zdK :=
 by walk_at "#f|quHx[w=w>Ztq=x['tFDx[tGat'w]|r|sBylymuI4*"
theorem scNumbersOf:FnScope ["bits", "widths", "numbers", "begin", "width"] ["bits", "widths"] (zah zdS):=sco
theorem zi1 (F:Fun K "numbers_of" "numbers_of" zdS f fd) (b:Binds K fd ["bits", "widths"] []) (m:mg "numbers_of" = some (.ref f)) (T:Txt mg) (TC:TxC K cl) (TX:TxE K cl ["HeadError", "NoHead", "NoLetter", "NoWord", "NoMore"] ["NoMore", "NoWord", "NoHead"]) (hNumberOf:FnX P w K mg base cl "number_of" 1 1 zdK):FnX P w K mg base cl "numbers_of" 2 2 zc7 :=
 by walk_at "#|tD|ukwr'vl%uJwrw=w>*tq7wr't2w?wswtwuvmwv<K|vbu2Zve]ve?]^:tF3wrtG]^4<"
theorem scWidthFor:FnScope ["many", "width", "room"] ["many"] (zah zeF):=sco
theorem zkc (F:Fun K "width_for" "width_for" zeF f fd) (b:Binds K fd ["many"] []) (m:mg "width_for" = some (.ref f)) (T:Txt mg) (TC:TxC K cl) (TX:TxE K cl ["HeadError", "NoHead", "NoLetter", "NoWord", "NoMore"] ["NoMore", "NoWord", "NoHead"]):FnX P w K mg base cl "width_for" 1 1 zcr :=
 by walk_at "#f|wuHwww=kwww=t2ynuQwdxBt=vH<ZQkww'a<,tFDwwtGt'4*"
theorem znf:FnScope ["thing"] ["thing"] (zah zf3):=sco
theorem zmg (F:Fun K "is_whole" "is_whole" zf3 f fd) (b:Binds K fd ["thing"] []) (m:mg "is_whole" = some (.ref f)) (T:Txt mg) (TC:TxC K cl) (TX:TxE K cl ["HeadError", "NoHead", "NoLetter", "NoWord", "NoMore"] ["NoMore", "NoWord", "NoHead"]):FnX P w K mg base cl "is_whole" 1 1 zbh :=
 by walk_at "#f|xwAwxuQy=u*BwyBylymZvn|ywxuQy>u*BwyB|z|{Z"
theorem zj5:FnScope ["thing", "least", "most"] ["thing", "least", "most"] (zah zdT):=sco
theorem zi2 (F:Fun K "is_between" "is_between" zdT f fd) (b:Binds K fd ["thing", "least", "most"] []) (m:mg "is_between" = some (.ref f)) (T:Txt mg) (TC:TxC K cl) (TX:TxE K cl ["HeadError", "NoHead", "NoLetter", "NoWord", "NoMore"] ["NoMore", "NoWord", "NoHead"]) (hIsWhole:FnX P w K mg base cl "is_whole" 1 1 zbh):FnX P w K mg base cl "is_between" 2 3 zaQ :=
 by walk_at "#ta||wA-|}wBvnyowzw{wzw{*Z<"
theorem zng:FnScope ["thing", "breadth"] ["thing", "breadth"] (zah zf4):=sco
theorem zmh (F:Fun K "is_value" "is_value" zf4 f fd) (b:Binds K fd ["thing", "breadth"] []) (m:mg "is_value" = some (.ref f)) (T:Txt mg) (TC:TxC K cl) (TX:TxE K cl ["HeadError", "NoHead", "NoLetter", "NoWord", "NoMore"] ["NoMore", "NoWord", "NoHead"]) (hIsBetween:FnX P w K mg base cl "is_between" 2 3 zaQ):FnX P w K mg base cl "is_value" 3 2 zb7 :=
 by walk_at "#tb|~vI}!Ntcgt/t'%"
theorem zrK:FnScope ["thing", "least", "most"] ["thing", "least", "most"] (zah zk0):=sco
theorem zql (F:Fun K "is_row" "is_row" zk0 f fd) (b:Binds K fd ["thing", "least", "most"] []) (m:mg "is_row" = some (.ref f)) (T:Txt mg) (TC:TxC K cl) (TX:TxE K cl ["HeadError", "NoHead", "NoLetter", "NoWord", "NoMore"] ["NoMore", "NoWord", "NoHead"]):FnX P w K mg base cl "is_row" 1 3 zef :=
 by walk_at "#f}#wAwxuQyBu*BwyzbZvnyowzw{wzw{*u8wC%<"
theorem zl0:FnScope ["thing", "word", "many"] ["thing", "word", "many"] (zah zeL):=sco
theorem zki (F:Fun K "is_worded" "is_worded" zeL f fd) (b:Binds K fd ["thing", "word", "many"] []) (m:mg "is_worded" = some (.ref f)) (T:Txt mg) (TC:TxC K cl) (TX:TxE K cl ["HeadError", "NoHead", "NoLetter", "NoWord", "NoMore"] ["NoMore", "NoWord", "NoHead"]) (hIsRow:FnX P w K mg base cl "is_row" 1 3 zef):FnX P w K mg base cl "is_worded" 2 3 zaM :=
 by walk_at "#ta}$wA-ypNt9uIy4wxuQyDu*BwyByjykOvnv%tsO*Q"
theorem zpR:FnScope ["number", "width"] ["number", "width"] (zah zhZ):=sco
theorem zn1 (F:Fun K "rest_of" "rest_of" zhZ f fd) (b:Binds K fd ["number", "width"] []) (m:mg "rest_of" = some (.ref f)) (T:Txt mg) (TC:TxC K cl) (TX:TxE K cl ["HeadError", "NoHead", "NoLetter", "NoWord", "NoMore"] ["NoMore", "NoWord", "NoHead"]):FnX P w K mg base cl "rest_of" 1 2 zbC :=
 by walk_at "#f}%4t:Zt/*"
theorem zlZ:FnScope ["least", "rest", "width"] ["least", "rest", "width"] (zah zeE):=sco
theorem zkb (F:Fun K "windowed" "windowed" zeE f fd) (b:Binds K fd ["least", "rest", "width"] []) (m:mg "windowed" = some (.ref f)) (T:Txt mg) (TC:TxC K cl) (TX:TxE K cl ["HeadError", "NoHead", "NoLetter", "NoWord", "NoMore"] ["NoMore", "NoWord", "NoHead"]) (hRestOf:FnX P w K mg base cl "rest_of" 1 2 zbC):FnX P w K mg base cl "windowed" 2 3 zdJ :=
 by walk_at "#ta}&4?Z-v&bg*ZuI"
theorem zpV:FnScope ["w", "base", "below", "rest", "width"] ["w", "base", "below", "rest", "width"] (zah zh8):=sco
theorem zn9 (F:Fun K "around" "around" zh8 f fd) (b:Binds K fd ["w", "base", "below", "rest", "width"] []) (m:mg "around" = some (.ref f)) (T:Txt mg) (TC:TxC K cl) (TX:TxE K cl ["HeadError", "NoHead", "NoLetter", "NoWord", "NoMore"] ["NoMore", "NoWord", "NoHead"]) (hRestOf:FnX P w K mg base cl "rest_of" 1 2 zbC) (hWindowed:FnX P w K mg base cl "windowed" 2 3 zdJ):FnX P w K mg base cl "around" 3 5 zgO :=
 by walk_at "#tb}'vIv&tKK}(bg*<ttu%wC%"
theorem zl1:FnScope ["shape"] ["shape"] (zah zeO):=sco
theorem zkk (F:Fun K "breadths" "breadths" zeO f fd) (b:Binds K fd ["shape"] []) (m:mg "breadths" = some (.ref f)) (T:Txt mg) (TC:TxC K cl) (TX:TxE K cl ["HeadError", "NoHead", "NoLetter", "NoWord", "NoMore"] ["NoMore", "NoWord", "NoHead"]):FnX P w K mg base cl "breadths" 1 1 zcv :=
 by walk_at "#f})4x5y)tnt^yqwDOt_Dt>u1tnyqt`wE"
theorem scIsHead:FnScope ["shape", "thing", "asked"] ["shape", "thing"] (zah zh4):=sco
theorem zn6 (F:Fun K "is_head" "is_head" zh4 f fd) (b:Binds K fd ["shape", "thing"] []) (m:mg "is_head" = some (.ref f)) (T:Txt mg) (TC:TxC K cl) (TX:TxE K cl ["HeadError", "NoHead", "NoLetter", "NoWord", "NoMore"] ["NoMore", "NoWord", "NoHead"]) (hBreadths:FnX P w K mg base cl "breadths" 1 1 zcv) (hIsRow:FnX P w K mg base cl "is_row" 1 3 zef) (hIsValue:FnX P w K mg base cl "is_value" 3 2 zb7):FnX P w K mg base cl "is_head" 4 2 zaR :=
 by walk_at "#vJ}*k}+oyrwBu]x]w|-ypvK#u8t9eu8t9usuXt-tL},A}-B}.}/wFtnx^x_vbu1tov'tVx`Bxa*<uPt03vLx^x_tov'tH7vLx^x_tov'tIvy-}0u43u`:"
theorem scExpected:FnScope ["shape", "place", "former", "ahead", "more", "breadth", "kind", "value", "gone"] ["shape", "place", "former", "ahead", "more"] (zah zeN):=sco
theorem zkj (F:Fun K "expected" "expected" zeN f fd) (b:Binds K fd ["shape", "place", "former", "ahead", "more"] []) (m:mg "expected" = some (.ref f)) (T:Txt mg) (TC:TxC K cl) (TX:TxE K cl ["HeadError", "NoHead", "NoLetter", "NoWord", "NoMore"] ["NoMore", "NoWord", "NoHead"]) (hRestOf:FnX P w K mg base cl "rest_of" 1 2 zbC) (hTurned:FnX P w K mg base cl "turned" 1 3 zgG):FnX P w K mg base cl "expected" 2 5 zdM :=
 by walk_at "#ta}1wGu2TO*vMv(t0.w}tH0w}tIwHw}'u9*v/tduK-v&b?wIatd^te%vNtduK-}2btdutu%vNtdqQt+Sw}'gT]tdu9tdvIv&b?wIatdWStewJwI"
theorem zpP:FnScope ["row", "value", "more"] ["row", "value", "more"] (zah zhX):=sco
theorem znZ (F:Fun K "turned" "turned" zhX f fd) (b:Binds K fd ["row", "value", "more"] []) (m:mg "turned" = some (.ref f)) (T:Txt mg) (TC:TxC K cl) (TX:TxE K cl ["HeadError", "NoHead", "NoLetter", "NoWord", "NoMore"] ["NoMore", "NoWord", "NoHead"]):FnX P w K mg base cl "turned" 1 3 zgG :=
 by walk_at "#f}3tS}4tK}5*ZA4*t-vuuLysZtE<u8wC%"
theorem znh:FnScope ["shape", "number", "head"] ["shape", "number", "head"] (zah zf5):=sco
theorem zmi (F:Fun K "check_of" "check_of" zf5 f fd) (b:Binds K fd ["shape", "number", "head"] []) (m:mg "check_of" = some (.ref f)) (T:Txt mg) (TC:TxC K cl) (TX:TxE K cl ["HeadError", "NoHead", "NoLetter", "NoWord", "NoMore"] ["NoMore", "NoWord", "NoHead"]):FnX P w K mg base cl "check_of" 1 3 zd0 :=
 by walk_at "#f}64uL*tLytAyuByvywwFtnuWtmvbu1vktotVwK<uPt03vLuWtmvktotH7vLuWtmvktotIvya?tf^%O"
theorem znd:FnScope ["way", "breadth"] ["way", "breadth"] (zah zfV):=sco
theorem zl8 (F:Fun K "width_of" "width_of" zfV f fd) (b:Binds K fd ["way", "breadth"] []) (m:mg "width_of" = some (.ref f)) (T:Txt mg) (TC:TxC K cl) (TX:TxE K cl ["HeadError", "NoHead", "NoLetter", "NoWord", "NoMore"] ["NoMore", "NoWord", "NoHead"]):FnX P w K mg base cl "width_of" 1 2 zcj :=
 by walk_at "#f}7v/OuK,vNOuKOt-*"
theorem zpO:FnScope ["shape", "form"] ["shape", "form"] (zah zhW):=sco
theorem znY (F:Fun K "widths" "widths" zhW f fd) (b:Binds K fd ["shape", "form"] []) (m:mg "widths" = some (.ref f)) (T:Txt mg) (TC:TxC K cl) (TX:TxE K cl ["HeadError", "NoHead", "NoLetter", "NoWord", "NoMore"] ["NoMore", "NoWord", "NoHead"]) (hBreadths:FnX P w K mg base cl "breadths" 1 1 zcv) (hWidthOf:FnX P w K mg base cl "width_of" 1 2 zcj):FnX P w K mg base cl "widths" 2 2 zdp :=
 by walk_at "#ta}84x5u1tnv)vbu1xbv'tVx`BxawE-yrwBuPt0=t>v*tnv)xbv'tH3t>v*tnv)xbv'tIvy-}9u4=tg"
theorem zpS:FnScope ["shape", "form", "head"] ["shape", "form", "head"] (zah zh0):=sco
theorem zn2 (F:Fun K "pieces" "pieces" zh0 f fd) (b:Binds K fd ["shape", "form", "head"] []) (m:mg "pieces" = some (.ref f)) (T:Txt mg) (TC:TxC K cl) (TX:TxE K cl ["HeadError", "NoHead", "NoLetter", "NoWord", "NoMore"] ["NoMore", "NoWord", "NoHead"]) (hBitsOf:FnX P w K mg base cl "bits_of" 1 2 zcw) (hRestOf:FnX P w K mg base cl "rest_of" 1 2 zbC) (hWidths:FnX P w K mg base cl "widths" 2 2 zdp):FnX P w K mg base cl "pieces" 3 3 zdq :=
 by walk_at "#tb}:4xFydyeyfygyhyiqwFtnv)tmvbu1tovjtVx`Bxa<-xcNtEuPt03vLv)tmtovjtH7vLv)tmtovjtIvy-w~tKKv&u43u%u`:"
theorem zpQ:FnScope ["shape", "form"] ["shape", "form"] (zah zhY):=sco
theorem zn0 (F:Fun K "size_of" "size_of" zhY f fd) (b:Binds K fd ["shape", "form"] []) (m:mg "size_of" = some (.ref f)) (T:Txt mg) (TC:TxC K cl) (TX:TxE K cl ["HeadError", "NoHead", "NoLetter", "NoWord", "NoMore"] ["NoMore", "NoWord", "NoHead"]) (hWidths:FnX P w K mg base cl "widths" 2 2 zdp):FnX P w K mg base cl "size_of" 3 2 zfk :=
 by walk_at "#tb};4tLytAyuByvywKxcNuu"
theorem scOpened:FnScope ["shape", "form", "bits", "former", "more", "head", "place", "rest", "base"] ["shape", "form", "bits", "former", "more"] (zah zh1):=sco
theorem zn3 (F:Fun K "opened" "opened" zh1 f fd) (b:Binds K fd ["shape", "form", "bits", "former", "more"] []) (m:mg "opened" = some (.ref f)) (T:Txt mg) (TC:TxC K cl) (TX:TxE K cl ["HeadError", "NoHead", "NoLetter", "NoWord", "NoMore"] ["NoMore", "NoWord", "NoHead"]) (hExpected:FnX P w K mg base cl "expected" 2 5 zdM) (hNumbersOf:FnX P w K mg base cl "numbers_of" 2 2 zc7) (hValueTold:FnX P w K mg base cl "value_told" 4 4 zc4) (hWidths:FnX P w K mg base cl "widths" 2 2 zdp):FnX P w K mg base cl "opened" 5 5 zgI :=
 by walk_at "#u)7}<t+.vo'L%uewK-}=u4=KxcNuut00votH>votIt+Svoo}>NvOttteu%tF.votGW.LK}?bu&t'uv#u&OWz`tNSutusW."
theorem zj3:FnScope ["way", "breadth", "base", "rest"] ["way", "breadth", "base", "rest"] (zah zdQ):=sco
theorem ziZ (F:Fun K "value_told" "value_told" zdQ f fd) (b:Binds K fd ["way", "breadth", "base", "rest"] []) (m:mg "value_told" = some (.ref f)) (T:Txt mg) (TC:TxC K cl) (TX:TxE K cl ["HeadError", "NoHead", "NoLetter", "NoWord", "NoMore"] ["NoMore", "NoWord", "NoHead"]) (hAround:FnX P w K mg base cl "around" 3 5 zgO):FnX P w K mg base cl "value_told" 4 4 zc4 :=
 by walk_at "#vJ}Av/OuK<vNOuK-}BvKt9#Ott#OwJ]"
theorem scDoubt:FnScope ["shape", "form", "head", "formers", "bits", "k", "more", "former", "other"] ["shape", "form", "head", "formers"] (zah zk1):=sco
theorem zqm (F:Fun K "doubt" "doubt" zk1 f fd) (b:Binds K fd ["shape", "form", "head", "formers"] []) (m:mg "doubt" = some (.ref f)) (T:Txt mg) (TC:TxC K cl) (TX:TxE K cl ["HeadError", "NoHead", "NoLetter", "NoWord", "NoMore"] ["NoMore", "NoWord", "NoHead"]) (hFirstOther:FnX P w K mg base cl "first_other" 1 2 zcu) (hOpened:FnX P w K mg base cl "opened" 5 5 zgI) (hPieces:FnX P w K mg base cl "pieces" 3 3 zdq):FnX P w K mg base cl "doubt" 6 4 zjq :=
 by walk_at "#u).}CthvpoyxNtRuIuewK]t0.vp'x}t00vptH>vptIxCt+Svpo}Du4=K}ENtRu`utvO:vPyyyzWSt4v-?Lte%WSt-t4"
theorem scFirstOther:FnScope ["head", "told", "place", "value"] ["head", "told"] (zah zdl):=sco
theorem zih (F:Fun K "first_other" "first_other" zdl f fd) (b:Binds K fd ["head", "told"] []) (m:mg "first_other" = some (.ref f)) (T:Txt mg) (TC:TxC K cl) (TX:TxE K cl ["HeadError", "NoHead", "NoLetter", "NoWord", "NoMore"] ["NoMore", "NoWord", "NoHead"]):FnX P w K mg base cl "first_other" 1 2 zcu :=
 by walk_at "#f}FuewK*t0=y{tH3y{tIvPuM]vu<v-Lt9tgt-t4"
theorem zpT:FnScope ["pact", "at"] ["pact", "at"] (zah zh5):=sco
theorem zn7 (F:Fun K "form_at" "form_at" zh5 f fd) (b:Binds K fd ["pact", "at"] []) (m:mg "form_at" = some (.ref f)) (T:Txt mg) (TC:TxC K cl) (TX:TxE K cl ["HeadError", "NoHead", "NoLetter", "NoWord", "NoMore"] ["NoMore", "NoWord", "NoHead"]):FnX P w K mg base cl "form_at" 1 2 zey :=
 by walk_at "#f}GtSzd*t4v-LtcO#auwt$:vQTO,:t-TO*"
theorem zj4:FnScope ["pact"] ["pact"] (zah zdR):=sco
theorem zi0 (F:Fun K "sort_width" "sort_width" zdR f fd) (b:Binds K fd ["pact"] []) (m:mg "sort_width" = some (.ref f)) (T:Txt mg) (TC:TxC K cl) (TX:TxE K cl ["HeadError", "NoHead", "NoLetter", "NoWord", "NoMore"] ["NoMore", "NoWord", "NoHead"]) (hWidthFor:FnX P w K mg base cl "width_for" 1 1 zcr):FnX P w K mg base cl "sort_width" 2 1 zbY :=
 by walk_at "#ta}HvIy|bwLvQO:"
theorem ziK:FnScope ["pact"] ["pact"] (zah zdm):=sco
theorem zii (F:Fun K "check_width" "check_width" zdm f fd) (b:Binds K fd ["pact"] []) (m:mg "check_width" = some (.ref f)) (T:Txt mg) (TC:TxC K cl) (TX:TxE K cl ["HeadError", "NoHead", "NoLetter", "NoWord", "NoMore"] ["NoMore", "NoWord", "NoHead"]) (hWidthFor:FnX P w K mg base cl "width_for" 1 1 zcr):FnX P w K mg base cl "check_width" 2 1 zbk :=
 by walk_at "#ta}IvIy|bTOvR"
theorem scLetterSize:FnScope ["pact", "at", "form"] ["pact", "at"] (zah zdg):=sco
theorem zic (F:Fun K "letter_size" "letter_size" zdg f fd) (b:Binds K fd ["pact", "at"] []) (m:mg "letter_size" = some (.ref f)) (T:Txt mg) (TC:TxC K cl) (TX:TxE K cl ["HeadError", "NoHead", "NoLetter", "NoWord", "NoMore"] ["NoMore", "NoWord", "NoHead"]) (hCheckWidth:FnX P w K mg base cl "check_width" 2 1 zbk) (hFormAt:FnX P w K mg base cl "form_at" 1 2 zey) (hSizeOf:FnX P w K mg base cl "size_of" 3 2 zfk) (hSortWidth:FnX P w K mg base cl "sort_width" 2 1 zbY):FnX P w K mg base cl "letter_size" 4 2 zbD :=
 by walk_at "#vJ}Jk}Koy}NtE4???-y~wBwM-}LbOuI-z!wB"
theorem scLetterBy:FnScope ["pact", "at", "number", "head", "form", "sort", "rest", "check"] ["pact", "at", "number", "head"] (zah zeH):=sco
theorem zke (F:Fun K "letter_by" "letter_by" zeH f fd) (b:Binds K fd ["pact", "at", "number", "head"] []) (m:mg "letter_by" = some (.ref f)) (T:Txt mg) (TC:TxC K cl) (TX:TxE K cl ["HeadError", "NoHead", "NoLetter", "NoWord", "NoMore"] ["NoMore", "NoWord", "NoHead"]) (hBitsOf:FnX P w K mg base cl "bits_of" 1 2 zcw) (hCheckOf:FnX P w K mg base cl "check_of" 1 3 zd0) (hCheckWidth:FnX P w K mg base cl "check_width" 2 1 zbk) (hFormAt:FnX P w K mg base cl "form_at" 1 2 zey) (hPieces:FnX P w K mg base cl "pieces" 3 3 zdq) (hRestOf:FnX P w K mg base cl "rest_of" 1 2 zbC) (hSortWidth:FnX P w K mg base cl "sort_width" 2 1 zbY):FnX P w K mg base cl "letter_by" 4 4 zc8 :=
 by walk_at "#vJ}Mthx!oy}NtEt+.x!ow~bx#wN*vS,wL*Ky~N:t+0x!ow~tKKv&u4=#x17,ex17vRwHx!ow~tKK}NbOt9tgKz!Nus???W.uv-yxbOu`tgwI"
theorem scFormerHeads:FnScope ["heads", "reach", "many"] ["heads", "reach"] (zah zcK):=sco
theorem zha (F:Fun K "former_heads" "former_heads" zcK f fd) (b:Binds K fd ["heads", "reach"] []) (m:mg "former_heads" = some (.ref f)) (T:Txt mg) (TC:TxC K cl) (TX:TxE K cl ["HeadError", "NoHead", "NoLetter", "NoWord", "NoMore"] ["NoMore", "NoWord", "NoHead"]):FnX P w K mg base cl "former_heads" 1 2 zcP :=
 by walk_at "#f}Ok}PvTu8wC%4vUwFz#x$z$t^vitV}QvGtc?tLz%Az&Bz'z(tRuIvRt_3t>v*z#x$z$vit`Ltt#vug<]:"
theorem zhV:FnScope ["self", "pact"] ["self", "pact"] (zah zcH):=sco
theorem zg7 (F:Fun K "__init__" "Presser.__init__" zcH f fd) (b:Binds K fd ["self", "pact"] []) (mc:mg "Presser" = some (.ref (cl "Presser"))) (m:Mk K (cl "Presser") f) (T:Txt mg) (TC:TxC K cl) (TX:TxE K cl ["HeadError", "NoHead", "NoLetter", "NoWord", "NoMore"] ["NoMore", "NoWord", "NoHead"]):FnC P w K mg base cl "Presser" 1 2 zbG :=
 have h:=FnC.mk' (P:=P) (w:=w) (base:=base) (cl:=cl) (k:=0) F b mc m zhV rfl fun cdv A outer s H E hr =>
  (zag (zeP (zab 0) (zab 1) TC.cPresser TC.nPresser_pact)
  (zag (zeP (zab 0) (zfb zae) TC.cPresser TC.nPresser_pressed)
  (zag (zeP (zab 0) zbr TC.cPresser TC.nPresser_had)
  (zag (zeP (zab 0) zbr TC.cPresser TC.nPresser_base)
  (zai (zeP (zab 0) zad TC.cPresser TC.nPresser_fresh))))))
 h
theorem scPresserPress:FnScope ["self", "head", "number", "letter"] ["self", "head"] (zah zcg):=sco
theorem zgr (F:Fun K "press" "Presser.press" zcg f fd) (b:Binds K fd ["self", "head"] []) (m:Meth K (cl "Presser") "press" f) (T:Txt mg) (TC:TxC K cl) (TX:TxE K cl ["HeadError", "NoHead", "NoLetter", "NoWord", "NoMore"] ["NoMore", "NoWord", "NoHead"]) (hPresserAskHead:FnEM P w K mg base cl "Presser" "ask_head" 5 2 zaD) (hPresserSent:FnM P w K mg base cl "Presser" "sent" 1 1 zak) (hPresserShortest:FnM P w K mg base cl "Presser" "shortest" 8 2 zaT) (hLetterBy:FnX P w K mg base cl "letter_by" 4 4 zc8):FnEM P w K mg base cl "Presser" "press" 9 2 zaF :=
 have h:=FnEM.mk' (P:=P) (w:=w) (base:=base) (cl:=cl) (k:=8) F b m scPresserPress rfl fun cdv A outer s H E hr =>
  (zcC (YB.ys (zeg (zga rfl hPresserAskHead (zab 0) TC.cPresser rfl (hr.mono (by decide)) (zaa (zab 1) zae) (aCons_len aNil_len))))
  (zcC (zhJ rfl (zao (i:=2) scPresserPress.nd rfl (Or.inl rfl) (zbz hPresserSent (zab 0) TC.cPresser rfl (hr.mono (by decide)))))
  (zcC (zpB rfl (zaA (zbb hr.units) zcb (zab 2) (zam zce zcf zad (qxi hr (zaV (zab 0) TC.cPresser TC.nPresser_pact) zad)) (zax _))
  (zcm (YB.ys (zhK rfl rfl TX (.head _) rfl (zaa zan zae) (aCons_len aNil_len))))
  zmQ)
  (zcC (zhJ rfl (zao (i:=3) scPresserPress.nd rfl (Or.inl rfl) (qfn hLetterBy hr (zaa (zaV (zab 0) TC.cPresser TC.nPresser_pact) (zaa (zcM hPresserShortest (zab 0) TC.cPresser rfl (hr.mono (by decide)) (zaa (zab 1) zae) (aCons_len aNil_len)) (zaa (zab 2) (zaa (zab 1) zae)))))))
  (zcC (zhJ rfl (zdn (zg4 PySem.F.plainAttrs_list PySem.F.slot_list_append PySem.F.type_list_append zdD zfu zdF (zaV (zab 0) TC.cPresser TC.nPresser_pressed) (zaa (zab 1) zae))))
  (zcm (zhJ rfl (zal (zab 3)))))))))
 h
theorem zg2:FnScope ["self", "word"] ["self", "word"] (zah zci):=sco
theorem zgt (F:Fun K "heard" "Presser.heard" zci f fd) (b:Binds K fd ["self", "word"] []) (m:Meth K (cl "Presser") "heard" f) (T:Txt mg) (TC:TxC K cl) (TX:TxE K cl ["HeadError", "NoHead", "NoLetter", "NoWord", "NoMore"] ["NoMore", "NoWord", "NoHead"]) (hPresserHeardOf:FnM P w K mg base cl "Presser" "heard_of" 1 2 za4) (hPresserSent:FnM P w K mg base cl "Presser" "sent" 1 1 zak) (hIsBetween:FnX P w K mg base cl "is_between" 2 3 zaQ) (hIsWorded:FnX P w K mg base cl "is_worded" 2 3 zaM):FnEM P w K mg base cl "Presser" "heard" 3 2 zap :=
 have h:=FnEM.mk' (P:=P) (w:=w) (base:=base) (cl:=cl) (k:=2) F b m zg2 rfl fun cdv A outer s H E hr =>
  (zcm (zpB rfl (zdC (qfn hIsWorded hr (zaa (zab 1) (zaa zan (zaa zad zae)))))
  (zcC (zhJ rfl (zeP (zab 0) (zbz hPresserSent (zab 0) TC.cPresser rfl (hr.mono (by decide))) TC.cPresser TC.nPresser_fresh))
  (zcm (zhJ rfl (zeP (zab 0) zbr TC.cPresser TC.nPresser_base))))
  (zcm (zpB rfl (zcT (zgj (zdC (qfn hIsWorded hr (zaa (zab 1) (zaa zan (zaa zad zae))))) (zek (zdC (qfn hIsBetween hr (zaa (qxi hr (zab 1) zad) (zaa zad (zaa (zam zbS zbT (zbz hPresserSent (zab 0) TC.cPresser rfl (hr.mono (by decide))) zad) zae))))))))
  (zcm (zhJ rfl (zdn (zcM hPresserHeardOf (zab 0) TC.cPresser rfl (hr.mono (by decide)) (zaa (qxi hr (zab 1) zad) zae) (aCons_len aNil_len)))))
  (zcm (YB.ys (zhK rfl rfl TX (.tail _ (.head _)) rfl (zaa zan zae) (aCons_len aNil_len))))))))
 h
theorem zhU:FnScope ["self"] ["self"] (zah zcG):=sco
theorem zg6 (F:Fun K "sent" "Presser.sent" zcG f fd) (b:Binds K fd ["self"] []) (m:Meth K (cl "Presser") "sent" f) (T:Txt mg) (TC:TxC K cl) (TX:TxE K cl ["HeadError", "NoHead", "NoLetter", "NoWord", "NoMore"] ["NoMore", "NoWord", "NoHead"]):FnM P w K mg base cl "Presser" "sent" 1 1 zak :=
 by walk_at "#tpt<}R4vQu6z)%"
theorem zg1:FnScope ["self"] ["self"] (zah zch):=sco
theorem zgs (F:Fun K "known" "Presser.known" zch f fd) (b:Binds K fd ["self"] []) (m:Meth K (cl "Presser") "known" f) (T:Txt mg) (TC:TxC K cl) (TX:TxE K cl ["HeadError", "NoHead", "NoLetter", "NoWord", "NoMore"] ["NoMore", "NoWord", "NoHead"]):FnM P w K mg base cl "Presser" "known" 1 1 za9 :=
 by walk_at "#tpt<}S4uwwO#wP#u6xd%"
theorem zfI:FnScope ["self", "reach"] ["self", "reach"] (zah zbJ):=sco
theorem zfe (F:Fun K "formers" "Presser.formers" zbJ f fd) (b:Binds K fd ["self", "reach"] []) (m:Meth K (cl "Presser") "formers" f) (T:Txt mg) (TC:TxC K cl) (TX:TxE K cl ["HeadError", "NoHead", "NoLetter", "NoWord", "NoMore"] ["NoMore", "NoWord", "NoHead"]) (hFormerHeads:FnX P w K mg base cl "former_heads" 1 2 zcP):FnM P w K mg base cl "Presser" "formers" 2 2 zaJ :=
 by walk_at "#tpD}TvI}Ubu6z)tE"
theorem zge:FnScope ["self", "head", "at"] ["self", "head", "at"] (zah zb3):=sco
theorem zfK (F:Fun K "why_not" "Presser.why_not" zb3 f fd) (b:Binds K fd ["self", "head", "at"] []) (m:Meth K (cl "Presser") "why_not" f) (T:Txt mg) (TC:TxC K cl) (TX:TxE K cl ["HeadError", "NoHead", "NoLetter", "NoWord", "NoMore"] ["NoMore", "NoWord", "NoHead"]) (hPresserAskHead:FnEM P w K mg base cl "Presser" "ask_head" 5 2 zaD) (hPresserHindrance:FnM P w K mg base cl "Presser" "hindrance" 7 3 zaz):FnEM P w K mg base cl "Presser" "why_not" 8 3 za1 :=
 have h:=FnEM.mk' (P:=P) (w:=w) (base:=base) (cl:=cl) (k:=7) F b m zge rfl fun cdv A outer s H E hr =>
  (zcC (YB.ys (zeg (zga rfl hPresserAskHead (zab 0) TC.cPresser rfl (hr.mono (by decide)) (zaa (zab 1) zae) (aCons_len aNil_len))))
  (zcm (zhJ rfl (zal (zcM hPresserHindrance (zab 0) TC.cPresser rfl (hr.mono (by decide)) (zaa (zab 1) (zaa (zab 2) zae)) (aCons_len (aCons_len aNil_len)))))))
 h
theorem zgf:FnScope ["self", "head"] ["self", "head"] (zah zb4):=sco
theorem zfL (F:Fun K "usable" "Presser.usable" zb4 f fd) (b:Binds K fd ["self", "head"] []) (m:Meth K (cl "Presser") "usable" f) (T:Txt mg) (TC:TxC K cl) (TX:TxE K cl ["HeadError", "NoHead", "NoLetter", "NoWord", "NoMore"] ["NoMore", "NoWord", "NoHead"]) (hPresserAskHead:FnEM P w K mg base cl "Presser" "ask_head" 5 2 zaD) (hPresserHindrance:FnM P w K mg base cl "Presser" "hindrance" 7 3 zaz):FnEM P w K mg base cl "Presser" "usable" 8 2 zay :=
 have h:=FnEM.mk' (P:=P) (w:=w) (base:=base) (cl:=cl) (k:=7) F b m zgf rfl fun cdv A outer s H E hr =>
  (zcC (YB.ys (zeg (zga rfl hPresserAskHead (zab 0) TC.cPresser rfl (hr.mono (by decide)) (zaa (zab 1) zae) (aCons_len aNil_len))))
  (zcm (zhJ rfl (zal (zbs (zcy rfl) zgP (by rfl) T.tuple boot_tuple (zaa (zbW rfl rfl (N0:=["self", "head"]) (xs:=["at"]) ⟨(by with_unfolding_all rfl),rfl,rfl,rfl,(by repeat (first | exact trivial | refine ⟨rfl,?_⟩)),rfl,.inl rfl⟩ (zem (by rfl) T.range (zaa (zaH zaX zcQ (by rfl) T.len PySem.boot_len (zaa (qxi hr (zaV (zab 0) TC.cPresser TC.nPresser_pact) zad) zae)) zae)) (fun _ _ _ _=>(zat (i:=2) (by decide +kernel:(["self", "head", "at"]:List Str).Nodup) rfl (Or.inl rfl))) (fun _ _ _ _=>(zrY (zaA zgq zkl (zcM hPresserHindrance (zab 0) TC.cPresser rfl (hr.mono (by decide)) (zaa (zab 1) (zaa (zab 2) zae)) (aCons_len (aCons_len aNil_len))) zbr (zax _)))) (fun _ _ _ _=>(zab 2))) zae))))))
 h
theorem zfJ:FnScope ["self", "head"] ["self", "head"] (zah zbK):=sco
theorem zff (F:Fun K "ask_head" "Presser.ask_head" zbK f fd) (b:Binds K fd ["self", "head"] []) (m:Meth K (cl "Presser") "ask_head" f) (T:Txt mg) (TC:TxC K cl) (TX:TxE K cl ["HeadError", "NoHead", "NoLetter", "NoWord", "NoMore"] ["NoMore", "NoWord", "NoHead"]) (hIsHead:FnX P w K mg base cl "is_head" 4 2 zaR):FnEM P w K mg base cl "Presser" "ask_head" 5 2 zaD :=
 have h:=FnEM.mk' (P:=P) (w:=w) (base:=base) (cl:=cl) (k:=4) F b m zfJ rfl fun cdv A outer s H E hr =>
  (zcm (zpB rfl (zgk (zdC (qfn hIsHead hr (zaa (qxi hr (zaV (zab 0) TC.cPresser TC.nPresser_pact) zad) (zaa (zab 1) zae)))))
  (zcm (YB.ys (zhK rfl rfl TX (.tail _ (.tail _ (.head _))) rfl (zaa zan zae) (aCons_len aNil_len))))
  zmQ))
 h
theorem scPresserHindrance:FnScope ["self", "head", "at", "reach", "count"] ["self", "head", "at"] (zah zbm):=sco
theorem zeq (F:Fun K "hindrance" "Presser.hindrance" zbm f fd) (b:Binds K fd ["self", "head", "at"] []) (m:Meth K (cl "Presser") "hindrance" f) (T:Txt mg) (TC:TxC K cl) (TX:TxE K cl ["HeadError", "NoHead", "NoLetter", "NoWord", "NoMore"] ["NoMore", "NoWord", "NoHead"]) (hPresserFormers:FnM P w K mg base cl "Presser" "formers" 2 2 zaJ) (hPresserIsCounted:FnM P w K mg base cl "Presser" "is_counted" 2 2 za3) (hPresserIsShared:FnM P w K mg base cl "Presser" "is_shared" 2 2 zbc) (hPresserIsToldAnew:FnM P w K mg base cl "Presser" "is_told_anew" 2 1 zaW) (hDoubt:FnX P w K mg base cl "doubt" 6 4 zjq):FnM P w K mg base cl "Presser" "hindrance" 7 3 zaz :=
 by walk_at "#tp0}VwGu2u&wQ<v(vMt03z*tH7z*tIu]w|w[}Wv14qt3u]x]w|v+}Xv1tgvV4qt3u]x]w|v+}Yv1u%vV4qt--}ZbTwQ#u&wQ<tR#v+xev1tgvV%"
theorem zfH:FnScope ["self", "number"] ["self", "number"] (zah zbI):=sco
theorem zfd (F:Fun K "heard_of" "Presser.heard_of" zbI f fd) (b:Binds K fd ["self", "number"] []) (m:Meth K (cl "Presser") "heard_of" f) (T:Txt mg) (TC:TxC K cl) (TX:TxE K cl ["HeadError", "NoHead", "NoLetter", "NoWord", "NoMore"] ["NoMore", "NoWord", "NoHead"]):FnM P w K mg base cl "Presser" "heard_of" 1 2 za4 :=
 by walk_at "#tpt<}[t2z+Zx#wNwOvS*vW#wOtEwXy5vPx%x&*u6xdQu'z+Zx#wNwPvS*vW#wPtEwXy6t3"
theorem scPresserShortest:FnScope ["self", "head", "best", "at"] ["self", "head"] (zah zbu):=sco
theorem zeU (F:Fun K "shortest" "Presser.shortest" zbu f fd) (b:Binds K fd ["self", "head"] []) (m:Meth K (cl "Presser") "shortest" f) (T:Txt mg) (TC:TxC K cl) (TX:TxE K cl ["HeadError", "NoHead", "NoLetter", "NoWord", "NoMore"] ["NoMore", "NoWord", "NoHead"]) (hPresserHindrance:FnM P w K mg base cl "Presser" "hindrance" 7 3 zaz) (hLetterSize:FnX P w K mg base cl "letter_size" 4 2 zbD):FnM P w K mg base cl "Presser" "shortest" 8 2 zaT :=
 by walk_at "#tp>}]kxf't4uex'vG#vQTwQ:tq3xf'x;wRvH-z,bw!tg-z,bw!uIwSwNv+}^v1tRtgy1vVvStF=xf']t-<"
theorem scPresserIsToldAnew:FnScope ["self", "anew"] ["self"] (zah zbf):=sco
theorem zd3 (F:Fun K "is_told_anew" "Presser.is_told_anew" zbf f fd) (b:Binds K fd ["self"] []) (m:Meth K (cl "Presser") "is_told_anew" f) (T:Txt mg) (TC:TxC K cl) (TX:TxE K cl ["HeadError", "NoHead", "NoLetter", "NoWord", "NoMore"] ["NoMore", "NoWord", "NoHead"]) (hPresserSent:FnM P w K mg base cl "Presser" "sent" 1 1 zak):FnM P w K mg base cl "Presser" "is_told_anew" 2 1 zaW :=
 by walk_at "#tpD}_uH}`'u&w!u_wAv%uMt'Qvnv%tst:wTt'Q"
theorem scPresserIsShared:FnScope ["self", "reach", "shared", "before"] ["self", "reach"] (zah zbv):=sco
theorem zeV (F:Fun K "is_shared" "Presser.is_shared" zbv f fd) (b:Binds K fd ["self", "reach"] []) (m:Meth K (cl "Presser") "is_shared" f) (T:Txt mg) (TC:TxC K cl) (TX:TxE K cl ["HeadError", "NoHead", "NoLetter", "NoWord", "NoMore"] ["NoMore", "NoWord", "NoHead"]) (hPresserSent:FnM P w K mg base cl "Presser" "sent" 1 1 zak):FnM P w K mg base cl "Presser" "is_shared" 2 2 zbc :=
 by walk_at "#tpD}akz-'x#wNwPvSvl%vl#wP%uJz-'ggwT,u&w!u_tSx%x&]u6xdQu'w?wswtwuvmwv<tgt-tL}bA}cB}d}e#}fxlv*z.x$xWz/t^uWtV}g<t_7xtz.x$xWz/uWt`v%x%x&^gwT*Q%"
theorem scPresserIsCounted:FnScope ["self", "count", "gap", "late", "least"] ["self", "count"] (zah zbl):=sco
theorem zep (F:Fun K "is_counted" "Presser.is_counted" zbl f fd) (b:Binds K fd ["self", "count"] []) (m:Meth K (cl "Presser") "is_counted" f) (T:Txt mg) (TC:TxC K cl) (TX:TxE K cl ["HeadError", "NoHead", "NoLetter", "NoWord", "NoMore"] ["NoMore", "NoWord", "NoHead"]) (hPresserSent:FnM P w K mg base cl "Presser" "sent" 1 1 zak):FnM P w K mg base cl "Presser" "is_counted" 2 2 za3 :=
 by walk_at "#tpD}hwGu2TwQvMvMt0=x(tH3x(tIthx('vWtcggwT,<%tSyyyzwOvStF7x('vWu`#gwO]wJv%z0z1t/*g?wT]^Q"
theorem scLawBox:FnScope ["_law_script", "_law_seed", "_law_own", "_law_far", "_law_cell"] ["_law_script"] (zah zh3):=sco
theorem zn5 (F:Fun K "_law_box" "_law_box" zh3 f fd) (b:Binds K fd ["_law_script"] []) (m:mg "_law_box" = some (.ref f)) (T:Txt mg) (TC:TxC K cl) (TX:TxE K cl ["HeadError", "NoHead", "NoLetter", "NoWord", "NoMore"] ["NoMore", "NoWord", "NoHead"]):FnX P w K mg base cl "_law_box" 1 1 zfl :=
 by walk_at "#f}iuHvqw=kvq'vl%uJvq'px)x*px)x*px)x*px)x*tititititiw>u2Zv(vMtq7vq'uHvq'uL?at't:^tiu_vPx%x&tLz2z3Bz4z5u%tiQu'w?wswtwuvmwv<#t:tLz2z3Bz4z5u%]wJ}jxg<xg*xg,}k}lu*"
theorem scLawNext:FnScope ["_law_box_here", "_law_many", "_law_digit", "_law_turn", "_law_mixed"] ["_law_box_here", "_law_many"] (zah zf0):=sco
theorem zmd (F:Fun K "_law_next" "_law_next" zf0 f fd) (b:Binds K fd ["_law_box_here", "_law_many"] []) (m:mg "_law_next" = some (.ref f)) (T:Txt mg) (TC:TxC K cl) (TX:TxE K cl ["HeadError", "NoHead", "NoLetter", "NoWord", "NoMore"] ["NoMore", "NoWord", "NoHead"]):FnX P w K mg base cl "_law_next" 1 2 zau :=
 by walk_at "#f}mt2ynuQwdxBwRuMtjtl%wSt=tsTtju_Qu'w?}n}o}pvm}qtjt1tSuMtjtl%Qkvr't:Ttj,*wGpz6z7Ttj,*}rtj,4<t3t2}s}ttKZq?tj,AuJvr'tjthvrtG?tjaa]tfatfthvr't:a^u_thvr't:a^?t:^u_,4t:pz6z7^,*"
theorem zrJ:FnScope ["_law_box_here", "_law_some"] ["_law_box_here", "_law_some"] (zah zkZ):=sco
theorem zqk (F:Fun K "_law_of" "_law_of" zkZ f fd) (b:Binds K fd ["_law_box_here", "_law_some"] []) (m:mg "_law_of" = some (.ref f)) (T:Txt mg) (TC:TxC K cl) (TX:TxE K cl ["HeadError", "NoHead", "NoLetter", "NoWord", "NoMore"] ["NoMore", "NoWord", "NoHead"]) (hLawNext:FnX P w K mg base cl "_law_next" 1 2 zau):FnX P w K mg base cl "_law_of" 2 2 zbg :=
 by walk_at "#ta}u4T*-vXu8uu"
theorem scLawValue:FnScope ["_law_box_here", "_law_breadth", "_law_some"] ["_law_box_here", "_law_breadth"] (zah zeI):=sco
theorem zkf (F:Fun K "_law_value" "_law_value" zeI f fd) (b:Binds K fd ["_law_box_here", "_law_breadth"] []) (m:mg "_law_value" = some (.ref f)) (T:Txt mg) (TC:TxC K cl) (TX:TxE K cl ["HeadError", "NoHead", "NoLetter", "NoWord", "NoMore"] ["NoMore", "NoWord", "NoHead"]) (hLawNext:FnX P w K mg base cl "_law_next" 1 2 zau):FnX P w K mg base cl "_law_value" 2 2 zbq :=
 by walk_at "#ta}vk}w'xm#gt/t'KvXt/*ust:u9uNt1t/*"
theorem scLawKind:FnScope ["_law_box_here", "_law_place", "_law_breadth", "_law_way_here", "_law_many", "_law_first", "_law_step", "_law_times"] ["_law_box_here", "_law_place", "_law_breadth"] (zah zf1):=sco
theorem zme (F:Fun K "_law_kind" "_law_kind" zf1 f fd) (b:Binds K fd ["_law_box_here", "_law_place", "_law_breadth"] []) (m:mg "_law_kind" = some (.ref f)) (T:Txt mg) (TC:TxC K cl) (TX:TxE K cl ["HeadError", "NoHead", "NoLetter", "NoWord", "NoMore"] ["NoMore", "NoWord", "NoHead"]) (hLawNext:FnX P w K mg base cl "_law_next" 1 2 zau) (hLawOf:FnX P w K mg base cl "_law_of" 2 2 zbg) (hLawValue:FnX P w K mg base cl "_law_value" 2 2 zbq):FnX P w K mg base cl "_law_kind" 3 3 zdL :=
 by walk_at "#tb}xuJvsov.t1tSvHtfwU%t3tSvHtfwUKxhNt9:vNtfQthvs'tLz%Az&Bz'z(#wLuNvYt/<%wGLKvXt/<e?a,uNt1vRt0.vszcz[0vsvTxC4uOvUv~z8t5z9z:z;z<z=z>z?t^x+tVx'vGu%t_St>}yt5z9z:z;z<z=z>z?x+t`uLW.auvWSt/<:t3u]wRvHtfwSt=z0z1t'QwHvs'xm#vZuY#vZ#guNt1vR4t$Kv.tEKy'Nut:t-t$%"
theorem scLawShape:FnScope ["_law_box_here", "_law_most", "_law_letters", "_law_first", "_law_fields", "_law_place", "_law_breadth", "_law_name"] ["_law_box_here", "_law_most"] (zah zeJ):=sco
theorem zkg (F:Fun K "_law_shape" "_law_shape" zeJ f fd) (b:Binds K fd ["_law_box_here", "_law_most"] []) (m:mg "_law_shape" = some (.ref f)) (T:Txt mg) (TC:TxC K cl) (TX:TxE K cl ["HeadError", "NoHead", "NoLetter", "NoWord", "NoMore"] ["NoMore", "NoWord", "NoHead"]) (hLawKind:FnX P w K mg base cl "_law_kind" 3 3 zdL) (hLawNext:FnX P w K mg base cl "_law_next" 1 2 zau) (hLawOf:FnX P w K mg base cl "_law_of" 2 2 zbg):FnX P w K mg base cl "_law_shape" 4 2 zc9 :=
 by walk_at "#vJ}zkvt'qt2zAv]3zB7AvtuZu*uZKv.vYvl:Auex'vG#wLuNuutq.vt't+0vtoxuuY:wHvt'au9uL]a,WxnwLuL]Wxnu'w?wswtwuvmwv^#LutvOK}{NtevOux4uwvUu%v[tctiux"
theorem scLawWay:FnScope ["_law_box_here", "_law_breadth", "_law_way_here", "_law_width"] ["_law_box_here", "_law_breadth"] (zah zh2):=sco
theorem zn4 (F:Fun K "_law_way" "_law_way" zh2 f fd) (b:Binds K fd ["_law_box_here", "_law_breadth"] []) (m:mg "_law_way" = some (.ref f)) (T:Txt mg) (TC:TxC K cl) (TX:TxE K cl ["HeadError", "NoHead", "NoLetter", "NoWord", "NoMore"] ["NoMore", "NoWord", "NoHead"]) (hLawNext:FnX P w K mg base cl "_law_next" 1 2 zau) (hLawValue:FnX P w K mg base cl "_law_value" 2 2 zbq):FnX P w K mg base cl "_law_way" 3 2 ze1 :=
 by walk_at "#tb}|kzCov.t1tSvH<,wU%vN<,wU%t3uJzCtG,uNtE4t$ttKxhNtt:"
theorem scLawForm:FnScope ["_law_box_here", "_law_shape_here", "_law_ways"] ["_law_box_here", "_law_shape_here"] (zah zf2):=sco
theorem zmf (F:Fun K "_law_form" "_law_form" zf2 f fd) (b:Binds K fd ["_law_box_here", "_law_shape_here"] []) (m:mg "_law_form" = some (.ref f)) (T:Txt mg) (TC:TxC K cl) (TX:TxE K cl ["HeadError", "NoHead", "NoLetter", "NoWord", "NoMore"] ["NoMore", "NoWord", "NoHead"]) (hLawOf:FnX P w K mg base cl "_law_of" 2 2 zbg) (hLawWay:FnX P w K mg base cl "_law_way" 3 2 ze1):FnX P w K mg base cl "_law_form" 4 2 zda :=
 by walk_at "#vJ}}k}~'vUwFt5u3zDt^x,wDwEt_3t>v*t5u3zDx,t`-~!x2TtfusLv[t!:v[uYt!:uI"
theorem scLawRoad:FnScope ["_law_box_here", "_law_skips", "_law_gap"] ["_law_box_here"] (zah zfY):=sco
theorem zmb (F:Fun K "_law_road" "_law_road" zfY f fd) (b:Binds K fd ["_law_box_here"] []) (m:mg "_law_road" = some (.ref f)) (T:Txt mg) (TC:TxC K cl) (TX:TxE K cl ["HeadError", "NoHead", "NoLetter", "NoWord", "NoMore"] ["NoMore", "NoWord", "NoHead"]) (hLawOf:FnX P w K mg base cl "_law_of" 2 2 zbg):FnX P w K mg base cl "_law_road" 3 1 ze2 :=
 by walk_at "#tb~#uHzEoxut!:kzEtG*-x6t!usLtRt9v[:v[t!ux"
theorem scLawPact:FnScope ["_law_box_here", "_law_most", "_law_shape_here", "_law_forms"] ["_law_box_here", "_law_most"] (zah zfZ):=sco
theorem zmc (F:Fun K "_law_pact" "_law_pact" zfZ f fd) (b:Binds K fd ["_law_box_here", "_law_most"] []) (m:mg "_law_pact" = some (.ref f)) (T:Txt mg) (TC:TxC K cl) (TX:TxE K cl ["HeadError", "NoHead", "NoLetter", "NoWord", "NoMore"] ["NoMore", "NoWord", "NoHead"]) (hLawForm:FnX P w K mg base cl "_law_form" 4 2 zda) (hLawOf:FnX P w K mg base cl "_law_of" 2 2 zbg) (hLawRoad:FnX P w K mg base cl "_law_road" 3 1 ze2) (hLawShape:FnX P w K mg base cl "_law_shape" 4 2 zc9):FnX P w K mg base cl "_law_pact" 5 2 zdY :=
 by walk_at "#u)7~$kzFvT-~%NtEuJzF'vUv~v*t5zGu3zHt^x+tVx'vGv[uxt_7xtt5zGu3zHx+t`-~&Nt9usLt9Kx6:ttK~'N:"
theorem ziJ:FnScope ["_law_box_here", "_law_shape_here"] ["_law_box_here", "_law_shape_here"] (zah zdk):=sco
theorem zig (F:Fun K "_law_any_head" "_law_any_head" zdk f fd) (b:Binds K fd ["_law_box_here", "_law_shape_here"] []) (m:mg "_law_any_head" = some (.ref f)) (T:Txt mg) (TC:TxC K cl) (TX:TxE K cl ["HeadError", "NoHead", "NoLetter", "NoWord", "NoMore"] ["NoMore", "NoWord", "NoHead"]) (hLawValue:FnX P w K mg base cl "_law_value" 2 2 zbq):FnX P w K mg base cl "_law_any_head" 3 2 zb1 :=
 by walk_at "#tb~(4vUv~u1t5u3t^x,wDwEt_=t>w^t5u3x,t`-xhx2wM:"
theorem scLawExpected:FnScope ["_law_shape_here", "_law_place", "_law_former", "_law_ahead", "_law_more", "_law_kind_here", "_law_was"] ["_law_shape_here", "_law_place", "_law_former", "_law_ahead", "_law_more"] (zah zcJ):=sco
theorem zg9 (F:Fun K "_law_expected" "_law_expected" zcJ f fd) (b:Binds K fd ["_law_shape_here", "_law_place", "_law_former", "_law_ahead", "_law_more"] []) (m:mg "_law_expected" = some (.ref f)) (T:Txt mg) (TC:TxC K cl) (TX:TxE K cl ["HeadError", "NoHead", "NoLetter", "NoWord", "NoMore"] ["NoMore", "NoWord", "NoHead"]):FnX P w K mg base cl "_law_expected" 1 5 zbP :=
 by walk_at "#f~)t2zAv].zB0Ax-uZu*uZ#u&Ot'#u9*%Av/tJqQtF0x-tGuvatJ^x;wRtstJqwSt=~*tK~+uvtJAtF0x-'TtJuLystJvO%^vQtJ%vPtstJqQtF0x-tGuvatJgT]tJu9tJt-t:uvt/u&Ot'"
theorem scLawNextHead:FnScope ["_law_box_here", "_law_shape_here", "_law_former", "_law_calm", "_law_head", "_law_place", "_law_field", "_law_value_here"] ["_law_box_here", "_law_shape_here", "_law_former", "_law_calm"] (zah zcI):=sco
theorem zg8 (F:Fun K "_law_next_head" "_law_next_head" zcI f fd) (b:Binds K fd ["_law_box_here", "_law_shape_here", "_law_former", "_law_calm"] []) (m:mg "_law_next_head" = some (.ref f)) (T:Txt mg) (TC:TxC K cl) (TX:TxE K cl ["HeadError", "NoHead", "NoLetter", "NoWord", "NoMore"] ["NoMore", "NoWord", "NoHead"]) (hLawExpected:FnX P w K mg base cl "_law_expected" 1 5 zbP) (hLawNext:FnX P w K mg base cl "_law_next" 1 2 zau) (hLawOf:FnX P w K mg base cl "_law_of" 2 2 zbg):FnX P w K mg base cl "_law_next_head" 3 4 zbH :=
 by walk_at "#tb~,thv,'L%uewKwEt0.v,tH0v,tIwHv,o~-vKtet9u`t1v/uNtg,QtF>v,'uLwI-z_tltcvZtcvZKvXt/tduxt/tdt3tF7v,tG^Lut%4^"
theorem zne:FnScope ["_law_box_here", "_law_sent"] ["_law_box_here", "_law_sent"] (zah zfW):=sco
theorem zl9 (F:Fun K "_law_word" "_law_word" zfW f fd) (b:Binds K fd ["_law_box_here", "_law_sent"] []) (m:mg "_law_word" = some (.ref f)) (T:Txt mg) (TC:TxC K cl) (TX:TxE K cl ["HeadError", "NoHead", "NoLetter", "NoWord", "NoMore"] ["NoMore", "NoWord", "NoHead"]) (hLawNext:FnX P w K mg base cl "_law_next" 1 2 zau) (hLawOf:FnX P w K mg base cl "_law_of" 2 2 zbg):FnX P w K mg base cl "_law_word" 3 2 zdX :=
 by walk_at "#tb~.u]y7~/t=tsuNt1,Q~0t=tst'wUwJuOvWtcggt'-x6t!Kv.uuux"
theorem scLawClass:FnScope ["_law_e", "_law_some"] ["_law_e"] (zah zeK):=sco
theorem zkh (F:Fun K "_law_class" "_law_class" zeK f fd) (b:Binds K fd ["_law_e"] []) (m:mg "_law_class" = some (.ref f)) (T:Txt mg) (TC:TxC K cl) (TX:TxE K cl ["HeadError", "NoHead", "NoLetter", "NoWord", "NoMore"] ["NoMore", "NoWord", "NoHead"]):FnH P w K mg base cl "_law_class" 1 1 zb8 :=
 have h:=FnH.mk' (P:=P) (w:=w) (base:=base) (cl:=cl) (k:=0) F b m scLawClass rfl fun cdv A outer s H E hr =>
  (zag (zao (i:=1) scLawClass.nd rfl (Or.inl rfl) (za0 (zaa (zh9 TX (.tail _ (.head _)) (by rfl) T.isi (by rfl) (zab 0)) (zaa (zh9 TX (.tail _ (.tail _ (.tail _ (.head _)))) (by rfl) T.isi (by rfl) (zab 0)) (zaa (zh9 TX (.tail _ (.tail _ (.tail _ (.tail _ (.head _))))) (by rfl) T.isi (by rfl) (zab 0)) (zaa (zh9 TX (.tail _ (.tail _ (.head _))) (by rfl) T.isi (by rfl) (zab 0)) zae))))))
  (zag (zaZ (zcT (zrV (zaA (zdt hr.units) zfM (zg4 PySem.F.plainAttrs_list PySem.F.slot_list_count PySem.F.type_list_count zok zfu zoq (zab 1) (zaa zeQ zae)) zad (zax _)) (znv (zgk (zdC (zr3 TX (by rfl) T.isi (by rfl) T.ValueError (zab 0)))))))
  (zai (zal zan))
  zaC)
  (zai (zal (qe_ix (ix_A (hu_ofH hr)) od_ix (za0 (zaa zan (zaa zan (zaa zan (zaa zan zae))))) (zg4 PySem.F.plainAttrs_list PySem.F.slot_list_index PySem.F.type_list_index zsL zfu zsM (zab 1) (zaa zeQ zae)) (fun _ _=>rfl))))))
 h
theorem scLawTold:FnScope ["_law_presser", "_law_deed", "_law_thing", "_law_at", "_law_found", "_law_e"] ["_law_presser", "_law_deed", "_law_thing", "_law_at"] (zah zfX):=sco
theorem zma (F:Fun K "_law_told" "_law_told" zfX f fd) (b:Binds K fd ["_law_presser", "_law_deed", "_law_thing", "_law_at"] []) (m:mg "_law_told" = some (.ref f)) (T:Txt mg) (TC:TxC K cl) (TX:TxE K cl ["HeadError", "NoHead", "NoLetter", "NoWord", "NoMore"] ["NoMore", "NoWord", "NoHead"]) (hPresserHeard:FnEM P w K mg base cl "Presser" "heard" 3 2 zap) (hPresserPress:FnEM P w K mg base cl "Presser" "press" 9 2 zaF) (hPresserUsable:FnEM P w K mg base cl "Presser" "usable" 8 2 zay) (hPresserWhyNot:FnEM P w K mg base cl "Presser" "why_not" 8 3 za1) (hLawClass:FnH P w K mg base cl "_law_class" 1 1 zb8):FnX P w K mg base cl "_law_told" 10 4 zaS :=
 have h:=mkx P w base cl 9 F b m scLawTold fun cdv A outer s H E hr =>
  (zag (zao (i:=4) scLawTold.nd rfl (Or.inl rfl) zan)
  (zag (qs_try (i:=5) rfl rfl TX (.head _) rfl scLawTold.nd rfl rfl (zrp rfl (zaA (zbb hr.units) zcb (zab 1) zan (zax _))
  (zeg (zga rfl hPresserPress (zab 0) TC.cPresser rfl (hr.mono (by decide)) (zaa (zab 2) zae) (aCons_len aNil_len)))
  (zrp rfl (zaA (zbb hr.units) zcb (zab 1) zan (zax _))
  (zeg (zga rfl hPresserHeard (zab 0) TC.cPresser rfl (hr.mono (by decide)) (zaa (zab 2) zae) (aCons_len aNil_len)))
  (zrp rfl (zaA (zbb hr.units) zcb (zab 1) zan (zax _))
  (zeg (zga rfl hPresserWhyNot (zab 0) TC.cPresser rfl (hr.mono (by decide)) (zaa (zab 2) (zaa (zab 3) zae)) (aCons_len (aCons_len aNil_len))))
  (zeg (zga rfl hPresserUsable (zab 0) TC.cPresser rfl (hr.mono (by decide)) (zaa (zab 2) zae) (aCons_len aNil_len)))))) (fun e=>have hr:=zl2 (v:=some (.ref e)) (roomH hr); (zai (zao (i:=4) scLawTold.nd rfl (Or.inl rfl) (qe_fnH hLawClass rfl (zpY hr (by decide)) rfl (zaa (zab 5) zae) (aCons_len aNil_len))))))
  (zai (zal (zab 4)))))
 h
theorem scLawNoHeads:FnScope ["_law_box_here", "_law_head", "_law_shape_here", "_law_at", "_law_some"] ["_law_box_here", "_law_head", "_law_shape_here"] (zah zdj):=sco
theorem zif (F:Fun K "_law_no_heads" "_law_no_heads" zdj f fd) (b:Binds K fd ["_law_box_here", "_law_head", "_law_shape_here"] []) (m:mg "_law_no_heads" = some (.ref f)) (T:Txt mg) (TC:TxC K cl) (TX:TxE K cl ["HeadError", "NoHead", "NoLetter", "NoWord", "NoMore"] ["NoMore", "NoWord", "NoHead"]) (hLawNext:FnX P w K mg base cl "_law_next" 1 2 zau):FnX P w K mg base cl "_law_no_heads" 2 3 zb0 :=
 by walk_at "#ta~1uJxivT-vXu8uuthxi'wVt/u&wMtf#vZ#uX#t4t##LvYti%t2~2v]7uZxixlxAt5x.u3x/zIt^zJwD^t_.t>~3t5x.u3x/zIzJt`??u2*v(ve]Lte%u2*ve?tfv(4?^wV?*LvYu2*vMv(#w]~4~5B~6~7tRet4#zKt!t##tltReLuu"
theorem scLawNoWords:FnScope ["_law_sent", "_law_some"] ["_law_sent"] (zah zdi):=sco
theorem zie (F:Fun K "_law_no_words" "_law_no_words" zdi f fd) (b:Binds K fd ["_law_sent"] []) (m:mg "_law_no_words" = some (.ref f)) (T:Txt mg) (TC:TxC K cl) (TX:TxE K cl ["HeadError", "NoHead", "NoLetter", "NoWord", "NoMore"] ["NoMore", "NoWord", "NoHead"]):FnX P w K mg base cl "_law_no_words" 1 1 zbZ :=
 by walk_at "#f~8uHzL'wVt$wCeuOvZeuOuXet$et$uYeuOt4et$t#:uHzLtG*wVt$vYuOt4etlt#etlt#t1t#t##Let4#zKtcuX%4?*wVt$vYuwt$:#uwt4eLt!t#euOLt!:#uOti:"
theorem scLawRefuses:FnScope ["_law_box_here", "_law_presser", "_law_pact_here", "_law_head", "_law_before", "_law_thing", "_law_at"] ["_law_box_here", "_law_presser", "_law_pact_here", "_law_head"] (zah zdh):=sco
theorem zid (F:Fun K "_law_refuses" "_law_refuses" zdh f fd) (b:Binds K fd ["_law_box_here", "_law_presser", "_law_pact_here", "_law_head"] []) (m:mg "_law_refuses" = some (.ref f)) (T:Txt mg) (TC:TxC K cl) (TX:TxE K cl ["HeadError", "NoHead", "NoLetter", "NoWord", "NoMore"] ["NoMore", "NoWord", "NoHead"]) (hPresserFormers:FnM P w K mg base cl "Presser" "formers" 2 2 zaJ) (hPresserKnown:FnM P w K mg base cl "Presser" "known" 1 1 za9) (hPresserSent:FnM P w K mg base cl "Presser" "sent" 1 1 zak) (hLawNext:FnX P w K mg base cl "_law_next" 1 2 zau) (hLawNoHeads:FnX P w K mg base cl "_law_no_heads" 2 3 zb0) (hLawNoWords:FnX P w K mg base cl "_law_no_words" 1 1 zbZ) (hLawTold:FnX P w K mg base cl "_law_told" 10 4 zaS):FnX P w K mg base cl "_law_refuses" 11 4 zba :=
 by walk_at "#u)va~9thx0'uwx>uy#w[zMuy#v+xeuyt1vV%w>-~:Ntt#u9vRtq.x0vTtSuMx5~;t5zNzOx.zPzQx/t^zRwDt$t#%t_>t>z8t5zNzOx.zPzQx/zRt`-xjvKuttet1tlt#t#%v-uXt3t+0x0ovXvWtcvQwMuxx;wRuMwML%wSt=uM-xjvKt#tevO%uKuXt3w>-~<bx>uy%tq.x0vTvPuM-xjvKt#tet1uKuXt-v%tsuwx>uy#w[zMuy#v+xeuyt1vV%^Q"
theorem scLaw:FnScope ["_law_script", "_law_box_here", "_law_turn", "_law_shape_here", "_law_wide", "_law_forms", "_law_road_here", "_law_pact_here", "_law_presser", "_law_head", "_law_number", "_law_usable"] ["_law_script"] (zah zrM):=sco
theorem ok_Law (F:Fun K "law" "law" zrM f fd) (b:Binds K fd ["_law_script"] []) (m:mg "law" = some (.ref f)) (T:Txt mg) (TC:TxC K cl) (TX:TxE K cl ["HeadError", "NoHead", "NoLetter", "NoWord", "NoMore"] ["NoMore", "NoWord", "NoHead"]) (hPresserInit:FnC P w K mg base cl "Presser" 1 2 zbG) (hPresserHeard:FnEM P w K mg base cl "Presser" "heard" 3 2 zap) (hPresserPress:FnEM P w K mg base cl "Presser" "press" 9 2 zaF) (hPresserSent:FnM P w K mg base cl "Presser" "sent" 1 1 zak) (hPresserUsable:FnEM P w K mg base cl "Presser" "usable" 8 2 zay) (hLawAnyHead:FnX P w K mg base cl "_law_any_head" 3 2 zb1) (hLawBox:FnX P w K mg base cl "_law_box" 1 1 zfl) (hLawNext:FnX P w K mg base cl "_law_next" 1 2 zau) (hLawNextHead:FnX P w K mg base cl "_law_next_head" 3 4 zbH) (hLawPact:FnX P w K mg base cl "_law_pact" 5 2 zdY) (hLawRefuses:FnX P w K mg base cl "_law_refuses" 11 4 zba) (hLawTold:FnX P w K mg base cl "_law_told" 10 4 zaS) (hLawWord:FnX P w K mg base cl "_law_word" 3 2 zdX):FnOk P w K mg base CX0 12 f fd ["_law_script"] (spD K cl X0 1 zls) :=
 have h:=fnO (P:=P) (w:=w) (mg:=mg) (base:=base) (cl:=cl) (k:=11) F scLaw rfl fun cdv A outer s H E hr =>
  (zag (zao (i:=1) scLaw.nd rfl (Or.inl rfl) (qfn hLawBox hr (zaa (zab 0) zae)))
  (zag (zc2 PassesOwn.never rfl (zem (by rfl) T.range (zaa zad zae)) (zat (i:=2) scLaw.nd rfl (Or.inl rfl))
  (zag (zho (qfn hLawPact hr (zaa (zab 1) (zaa zad zae))) (zcL (n:=4) rfl (zaE (zat (i:=3) scLaw.nd rfl (Or.inl rfl)) (zaE (zat (i:=4) scLaw.nd rfl (Or.inl rfl)) (zaE (zat (i:=5) scLaw.nd rfl (Or.inl rfl)) (zaE (zat (i:=6) scLaw.nd rfl (Or.inl rfl)) zbN))))))
  (zag (zao (i:=7) scLaw.nd rfl (Or.inl rfl) (zaB (zaa (zab 3) (zaa (zam zas zaG zad (qfn hLawNext hr (zaa (zab 1) (zaa zad zae)))) (zaa (qe_slA (zab 5) zel (zcp zad)) (zaa (zab 6) zae))))))
  (zag (znw (i:=8) (j:=9) rfl scLaw.nd rfl rfl (by decide) rfl rfl (zaa (zr2 hPresserInit rfl (hr.mono (by decide)) rfl (zaa (zab 7) zae) (aCons_len aNil_len)) (zaa (qfn hLawAnyHead hr (zaa (zab 1) (zaa (zab 3) zae))) zae)) rfl)
  (zag (zc2 PassesOwn.never rfl (zem (by rfl) T.range (zaa (zam zce zcf zad (qxi hr (zab 7) zad)) zae)) (zat (i:=10) scLaw.nd rfl (Or.inl rfl))
  (zag (zaZ (zaA (zbb hr.units) zcb (qfn hLawNext hr (zaa (zab 1) (zaa zad zae))) zad (zax _))
  (zai (zdn (zcM hPresserHeard.pure (zab 8) TC.cPresser rfl (hr.mono (by decide)) (zaa (qfn hLawWord hr (zaa (zab 1) (zaa (zab 10) zae))) zae) (aCons_len aNil_len))))
  zaC)
  (zag (zaZ (zcT (zgj (zaA (zbb hr.units) zcb (zam zbE zbF (zab 10) zad) zad (zax _)) (zek (zgk (zdC (qfn hLawRefuses hr (zaa (zab 1) (zaa (zab 8) (zaa (zab 7) (zaa (zab 9) zae))))))))))
  (zai (zal zeQ))
  zaC)
  (zag (zdn (zcM hPresserPress.pure (zab 8) TC.cPresser rfl (hr.mono (by decide)) (zaa (zab 9) zae) (aCons_len aNil_len)))
  (zai (zao (i:=9) scLaw.nd rfl (Or.inl rfl) (qfn hLawNextHead hr (zaa (zab 1) (zaa (zab 3) (zaa (zab 9) (zaa zad zae)))))))))))
  (zag (zao (i:=11) scLaw.nd rfl (Or.inl rfl) (zcM hPresserUsable.pure (zab 8) TC.cPresser rfl (hr.mono (by decide)) (zaa (zab 9) zae) (aCons_len aNil_len)))
  (zag (zaZ (zaA (zdt hr.units) zfM (qfn hLawTold hr (zaa (zab 8) (zaa zan (zaa (zab 9) (zaa zad zae))))) zan (zax _))
  (zai (zal zeQ))
  zaC)
  (zag (zaZ (zgk (zdC (qfn hLawRefuses hr (zaa (zab 1) (zaa (zab 8) (zaa (zab 7) (zaa (zab 9) zae)))))))
  (zai (zal zeQ))
  zaC)
  (zai (zaZ (zcT (zrV (zaA (zdt hr.units) zfM (zcM hPresserUsable.pure (zab 8) TC.cPresser rfl (hr.mono (by decide)) (zaa (zab 9) zae) (aCons_len aNil_len)) (zab 11) (zax _)) (znv (zaA (zdt hr.units) zfM (zbz hPresserSent (zab 8) TC.cPresser rfl (hr.mono (by decide))) (zam zce zcf zad (qxi hr (zab 7) zad)) (zax _)))))
  (zai (zal zeQ))
  zaC))))))))))
  (zai (zal zeQ))))
 h
end
end K32
set_option autoImplicit false
namespace K32
open PySem L2 MD
theorem zox {ns:List Int} (h:ns.length<=63):∃ a m,zls [.scr (ns.map D.int)] [] = .ok a m/\a = .bl true:=zkv h
end K32
set_option autoImplicit false
namespace K32
open PySem PyProof.Rows L2 MD PySem.W.Fast
theorem trH {α β : Type} {f f' g g':α -> β} (a:f=f') (c:g=g') {w:α} (b:f' w=g' w):f w=g w:=by rw [a,c]; exact b
theorem hl:PySem.W.LeftO pw vw [] xt (fun s=>obs (Kof 522 s.heap)) (fun _=>expd) 6854:=fun w=>both (parts4 28 (trH te2916058956384126488 te8935751155077465353 (hlq0 w)) (trH te13293578238121853583 te4092068473493155197 (hlq1 w)) (trH te13543277640608126934 te9418948921425222006 (hlq2 w)) (trH te3730828361874132174 te5800169777040010153 (hlq3 w)) (trH te3609824809281727487 te5841948487523204694 (hlq4 w)) (trH te11698274745301945438 te18051543681272687921 (hlq5 w)) (trH te14421847893661057624 te388570958457981350 (hlq6 w)) (trH te11724073461099219596 te398805342082034519 (hlq7 w))) (both4 (trH te13022713888700867887 te14168142940459610883 (hlq8 w)) (trH te11374617961389263495 te14133449222158344553 (hlq9 w)) (zoG (zoG (zoG (zoG (zoG (trH te2596401004361816664 te6265491525912295500 (hlq10 w)) (trH te7570604236984839326 te13039980742828151129 (hlq11 w))) (trH te3115183278988636231 te4574670625145889507 (hlq12 w))) (trH te14309729744875567456 te1590481275943596901 (hlq13 w))) (trH te10098101829970142671 te15674802851634364906 (hlq14 w))) (trH te9796059151318944109 te7438603294791673241 (hlq15 w))))
theorem all_mk {l:PySem.W.OpenLaw} {w:World} {K:PySem.W.Frag} {h:Heap} {mg:Str->Option Value} {fa:Addr} (y:obs K=expd) (X:K.In h) (G:h.Ns mainGlobals mg) (hfa:mg "law" = some (.ref fa)) :
  ∃ fd:FuncData,(∀ (s:Shared) (v:Value),BindsTo s fd ⟨[v],[]⟩ [("_law_script", v)])/\∀ base:Heap,K.In base->base.Ns mainGlobals mg->FnOk l.prog w K mg base CX0 12 fa fd ["_law_script"] (spLaw K):=by
 have y1:nms.map (PySem.W.nsIn K mainGlobals)=nmsE:=congrArg (fun x=>x.1) y
 have y2:fnd.map (fun p=>PySem.W.findIn K (.ref p.1) p.2)=fndE:=congrArg (fun x=>x.2.1) y
 have y3:fns.map (fnV K)=fnsE:=congrArg (fun x=>x.2.2.1) y
 have y4:bls K=blsE:=congrArg (fun x=>x.2.2.2) y
 have n:∀ (i:Nat) {x:Str} {v:Value},nms[i]?=some x->nmsE[i]?=some (some (some v))->mg x=some v:=fun i _ _ a b=>PySem.W.mg_of X G (zmO y1 i a b)
 have o:∀ (i:Nat) {x:Str},nms[i]?=some x->nmsE[i]?=some (some none)->mg x=none:=fun i _ a b=>PySem.W.mg_none_of X G (zmO y1 i a b)
 have u:∀ (st:Stmt) (i:Nat) {a:Addr} {x q:Str},fns[i]?=some a->fnsE[i]?=some (fnE x q st)->∃ fd,Fun K x q st a fd:=fun st i _ _ _ a b=>fun_of (st:=st) (zmO y3 i a b)
 have e:=hfa.symm.trans (n 50 rfl rfl)
 cases e
 have T:Txt mg:=⟨o 57 rfl rfl,o 58 rfl rfl,o 59 rfl rfl,o 60 rfl rfl,o 61 rfl rfl,o 62 rfl rfl,o 63 rfl rfl,o 64 rfl rfl,o 65 rfl rfl,o 66 rfl rfl,o 67 rfl rfl,o 68 rfl rfl,o 69 rfl rfl,o 70 rfl rfl,o 71 rfl rfl,o 72 rfl rfl,o 73 rfl rfl,o 74 rfl rfl⟩
 obtain ⟨cl,ePresser,eHeadError,eNoHead,eNoLetter,eNoWord,eNoMore⟩:∃ cl:Str->Addr,cl "Presser" = 389/\cl "HeadError" = 187/\cl "NoHead" = 200/\cl "NoLetter" = 212/\cl "NoWord" = 224/\cl "NoMore" = 236:=⟨fun x=>if x = "Presser" then 389 else if x = "HeadError" then 187 else if x = "NoHead" then 200 else if x = "NoLetter" then 212 else if x = "NoWord" then 224 else if x = "NoMore" then 236 else 0,if_pos rfl,(if_neg (by decide)).trans (if_pos rfl),(if_neg (by decide)).trans ((if_neg (by decide)).trans (if_pos rfl)),(if_neg (by decide)).trans ((if_neg (by decide)).trans ((if_neg (by decide)).trans (if_pos rfl))),(if_neg (by decide)).trans ((if_neg (by decide)).trans ((if_neg (by decide)).trans ((if_neg (by decide)).trans (if_pos rfl)))),(if_neg (by decide)).trans ((if_neg (by decide)).trans ((if_neg (by decide)).trans ((if_neg (by decide)).trans ((if_neg (by decide)).trans (if_pos rfl)))))⟩
 have ly:∀ (i:Nat) (b:Bool),(bls K)[i]?=some b->b=true:=fun i b hb=>by
  rw [y4] at hb
  exact List.mem_replicate.mp (List.mem_of_getElem? (show (List.replicate 18 true)[i]?=some b from hb)) |>.2
 have cPresser:∀ (i:Nat) {x:Str} {v:Option (Option Value)},fnd[i]?=some (389,x)->fndE[i]?=some v->PySem.W.findIn K (.ref (cl "Presser")) x=v:=fun i _ _ a b=>by rw [ePresser]; exact zmO y2 i a b
 have qPresser:=ly 0 _ rfl
 simp only [Bool.and_eq_true] at qPresser
 obtain ⟨⟨⟨⟨pgPresser,hdPresser⟩,poPresser⟩,mkPresser⟩,kcPresser⟩:=qPresser
 have TC:TxC K cl:=⟨(by rw [ePresser]; exact ⟨pgPresser,hdPresser,poPresser,(zmO y2 0 rfl rfl)⟩),cPresser 1 rfl rfl,cPresser 2 rfl rfl,cPresser 3 rfl rfl,cPresser 4 rfl rfl,cPresser 5 rfl rfl⟩
 have TX:TxE K cl ["HeadError", "NoHead", "NoLetter", "NoWord", "NoMore"] ["NoMore", "NoWord", "NoHead"]:=⟨(zb9 (by rw [eHeadError]; exact (zmO y1 52 rfl rfl)) (zb9 (by rw [eNoHead]; exact (zmO y1 53 rfl rfl)) (zb9 (by rw [eNoLetter]; exact (zmO y1 54 rfl rfl)) (zb9 (by rw [eNoWord]; exact (zmO y1 55 rfl rfl)) (zb9 (by rw [eNoMore]; exact (zmO y1 56 rfl rfl)) zlM))))),ly 16 _ rfl,ly 17 _ rfl,(zb9 (.tail _ (.tail _ (.tail _ (.tail _ (.head _))))) (zb9 (.tail _ (.tail _ (.tail _ (.head _)))) (zb9 (.tail _ (.head _)) zlM)))⟩
 have ⟨_,F65⟩:=u zrM 65 rfl rfl
 have Fx:=F65
 obtain ⟨oc,od,kV,doc,pm,an,cdv,ct,osl,rfl,lk,hcd⟩:=Fx.ex
 refine ⟨PySem.W.fnOf "law" "law" (zfo zrM) (zbe zrM) (zah zrM) .none kV doc pm an cdv ct,fun s v => .of_eq rfl,fun base _ _=>?_⟩
 have ⟨_,F31⟩:=u zcH 31 rfl rfl
 have g31:=zg7 l.prog w base F31 F31.bindA (by rw [ePresser]; exact PySem.W.mg_of X G (zmO y1 51 rfl rfl)) (by rw [ePresser]; exact ⟨mkPresser,(zmO y2 6 rfl rfl),ly 1 _ rfl,kcPresser⟩) T TC TX
 have ⟨_,F41⟩:=u zbI 41 rfl rfl
 have g41:=zfd l.prog w base F41 F41.bindA ⟨cPresser 16 rfl rfl,ly 11 _ rfl,F41.kp⟩ T TC TX
 have ⟨_,F34⟩:=u zcG 34 rfl rfl
 have g34:=zg6 l.prog w base F34 F34.bindA ⟨cPresser 9 rfl rfl,ly 4 _ rfl,F34.kp⟩ T TC TX
 have ⟨_,F4⟩:=u zf3 4 rfl rfl
 have g4:=zmg l.prog w base F4 F4.bindA (n 4 rfl rfl) T TC TX
 have ⟨_,F5⟩:=u zdT 5 rfl rfl
 have g5:=zi2 l.prog w base F5 F5.bindA (n 5 rfl rfl) T TC TX g4
 have ⟨_,F7⟩:=u zk0 7 rfl rfl
 have g7:=zql l.prog w base F7 F7.bindA (n 7 rfl rfl) T TC TX
 have ⟨_,F8⟩:=u zeL 8 rfl rfl
 have g8:=zki l.prog w base F8 F8.bindA (n 8 rfl rfl) T TC TX g7
 have ⟨_,F33⟩:=u zci 33 rfl rfl
 have g33:=zgt l.prog w base F33 F33.bindA ⟨cPresser 8 rfl rfl,ly 3 _ rfl,F33.kp⟩ T TC TX g41 g34 g5 g8
 have ⟨_,F12⟩:=u zeO 12 rfl rfl
 have g12:=zkk l.prog w base F12 F12.bindA (n 12 rfl rfl) T TC TX
 have ⟨_,F6⟩:=u zf4 6 rfl rfl
 have g6:=zmh l.prog w base F6 F6.bindA (n 6 rfl rfl) T TC TX g5
 have ⟨_,F13⟩:=u zh4 13 rfl rfl
 have g13:=zn6 l.prog w base F13 F13.bindA (n 13 rfl rfl) T TC TX g12 g7 g6
 have ⟨_,F39⟩:=u zbK 39 rfl rfl
 have g39:=zff l.prog w base F39 F39.bindA ⟨cPresser 14 rfl rfl,ly 9 _ rfl,F39.kp⟩ T TC TX g13
 have ⟨_,F30⟩:=u zcK 30 rfl rfl
 have g30:=zha l.prog w base F30 F30.bindA (n 30 rfl rfl) T TC TX
 have ⟨_,F36⟩:=u zbJ 36 rfl rfl
 have g36:=zfe l.prog w base F36 F36.bindA ⟨cPresser 11 rfl rfl,ly 6 _ rfl,F36.kp⟩ T TC TX g30
 have ⟨_,F45⟩:=u zbl 45 rfl rfl
 have g45:=zep l.prog w base F45 F45.bindA ⟨cPresser 20 rfl rfl,ly 15 _ rfl,F45.kp⟩ T TC TX g34
 have ⟨_,F44⟩:=u zbv 44 rfl rfl
 have g44:=zeV l.prog w base F44 F44.bindA ⟨cPresser 19 rfl rfl,ly 14 _ rfl,F44.kp⟩ T TC TX g34
 have ⟨_,F43⟩:=u zbf 43 rfl rfl
 have g43:=zd3 l.prog w base F43 F43.bindA ⟨cPresser 18 rfl rfl,ly 13 _ rfl,F43.kp⟩ T TC TX g34
 have ⟨_,F24⟩:=u zdl 24 rfl rfl
 have g24:=zih l.prog w base F24 F24.bindA (n 24 rfl rfl) T TC TX
 have ⟨_,F9⟩:=u zhZ 9 rfl rfl
 have g9:=zn1 l.prog w base F9 F9.bindA (n 9 rfl rfl) T TC TX
 have ⟨_,F15⟩:=u zhX 15 rfl rfl
 have g15:=znZ l.prog w base F15 F15.bindA (n 15 rfl rfl) T TC TX
 have ⟨_,F14⟩:=u zeN 14 rfl rfl
 have g14:=zkj l.prog w base F14 F14.bindA (n 14 rfl rfl) T TC TX g9 g15
 have ⟨_,F1⟩:=u zeG 1 rfl rfl
 have g1:=zkd l.prog w base F1 F1.bindA (n 1 rfl rfl) T TC TX
 have ⟨_,F2⟩:=u zdS 2 rfl rfl
 have g2:=zi1 l.prog w base F2 F2.bindA (n 2 rfl rfl) T TC TX g1
 have ⟨_,F10⟩:=u zeE 10 rfl rfl
 have g10:=zkb l.prog w base F10 F10.bindA (n 10 rfl rfl) T TC TX g9
 have ⟨_,F11⟩:=u zh8 11 rfl rfl
 have g11:=zn9 l.prog w base F11 F11.bindA (n 11 rfl rfl) T TC TX g9 g10
 have ⟨_,F22⟩:=u zdQ 22 rfl rfl
 have g22:=ziZ l.prog w base F22 F22.bindA (n 22 rfl rfl) T TC TX g11
 have ⟨_,F17⟩:=u zfV 17 rfl rfl
 have g17:=zl8 l.prog w base F17 F17.bindA (n 17 rfl rfl) T TC TX
 have ⟨_,F18⟩:=u zhW 18 rfl rfl
 have g18:=znY l.prog w base F18 F18.bindA (n 18 rfl rfl) T TC TX g12 g17
 have ⟨_,F21⟩:=u zh1 21 rfl rfl
 have g21:=zn3 l.prog w base F21 F21.bindA (n 21 rfl rfl) T TC TX g14 g2 g22 g18
 have ⟨_,F0⟩:=u zh7 0 rfl rfl
 have g0:=zn8 l.prog w base F0 F0.bindA (n 0 rfl rfl) T TC TX
 have ⟨_,F19⟩:=u zh0 19 rfl rfl
 have g19:=zn2 l.prog w base F19 F19.bindA (n 19 rfl rfl) T TC TX g0 g9 g18
 have ⟨_,F23⟩:=u zk1 23 rfl rfl
 have g23:=zqm l.prog w base F23 F23.bindA (n 23 rfl rfl) T TC TX g24 g21 g19
 have ⟨_,F40⟩:=u zbm 40 rfl rfl
 have g40:=zeq l.prog w base F40 F40.bindA ⟨cPresser 15 rfl rfl,ly 10 _ rfl,F40.kp⟩ T TC TX g36 g45 g44 g43 g23
 have ⟨_,F3⟩:=u zeF 3 rfl rfl
 have g3:=zkc l.prog w base F3 F3.bindA (n 3 rfl rfl) T TC TX
 have ⟨_,F27⟩:=u zdm 27 rfl rfl
 have g27:=zii l.prog w base F27 F27.bindA (n 27 rfl rfl) T TC TX g3
 have ⟨_,F25⟩:=u zh5 25 rfl rfl
 have g25:=zn7 l.prog w base F25 F25.bindA (n 25 rfl rfl) T TC TX
 have ⟨_,F20⟩:=u zhY 20 rfl rfl
 have g20:=zn0 l.prog w base F20 F20.bindA (n 20 rfl rfl) T TC TX g18
 have ⟨_,F26⟩:=u zdR 26 rfl rfl
 have g26:=zi0 l.prog w base F26 F26.bindA (n 26 rfl rfl) T TC TX g3
 have ⟨_,F28⟩:=u zdg 28 rfl rfl
 have g28:=zic l.prog w base F28 F28.bindA (n 28 rfl rfl) T TC TX g27 g25 g20 g26
 have ⟨_,F42⟩:=u zbu 42 rfl rfl
 have g42:=zeU l.prog w base F42 F42.bindA ⟨cPresser 17 rfl rfl,ly 12 _ rfl,F42.kp⟩ T TC TX g40 g28
 have ⟨_,F16⟩:=u zf5 16 rfl rfl
 have g16:=zmi l.prog w base F16 F16.bindA (n 16 rfl rfl) T TC TX
 have ⟨_,F29⟩:=u zeH 29 rfl rfl
 have g29:=zke l.prog w base F29 F29.bindA (n 29 rfl rfl) T TC TX g0 g16 g27 g25 g19 g9 g26
 have ⟨_,F32⟩:=u zcg 32 rfl rfl
 have g32:=zgr l.prog w base F32 F32.bindA ⟨cPresser 7 rfl rfl,ly 2 _ rfl,F32.kp⟩ T TC TX g39 g34 g42 g29
 have ⟨_,F38⟩:=u zb4 38 rfl rfl
 have g38:=zfL l.prog w base F38 F38.bindA ⟨cPresser 13 rfl rfl,ly 8 _ rfl,F38.kp⟩ T TC TX g39 g40
 have ⟨_,F47⟩:=u zf0 47 rfl rfl
 have g47:=zmd l.prog w base F47 F47.bindA (n 32 rfl rfl) T TC TX
 have ⟨_,F49⟩:=u zeI 49 rfl rfl
 have g49:=zkf l.prog w base F49 F49.bindA (n 34 rfl rfl) T TC TX g47
 have ⟨_,F56⟩:=u zdk 56 rfl rfl
 have g56:=zig l.prog w base F56 F56.bindA (n 41 rfl rfl) T TC TX g49
 have ⟨_,F46⟩:=u zh3 46 rfl rfl
 have g46:=zn5 l.prog w base F46 F46.bindA (n 31 rfl rfl) T TC TX
 have ⟨_,F57⟩:=u zcJ 57 rfl rfl
 have g57:=zg9 l.prog w base F57 F57.bindA (n 42 rfl rfl) T TC TX
 have ⟨_,F48⟩:=u zkZ 48 rfl rfl
 have g48:=zqk l.prog w base F48 F48.bindA (n 33 rfl rfl) T TC TX g47
 have ⟨_,F58⟩:=u zcI 58 rfl rfl
 have g58:=zg8 l.prog w base F58 F58.bindA (n 43 rfl rfl) T TC TX g57 g47 g48
 have ⟨_,F52⟩:=u zh2 52 rfl rfl
 have g52:=zn4 l.prog w base F52 F52.bindA (n 37 rfl rfl) T TC TX g47 g49
 have ⟨_,F53⟩:=u zf2 53 rfl rfl
 have g53:=zmf l.prog w base F53 F53.bindA (n 38 rfl rfl) T TC TX g48 g52
 have ⟨_,F54⟩:=u zfY 54 rfl rfl
 have g54:=zmb l.prog w base F54 F54.bindA (n 39 rfl rfl) T TC TX g48
 have ⟨_,F50⟩:=u zf1 50 rfl rfl
 have g50:=zme l.prog w base F50 F50.bindA (n 35 rfl rfl) T TC TX g47 g48 g49
 have ⟨_,F51⟩:=u zeJ 51 rfl rfl
 have g51:=zkg l.prog w base F51 F51.bindA (n 36 rfl rfl) T TC TX g50 g47 g48
 have ⟨_,F55⟩:=u zfZ 55 rfl rfl
 have g55:=zmc l.prog w base F55 F55.bindA (n 40 rfl rfl) T TC TX g53 g48 g54 g51
 have ⟨_,F35⟩:=u zch 35 rfl rfl
 have g35:=zgs l.prog w base F35 F35.bindA ⟨cPresser 10 rfl rfl,ly 5 _ rfl,F35.kp⟩ T TC TX
 have ⟨_,F62⟩:=u zdj 62 rfl rfl
 have g62:=zif l.prog w base F62 F62.bindA (n 47 rfl rfl) T TC TX g47
 have ⟨_,F63⟩:=u zdi 63 rfl rfl
 have g63:=zie l.prog w base F63 F63.bindA (n 48 rfl rfl) T TC TX
 have ⟨_,F37⟩:=u zb3 37 rfl rfl
 have g37:=zfK l.prog w base F37 F37.bindA ⟨cPresser 12 rfl rfl,ly 7 _ rfl,F37.kp⟩ T TC TX g39 g40
 have ⟨_,F60⟩:=u zeK 60 rfl rfl
 have g60:=zkh l.prog w base F60 F60.bindA (n 45 rfl rfl) T TC TX
 have ⟨_,F61⟩:=u zfX 61 rfl rfl
 have g61:=zma l.prog w base F61 F61.bindA (n 46 rfl rfl) T TC TX g33 g32 g38 g37 g60
 have ⟨_,F64⟩:=u zdh 64 rfl rfl
 have g64:=zid l.prog w base F64 F64.bindA (n 49 rfl rfl) T TC TX g36 g35 g34 g47 g62 g63 g61
 have ⟨_,F59⟩:=u zfW 59 rfl rfl
 have g59:=zl9 l.prog w base F59 F59.bindA (n 44 rfl rfl) T TC TX g47 g48
 have g65:=ok_Law l.prog w base F65 F65.bindA (n 50 rfl rfl) T TC TX g31 g33 g32 g34 g38 g56 g46 g47 g58 g55 g64 g61 g59
 exact MD.law_fn g65 fun _ h=>zox h
end K32
open PySem PySem.W PyProof.Rows
set_option maxRecDepth 100000 in
theorem PySem.Challenge.cw_shorthead_k32_presser_refuses_holds : PySem.Challenge.rw_shorthead_k32_presser_refuses.Holds := by
 w_on; o_law
 refine PySem.W.holds_openX (q:=K32.vw) (loose:=[]) (Xt:=K32.xt) (XP:=PySem.W.XL K32.vw []) (Yf:=fun s=>K32.obs (MD.Kof 522 s.heap)) (Ya:=fun _=>K32.expd) (N:=6854) K32.hl (fun s e=>PySem.W.xl_of s (Bool.and_eq_true_iff.mp e).1) PySem.W.XL.keeps (by rfl) (by rfl) (by rfl) (fun s e=>PySem.W.recFacts_of (Bool.and_eq_true_iff.mp e).2) (by rfl) (by first | assumption | decide +kernel) (by decide +kernel) ⟨rfl,rfl,rfl,rfl,rfl,by decide +kernel⟩ ?hw ?hc
 case hw=>w_witness2
 case hc=>exact MD.walk_ofY (l:=PySem.Challenge.rw_shorthead_k32_presser_refuses) (n:=63) (k:=12) (x := "_law_script") (CX:=L2.CX0) (sp:=MD.spLaw) rfl (by decide) rfl ⟨rfl,by decide,by decide,rfl⟩ (fun K y w mg fa h X G hmg=>K32.all_mk y X G hmg) (fun _ _ a ns hl _ hS=>⟨a,ns,rfl,hS,hl,fun _=>rfl⟩) fun _ _ _ _ z=>z
