import PyProof.Rows.All
import Wide.All
import OpenK.AllK
import Wide.FinOn
import Lean
import PyProof.EqAt
import PyProof.EqKinds
import PyProof.TupleCall
import PySem.Challenge.RW_shorthead_k38_checks_asked
local macro_rules | `(tactic| walk_at $s:str) => do
  let c := s.getString
  if !c.startsWith "#" then Lean.Macro.throwUnsupported
  let J := fun (x : String) => Lean.mkIdent x.toName
  let tb := ("!T6 2zaa 0zaj 2eFn !}~+ !Z6 0zaf 0zad 04 0rfl !Ov' !u1{# 2zac 06 3qfn !Tk !.% 03 !.F !T3 01 !TE !F6 !,% 05 1zaJ !$$ !$b !(( !ZE 07 !Fk !H3 !Z3 02 !x$z| 08 !.T !#0 !.^ 3eOp 0!b2 !u;# !FE 2zap !H6 !Zk !Hk !K{1 1zae !{'{( !u^k !T* !~${6 !Z* 1zab !z~u; !$p !Kz} !czp !~!{* !_E 1gN 2zag 011 !K{& !HE !{0x% !x${2 !u3k !&` 00 5zay !;% !vel !4k 0zbG !uLu5 !K{/ !~#{4 !u&3 !(u= !~'u> 1zaD 010 !#Z !#) !&zs !up( 4zak 014 !mxY !') !,e !u1zp !y>yA 1zah 0zas 3!m0 09 !vYK !xX) !T/ !v'e !8b !T: 0hr 1!f4 0zaw 0!b0 1zcC !{+v& !{,b !u&E !$= !_3 !~,) !~-{C !~6{L !&0 1zbw !x${$ !Ouj !bE !y</ !$% !{O{P ![? !Z/ !xXu2 !u'( 0zbi 6zaE 1!nd 1aIt 0zeT 012 0$number 3!m2 !u;u& !^1 !b3 !re !H: !=3 !u=- !uC( !u36 !xgyV !u<uA !#[ 3sIf 0$shape 7zdO 5zes 0scLawLetter.nd 0scLawPlainPact.nd !u&6 !u_B !%yR !H/ !=E !^7 !%v7 !~<p !vi8 !y=yD !u3E !zx( !&yW !yE) !D) !y?{Z !x,{[ !~B{` !~Dvj 1i:= 2zaB 0zbC 0ltD 0$turn 3!l3 0$least 0$read 3zf3 5zdn !u'u' !++ !H* !K{8 !vfu2 !~%{: !HA !xfR !OyS !~(8 !qw8 !.e !~*+ !~2+ !nv5 !b6 !.v3 !f$ !^! !P$ !v2= !{cu5 !qvZ !muU !2wQ !2xY !v3ur !Hu% !{dv2 !u,x] !_6 ![u- ![u6 !s` !Z: !`) !v(U !-v4 !0wS !>( 1tV 0neD 0zej 0isD 0za7 013 2!l2 4!l4 0scReaderRead.nd 0$_law_k 0$_law_field !cw7 !u$# !V# !HG !y<: !)) !x[yU !y=zv !~F{h !v9! !yH6 !p; !x-x^ !BuK !u_8 !v8x` !w=u? !u5w8 !4* !yJ4 !u5v) !us$ !*uB !y<* !y=yK !.g !1yI !x_$ !x+T !$u7 !~G{k !u2U !&) !xayL !c{l !~HwT !u&: !t( !>- !#u6 !{m{n !_* !y?yX !xZv4 !y?yY !IyM !w>xi 3zaU 0eqD 0$held 1n:= 6zaZ 1zeO 0zeR 0$_law_box_here 1zdM 0$keep 3eIf 0zge 0$check 1zfm 0zhw 0scOpened.nd 0hFormAt 0scParted.nd 0scLawBox.nd 0scLawNext.nd 0scLawKind.nd 0scLawShape.nd 0scLawPieces.nd !v1+ !46 !ztzu !v1{D !x*V !+zs !u&/ !b* !.x+ !;7 !v2$ !R$ !^uq !TG !v:zy !x.% !9uU !RP !xc{o !%x& !vkB !5F !2yR !uDE !x/2 !v;8 !yNzz !4{p !<$ !z{% !%yZ !.h !{qx% !.vl !~Il !~J{u !?) !-0 !v=w? !u&A !#yO !3uW !~Kxd !V( !M[ !)( !Uu1 !wU( !v<yP 1eC 0$Reader 0zc9 0zaN 1zbD 0PassesOwn.never 0hLawNext 3eSl 1aCons_len 2gT 0zcG 0zjJ 0zjo 0zcS 0za4 0zb6 0$low 0zqU 0$whole 0sBad 0$rise 0za3 0zaT 0zbE 1zgm 0scNumbersOf.nd 1zg3 0PySem.F.slot_list_append 0PySem.F.type_list_append 0zdQ 0zdR 0hNumberOf 0scWidthFor.nd 0hRestOf 0zdm 0scExpected.nd 0ze8 1Or.inr 0T.max 0$bound 0zfa 0zhh 1zj1 0zg6 0zhg 1j:= 0$_law_ways 0$_law_forms 0scLawExpected.nd 0scLawBits.nd 0hLawBits ![Q !uUzq !U- !u_uK !{Nzq !EuB !vhv6 !{Q{R !&u< !{Sw: !~;F !u2xZ 0TC.cReader 0zaA 1xs:= 4zeU 0$_law_shape_here 1zdl 0$step 0$with 1zlq 0zhn 030 0geD 2!p2 3zdB 3zkR 0zba 0gtD 2eUn 099 3sPar 016 0za8 0zaM 0zaF 0zaP 0za6 0ziY 0scNumberOf.nd 4zg2 0$head 0$place 0$value 3ziX 0T.enumerate 5!l5 0$form 0$way 0$breadth 0hSortWidth 0zqF 0zqN 3zoe 0zqG 0zqO 1ziW 0hReaderLeast 2QPs.cons 0zg7 0zja 0hLawValue 0scLawOn.nd 0scLawCheck.nd !^T !{-x% ![Z !{7zr !:) !x(v0 !~7{M !w91 !y>/ !~8v0 !wP4 !{T{U !C$ !4: !{X1 !{Yu< !yFv0 !yGE !{ewR !~E{g 0hr.units 0zex 3zhM 0hLawOf 0$own 1!l1 0zct 0TC.nReader_highest 0TC.nReader_held 0zbh 0znR 0zbg 0zoK 0zdi 0zbW 0zbz 0zdu 0$ 0zpL 01000003 0absF 1zhp 0$seed 0popM 0negD 026 020 0$str 0true 0zbT 0zbj 0inD 4zn7 2zlk 5zgC 2eOr 2eAnd 0$nearest 0zaQ 0zh7 0$is_late 0za9 0$late 0$twice 0$is_far 0zbp 0$far 0$head_told 0zaS 0zc4 0$top 0zbo 0$kept 0zaX 0zld 0zgw 1zj0 0T.str 0boot_str 0ziI 0zpu 0T.int 0boot_int 0hWindowed 0$field 2zhS 1ziB 0zpt 0T.sum 0boot_sum 0hBreadths 0hWidths 0hNumbersOf 0hWidthFor 0hCheckWidth 5zl4 9zj2 1zpf 0od_in 0hReaderRise 5zl3 1znf 2qe_or 2zpc 0$self 0$other 0hReaderNearest 4zhR 1ziE 0znt 0boot_max 0zkz 0zpv 0T.abs 0boot_abs 8!l8 0$_law_place 0$_law_breadth 0$_law_way_here 0$_law_many 0$_law_first 0$_law_step 0$_law_times 9!l9 3qe_un 0zo1 0zo2 ;zl2 0scLawWay.nd 0scLawRoad.nd 0scLawPact.nd 0$_law_most 0scLawWidth.nd @zl1 1k:= 0hLawWidth 0$_law_wide 0$_law_road_here 0$_law_some 0hReaderTop 0hReaderKept !{%v& !.uK !Qxe !{.uA !x'R !2x& !{=1 !yTvg !u&* !uquK !43 !{ivY 1.int 0ixD 3qxi 1Or.inl 1zam 1.str 5zal 0za2 1zat 0_ 0zan 0zav 4zaq 2zaL 3zcy 2zaC 0zc7 5zda 0zc2 0.non 0zbd 0zbe 0zaR 0zbm 3zbl 0zfY 1zbu 0zcB 1hr.mono 0zhD 0$pact 5zca 0zcK 0zcL 0zbQ 0zbR 1N0:= 7!a7 0!b4 0!b1 1.inl 0zaK 0zbX 0T.len 0PySem.boot_len 1.bl 0$not 0zdc 0zf9 2zkB 0ziV 3zdN 0gL1 5zcw 0zj4 0false 0$highest 0zcI 0TC.nReader_pact 0aNil_len 1zbF 0zeJ 0T.tuple 0boot_tuple 0zeu 0zew 2zgM 0za0 9zdo 3zcs 0T.range 0zdU 1zhA 1zev 0zh2 2zgn 0zgo 0zk6 060 040 4zec 1zfn 2zhQ 8zl5 0PySem.F.plainAttrs_list 0zh4 0zfK 2aZip 0zbK 0zfR 0zcR 0zcd 0strF 041 063 02305843009213693951 018 2gI 07919 0104729 048271 02305843009213693921 069621 02305843009213693907 065537 0$still 0zoC 0199 0$drawn 0$abcdefghijklmnopqrstuvwxyz 0zcQ 0251 01000 0999983 0zdY 039 0361 0400 0zcf 0zcg 0zdZ 1isiD 0$0 0$1 0zeg 0zd0 0zce 0zbU 0zbV 0za5 6znw 0zfi 0!l0 0zfO 0zbn 0zeh 0$blank 0dctF 0zbc 0zc3 0eqT 0zei 0zbb 2mkM 0zby 0MD.inD 0zlZ 0z38 0b38 0c38 0a38 0w38 0scAreBits 8qe_isi 0T.isi 0scAreBits.nd 0scNumberOf 3!m1 0scNumbersOf 0scWidthFor 0zn4 0zkO 0zn6 0zkP 0scExpected 0hTurned 0zn2 1zmm 0zoz 0zlP 0zlO 0zn1 4qi_zip 0T.zip 0hWidthOf 0zn3 0scOpened 0hExpected 0hValueTold 0ziS 0hAround 0zn5 0ziT 0zhK 0scLetterSize 0scLetterSize.nd 0hSizeOf 0scSortTold 0scSortTold.nd 0scParted 0hAreBits 0hSortTold 0hLetterSize 0scThoseKept 0scThoseKept.nd :zog 1ziD 0zoQ 0T.sorted 0boot_sorted 0scReaderRead 0hParted 0hReaderIsLate 0hReaderIsFar 0hReaderHeadTold 0hCheckOf 0ziU 0zhG 0zln 0fd_dct 0T.dict 0boot_dict 0zgQ 0zf1 0zfk 0scReaderIsFar 0scReaderIsFar.nd 0scReaderHeadTold 0scReaderHeadTold.nd 0hOpened 0zhF 0hThoseKept 0scLawBox 3zp2 0QPs.nil 0!b3 0scLawNext 0PySem.F.slot_list_pop 0PySem.F.type_list_pop 0zoB 0md_pop 2zpZ 0zpR 0scLawValue 0scLawValue.nd 0scLawKind 1znJ 0zrb 0T.min 0boot_min 0scLawShape 0hLawKind 0scLawWay 0scLawForm 0scLawForm.nd 0hLawWay 0scLawRoad 0scLawPact 0hLawShape 0hLawForm 0hLawRoad 0zhJ 0scLawExpected 0scLawOn 0hLawExpected 0scLawBits 0ziC 0fd_str 0scLawWidth 0scLawCheck 0zhI 0scLawPieces 0hLawWidthOf 0scLawLetter 0hLawPieces 0hLawCheck 0scLawPlainPact 0hLawPact =zpY 0scLawStays 0scLawStays.nd 0hReaderRead 1op_eqT 1hu66 0od_eqT !+{! !u*{) !u*{3 !u*{5 !{9yQ !zr+ !~&{; !K{< !c{> !~)x) !u*{? !~+{A !u*{B !{E{F !~.wO !~/{G !~0+ !~1{H !uV{I !~3{J !~4L !~5{K !;x$ !zwyB !K{V !~9F !~:u% !yC{W !w;{] !~=+ !~>{^ !~?L !~A{_ !u*{a !~C{b !{fL !w<xh !{jyQ !xbE !{r{s !xj{t !v>u6".splitOn " ").toArray
  let v := fun (c : Char) => let n := c.toNat; if n > 92 then n - 36 else if n > 64 then n - 35 else if n > 34 then n - 34 else n - 33
  let rd := fun (cs : List Char) => Id.run do
    let mut o : Array Nat := #[]
    let mut p : Option Nat := none
    for c in cs do
      match p with
      | some q => o := o.push (81 + (q - 81) * 91 + v c); p := none
      | none => if v c < 81 then o := o.push (v c) else p := some (v c)
    return o.toList
  let mut td := rd (c.toList.drop 1)
  let mut o : List String := []
  while !td.isEmpty do
    let e := tb[td.head!]!
    if e.startsWith "!" then td := rd (e.toList.drop 1) ++ td.tail
    else o := e :: o; td := td.tail
  let mut st : List Lean.Term := []
  for e in o do
    let nm := ((e.drop 1).toString)
    let k := (e.toList.head!).toNat - 48
    let as := (st.take k).toArray
    st := st.drop k
    let r : Lean.Term ← (do
      if nm.endsWith ":=" then return ⟨Lean.Syntax.node .none ``Lean.Parser.Term.namedArgument #[Lean.mkAtom "(", J (nm.dropEnd 2).toString, Lean.mkAtom ":=", as[0]!, Lean.mkAtom ")"]⟩
      if nm == "_" then return ← `(_)
      if nm.startsWith "!" then
        match (nm.drop 1).toString with
        | "b0" => return ← `((by decide))
        | "b1" => return ← `((by repeat ( first | exact trivial | refine ⟨ rfl , ?_ ⟩ )))
        | "b2" => return ← `((by rfl))
        | "b3" => return ← `((by simp))
        | "b4" => return ← `((by with_unfolding_all rfl))
        | "nd" => return ← `((by decide +kernel : ($(as[0]!) : List $(J "Str")).Nodup))
        | "m0" => return ← `(have h := $(J "mkx") $(J "P") $(J "w") $(J "base") $(J "cl") $(as[0]!) $(J "F") $(J "b") $(J "m") $(as[1]!) fun $(J "cdv") $(J "A") $(J "outer") $(J "s") $(J "H") $(J "E") $(J "hr") => $(as[2]!); h)
        | "m1" => return ← `(have h := $(J "mkx") $(J "P") $(J "w") $(J "base") $(J "cl") $(as[0]!) $(J "F") $(J "b") $(J "m") $(as[1]!) fun $(J "cdv") $(J "A") $(J "outer") $(J "s") $(J "H") $(J "E") $(J "hr") => $(as[2]!); h.loc)
        | "m2" => return ← `(have h := $(J "mkm") $(J "P") $(J "w") $(J "base") $(J "cl") $(as[0]!) $(J "F") $(J "b") $(J "m") $(as[1]!) fun $(J "cdv") $(J "A") $(J "outer") $(J "s") $(J "H") $(J "E") $(J "hr") => $(as[2]!); h)
        | x => match x.toList.head! with
          | 'l' => return ← `([$as,*])
          | 'a' => return ← `(⟨$as,*⟩)
          | 'p' => if as.size == 2 then return ← `(($(as[0]!), $(as[1]!))) else return ← `(($(as[0]!), $(as[1]!), $(as[2]!)))
          | _ => if x == "f4" then return ← `(fun _ _ _ _ => $(as[0]!)) else if x == "f2" then return ← `(fun _ _ => $(as[0]!)) else if x == "f3" then return ← `(fun _ _ _ => $(as[0]!)) else return ← `(fun _ => $(as[0]!))
      let h : Lean.Term := if nm.startsWith "$" then Lean.Syntax.mkStrLit (nm.drop 1).toString else if (nm.toList.head!).isDigit then Lean.Syntax.mkNumLit nm else if nm.startsWith "." then ⟨Lean.Syntax.node .none ``Lean.Parser.Term.dotIdent #[Lean.mkAtom ".", J (nm.drop 1).toString]⟩ else J nm
      return if k == 0 then h else Lean.Syntax.mkApp h as : Lean.MacroM Lean.Term)
    st := r :: st
  `(tactic| exact $(st.head!))
local macro_rules | `(tactic| erw $s:rwRuleSeq) => `(tactic| (walk_at "w"; rw $s:rwRuleSeq))
local macro_rules | `(tactic| ac_nf) => `(tactic| walk_at "w")
set_option maxHeartbeats 16000000
noncomputable section
set_option Elab.async false
set_option linter.all false
set_option maxRecDepth 100000
namespace AutoP
theorem a0 (h : True := by first | exact .inl rfl | exact .inr rfl | assumption) : True := h
theorem a1 (h : True := by decide) : True := h
theorem a2 (h : True := by intro _; rfl) : True := h
theorem a3 (h : True := by rfl) : True := h
theorem a4 (h : True := by with_unfolding_all rfl) : True := h
theorem a5 (h : True := by intro _ _ z; simp [*] at z) : True := h
theorem a6 (h : True := by decide +kernel) : True := h
theorem a7 (h : True := by intro _ _; rfl) : True := h
theorem a8 (h : True := by repeat first | exact aNil_len | refine aCons_len ?_) : True := h
end AutoP
namespace L2
open PySem PySem.Spec PyProof.Rows
abbrev Key := Sum Int Str
def zjh : Key -> Value -> Bool
 | .inl k,v => Value.isInt k v
 | .inr x,v => Value.isStrOf x v
def keyH (w : World) : Key -> Int
 | .inl k => hashInt k
 | .inr x => hashStr w x
theorem zaO : ∀ {k : Key} {v : Value},zjh k v = true -> (∃ i t,k = Sum.inl i /\ v = Value.int i t) ∨ (∃ x t,k = Sum.inr x /\ v = Value.str x t)
 | .inl i,v,h => by
  obtain ⟨t,e⟩ := Value.isInt_shape (k := i) (v := v) h
  exact .inl ⟨i,t,rfl,e⟩
 | .inr x,v,h => by
  obtain ⟨t,e⟩ := Value.isStrOf_shape (x := x) (v := v) h
  exact .inr ⟨x,t,rfl,e⟩
theorem zm4 (i : Int) (t : Tok) : zjh (.inl i) (.int i t) = true := by simp [zjh,Value.isInt]
theorem zm3 (x : Str) (t : Tok) : zjh (.inr x) (.str x t) = true := by simp [zjh,Value.isStrOf]
theorem key_ll (a b : Int) : decide ((Sum.inl a : Key) = Sum.inl b) = (a == b) := by
 by_cases e : a = b
 ·subst e; simp
 ·have h : ¬ (Sum.inl a : Key) = Sum.inl b := fun q => e (Sum.inl.inj q)
  rw [decide_eq_false h]
  exact (beq_eq_false_iff_ne.mpr e).symm
theorem key_rr (a b : Str) : decide ((Sum.inr a : Key) = Sum.inr b) = decide (a = b) := by
 by_cases e : a = b
 ·subst e; simp
 ·have h : ¬ (Sum.inr a : Key) = Sum.inr b := fun q => e (Sum.inr.inj q)
  rw [decide_eq_false h,decide_eq_false e]
theorem key_lr (a : Int) (b : Str) : decide ((Sum.inl a : Key) = Sum.inr b) = false := decide_eq_false (fun q => nomatch q)
theorem key_rl (a : Str) (b : Int) : decide ((Sum.inr a : Key) = Sum.inl b) = false := decide_eq_false (fun q => nomatch q)
def zaH (prog : Program) (w : World) : PySem.KeyKind prog w Key where
 is := zjh
 hash := keyH w
 inj := fun v a b ha hb => by
  rcases zaO ha with ⟨i,t,rfl,rfl⟩ | ⟨x,t,rfl,rfl⟩
  ·rcases zaO hb with ⟨j,u,rfl,e⟩ | ⟨y,u,rfl,e⟩
   ·injection e with e1 _; rw [e1]
   ·exact nomatch e
  ·rcases zaO hb with ⟨j,u,rfl,e⟩ | ⟨y,u,rfl,e⟩
   ·exact nomatch e
   ·injection e with e1 _; rw [e1]
 byValue := fun k v h => by
  rcases zaO h with ⟨i,t,rfl,rfl⟩ | ⟨x,t,rfl,rfl⟩ <;> rfl
 pyHash := fun hv h => by
  rcases zaO hv with ⟨i,t,rfl,rfl⟩ | ⟨x,t,rfl,rfl⟩
  ·exact wpAny_pyHash_int h
  ·exact wpAny_pyHash_str h
 eqBool := fun hu hv h => by
  rcases zaO hu with ⟨i,t,rfl,rfl⟩ | ⟨x,t,rfl,rfl⟩
  ·rcases zaO hv with ⟨j,u,rfl,rfl⟩ | ⟨y,u,rfl,rfl⟩
   ·rw [key_ll] at h; exact wpAny_eqBool_int h
   ·rw [key_lr] at h; exact SeqAt.EqAt.int_str i t y u _ _ _ _ h
  ·rcases zaO hv with ⟨j,u,rfl,rfl⟩ | ⟨y,u,rfl,rfl⟩
   ·rw [key_rl] at h; exact SeqAt.EqAt.str_int x t j u _ _ _ _ h
   ·rw [key_rr] at h; exact wpAny_eqBool_str h
 «strs» := fun k x t v h => by
  rcases zaO h with ⟨i,u,rfl,e⟩ | ⟨y,u,rfl,e⟩
  ·exact nomatch e
  ·injection e with e1 _
   subst e1
   cases v <;> rfl
theorem zjd (prog : Program) (w : World) (i : Int) (t : Tok) : (zaH prog w).is (.inl i) (.int i t) = true := zm4 i t
theorem zjc (prog : Program) (w : World) (x : Str) (t : Tok) : (zaH prog w).is (.inr x) (.str x t) = true := zm3 x t
inductive V where
 | non | bl (b : Bool) | int (i : Int) | str (x : Str) | byt (b : Array UInt8) | flt (b : UInt64) | ref (a : Addr) | ty (n : String)
 deriving DecidableEq
def RelV : V -> Value -> Prop
 | .non,u => u = Value.none
 | .bl b,u => u = Value.bool b
 | .int i,u => ∃ t,u = Value.int i t
 | .str x,u => ∃ t,u = Value.str x t
 | .byt b,u => ∃ t,u = Value.bytes b t
 | .flt b,u => ∃ t,u = Value.float b t
 | .ref a,u => u = Value.ref a
 | .ty n,u => u = Value.type n
abbrev Vals : List V -> List Value -> Prop := Paired RelV
theorem Vals.length {xs : List V} {us : List Value} (r : Vals xs us) : xs.length = us.length := Paired.length r
theorem Vals.get : ∀ {xs : List V} {us : List Value} {i : Nat} {x : V},Vals xs us -> xs[i]? = some x -> ∃ u,us[i]? = some u /\ RelV x u
 | _,_,_,_,.nil,e => by simp at e
 | _,_,0,_,.cons r _,e => by simp at e; subst e; exact ⟨_,rfl,r⟩
 | _,_,i + 1,x,.cons _ t,e => by
  obtain ⟨u,h1,h2⟩ := Vals.get (i := i) (x := x) t (by simpa using e)
  exact ⟨u,by simpa using h1,h2⟩
theorem Vals.set {x : V} {u : Value} (r : RelV x u) : ∀ {xs : List V} {us : List Value} (i : Nat),Vals xs us -> Vals (xs.set i x) (us.set i u)
 | _,_,_,.nil => .nil
 | _,_,0,.cons _ t => .cons r t
 | _,_,i + 1,.cons q t => .cons q (Vals.set r i t)
theorem Vals.append : ∀ {xs ys : List V} {us ws : List Value},Vals xs us -> Vals ys ws -> Vals (xs ++ ys) (us ++ ws)
 | _,_,_,_,.nil,s => s
 | _,_,_,_,.cons r t,s => .cons r (Vals.append t s)
theorem Vals.take : ∀ {xs : List V} {us : List Value} (n : Nat),Vals xs us -> Vals (xs.take n) (us.take n)
 | _,_,0,_ => .nil
 | _,_,_ + 1,.nil => .nil
 | _,_,n + 1,.cons r t => .cons r (Vals.take n t)
theorem Vals.drop : ∀ {xs : List V} {us : List Value} (n : Nat),Vals xs us -> Vals (xs.drop n) (us.drop n)
 | _,_,0,r => r
 | _,_,_ + 1,.nil => .nil
 | _,_,n + 1,.cons _ t => Vals.drop n t
def RelO : Option V -> Option Value -> Prop
 | some v,some u => RelV v u
 | none,none => True
 | _,_ => False
def KV {κ : Type} : List (κ × V) -> List (κ × Value) -> Prop := Paired fun (p : κ × V) (q : κ × Value) => p.1 = q.1 /\ RelV p.2 q.2
def kV : Key -> V
 | .inl i => .int i
 | .inr x => .str x
inductive HO where
 | lst (xs : List V)
 | tup (xs : List V)
 | dK (kvs : List (Key × V)) | dT (kvs : List (List Key × V))
 | set (S : Int -> Bool) (n : Nat)
 | ins (C dx : Addr) (fs : List (Str × V))
 | own (x : Addr)
 | xd (fs : List (Str × V))
 | met (f x : Addr)
 | rng (lo hi : Int)
 | frz (o : Obj) (u : HO)
 | tbl (ps : Array Value)
 | ext (φ : Heap -> Prop)
abbrev Hp := Addr -> Option HO
def upd (H : Hp) (a : Addr) (o : HO) : Hp := fun b => if b = a then some o else H b
theorem zax {H : Hp} {a : Addr} {o : HO} : upd H a o a = some o := by unfold upd; rw [if_pos rfl]
theorem zao {H : Hp} {a b : Addr} {o : HO} (h : b ≠ a) : upd H a o b = H b := by unfold upd; rw [if_neg h]
theorem ne_of {H : Hp} {a b : Addr} {o u : HO} (h : H a = some o) (h' : H b = some u) (d : o ≠ u) : a ≠ b := by
 intro e; subst e; rw [h] at h'; exact d (Option.some.inj h')
theorem zaz {H : Hp} {a b : Addr} {o : HO} (h : H a = some o) (h' : H b = none) : a ≠ b := by
 intro e; subst e; rw [h] at h'; cases h'
section
variable (P : Program) (w : World)
def NoD (h : Heap) (a : Addr) : Prop := ∃ o,h.get? a = some o /\ o.dict = none
def ObjOk (H : Hp) (h : Heap) (a : Addr) : HO -> Prop
 | .lst xs => xs.length <= sizeLine /\ ∃ (its : List Value) (n : Nat),Vals xs its /\ h.get? a = some { cls := .type "list", data := .seq its.toArray n }
 | .tup xs => xs.length <= sizeLine /\ ∃ its : List Value,Vals xs its /\ IsTup h a its.toArray /\ NoD h a
 | .dK kvs => kvs.length <= sizeLine /\ (a == sysModules) = false /\ ∃ vs,KV kvs vs /\ h.DictOf (zaH P w) a vs
 | .dT kvs => kvs.length <= sizeLine /\ (a == sysModules) = false /\ ∃ xs : List (List Key × Addr × Value),
   Paired (fun (p : List Key × V) (q : List Key × Addr × Value) => p.1 = q.1 /\ H q.2.1 = some (.tup (p.1.map kV)) /\ RelV p.2 q.2.2) kvs xs ∧
   ∃ o es ep,h.get? a = some o /\ o.ExactDict /\ o.data = .dict es ep /\ es.toList = xs.map (entryOfKey (tupleKind (zaH P w))) /\ (xs.map (·.1)).Nodup
 | .set S n => h.SetOf (intKind P w) a S n
 | .ins C dx fs => H dx = some (.own a) /\ fs.length <= 1000 /\ dx ≠ a /\ h.get? a = some (PySem.W.instObj C dx) ∧
   ∃ mA,h.Ns1 dx mA /\ (∀ f,RelO (fs.lookup f) (mA f)) /\ PySem.Within mA (fs.map (·.1))
 | .own _ => ∃ o,h.get? a = some o
 | .xd fs => ∃ mA,h.Ns1 a mA /\ ∀ f,RelO (fs.lookup f) (mA f)
 | .rng lo hi => ∃ t u v,h.get? a = some { cls := .type "range", data := .fields #[.int lo t,.int hi u,.int 1 v] }
 | .frz o u => h.get? a = some o /\ ObjOk H h a u
 | .tbl ps => h.get? a = some { cls := .none,data := .fields ps }
 | .met f x => h.get? a = some (PySem.W.methodObj (.ref f) (.ref x))
 | .ext φ => φ h /\ (∃ o,h.get? a = some o) /\ ∀ h1 h2 : Heap,φ h1 -> (∀ o,h1.get? a = some o -> h2.get? a = some o) -> φ h2
def HOk (H : Hp) (h : Heap) : Prop := ∀ a o,H a = some o -> ObjOk P w H h a o
end
section
variable {P : Program} {w : World} {H H' : Hp} {h h' : Heap} {a : Addr} {o : HO}
theorem ObjOk.lt (x : ObjOk P w H h a o) : a < h.objs.size := by
 cases o with
 | lst xs => obtain ⟨_,_,_,_,e⟩ := x; exact Heap.lt_size e
 | tup xs => obtain ⟨_,_,_,p,_⟩ := x; exact p.lt
 | dK kvs => obtain ⟨_,_,_,_,o,_,_,e,_⟩ := x; exact Heap.lt_size e
 | dT kvs => obtain ⟨_,_,_,_,o,_,_,e,_⟩ := x; exact Heap.lt_size e
 | set S n => obtain ⟨o,_,_,_,e,_⟩ := x; exact Heap.lt_size e
 | ins C dx fs => obtain ⟨_,_,_,e,_⟩ := x; exact Heap.lt_size e
 | own y => obtain ⟨_,e⟩ := x; exact Heap.lt_size e
 | xd fs => obtain ⟨_,⟨_,_,_,e,_⟩,_⟩ := x; exact Heap.lt_size e
 | rng lo hi => obtain ⟨_,_,_,e⟩ := x; exact Heap.lt_size e
 | frz ob u => obtain ⟨e,_⟩ := x; exact Heap.lt_size e
 | tbl ps => exact Heap.lt_size (show h.get? a = some _ from x)
 | met f y => exact Heap.lt_size (show h.get? a = some _ from x)
 | ext φ => obtain ⟨_,⟨_,e⟩,_⟩ := x; exact Heap.lt_size e
theorem Paired.mapP {α β : Type} {F G : α -> β -> Prop} : ∀ {l₁ : List α} {l₂ : List β},Paired F l₁ l₂ -> (∀ a b,F a b -> G a b) -> Paired G l₁ l₂
 | _,_,.nil,_ => .nil
 | _,_,.cons r t,f => .cons (f _ _ r) (Paired.mapP t f)
theorem ObjOk.stay (x : ObjOk P w H h a o) (k : ∀ b u,(b = a ∨ H b = some (.own a)) -> h.get? b = some u -> h'.get? b = some u)
  (ho : ∀ b,H b = some (.own a) -> H' b = some (.own a)) (ht : ∀ b xs,H b = some (.tup xs) -> H' b = some (.tup xs)) : ObjOk P w H' h' a o := by
 induction o with
 | lst xs => obtain ⟨z,its,n,r,e⟩ := x; exact ⟨z,its,n,r,k _ _ (.inl rfl) e⟩
 | tup xs => obtain ⟨z,its,r,⟨ob,e,c⟩,od,ed,dn⟩ := x; exact ⟨z,its,r,⟨ob,k _ _ (.inl rfl) e,c⟩,od,k _ _ (.inl rfl) ed,dn⟩
 | dK kvs => obtain ⟨z,y,vs,r,ob,es,ep,e,c⟩ := x; exact ⟨z,y,vs,r,ob,es,ep,k _ _ (.inl rfl) e,c⟩
 | dT kvs =>
  obtain ⟨z,y,xs,r,ob,es,ep,e,c⟩ := x
  exact ⟨z,y,xs,Paired.mapP r fun p q z => ⟨z.1,ht _ _ z.2.1,z.2.2⟩,ob,es,ep,k _ _ (.inl rfl) e,c⟩
 | set S n => obtain ⟨ob,es,ep,t,e,c⟩ := x; exact ⟨ob,es,ep,t,k _ _ (.inl rfl) e,c⟩
 | ins C dx fs =>
  obtain ⟨d,z,ne,e,mA,⟨od,es,ep,e2,c⟩,r⟩ := x
  exact ⟨ho _ d,z,ne,k _ _ (.inl rfl) e,mA,⟨od,es,ep,k _ _ (.inr d) e2,c⟩,r⟩
 | own y => obtain ⟨ob,e⟩ := x; exact ⟨ob,k _ _ (.inl rfl) e⟩
 | xd fs => obtain ⟨mA,⟨od,es,ep,e,c⟩,r⟩ := x; exact ⟨mA,⟨od,es,ep,k _ _ (.inl rfl) e,c⟩,r⟩
 | rng lo hi => obtain ⟨t,u,v,e⟩ := x; exact ⟨t,u,v,k _ _ (.inl rfl) e⟩
 | frz ob u ih => obtain ⟨e,q⟩ := x; exact ⟨k _ _ (.inl rfl) e,ih q⟩
 | tbl ps =>
  have e : h.get? a = some { cls := .none,data := .fields ps } := x
  show h'.get? a = some { cls := .none,data := .fields ps }
  exact k a _ (.inl rfl) e
 | met f y =>
  have e : h.get? a = some (PySem.W.methodObj (.ref f) (.ref y)) := x
  show h'.get? a = some (PySem.W.methodObj (.ref f) (.ref y))
  exact k a _ (.inl rfl) e
 | ext φ => obtain ⟨p,⟨o,e⟩,st⟩ := x; exact ⟨st _ _ p fun o q => k _ _ (.inl rfl) q,⟨o,k _ _ (.inl rfl) e⟩,st⟩
theorem HOk.lt (x : HOk P w H h) (e : H a = some o) : a < h.objs.size := (x a o e).lt
theorem HOk.fresh (x : HOk P w H h) (e : h.objs.size <= a) : H a = none := by
 cases q : H a with
 | none => rfl
 | some u => exact absurd (Nat.lt_of_lt_of_le (x.lt q) e) (Nat.lt_irrefl _)
theorem HOk.kept (x : HOk P w H h) (k : ∀ b u,h.get? b = some u -> h'.get? b = some u) : HOk P w H h' := fun a o e =>
 (x a o e).stay (fun b u _ q => k b u q) (fun _ q => q) fun _ _ q => q
theorem HOk.laid (x : HOk P w H h) (k : ∀ b u,h.get? b = some u -> h'.get? b = some u) (hp : h.objs.size <= a) (new : ObjOk P w (upd H a o) h' a o) : HOk P w (upd H a o) h' := fun b u e => by
 have hn := x.fresh hp
 by_cases hb : b = a
 ·subst hb; rw [zax] at e; cases e; exact new
 ·rw [zao hb] at e
  exact (x b u e).stay (fun c v _ q => k c v q) (fun c q => by rw [zao (zaz q hn)]; exact q) fun c xs q => by rw [zao (zaz q hn)]; exact q
end
def Rd (H : Hp) (a : Addr) (u : HO) : Prop := H a = some u ∨ ∃ o,H a = some (.frz o u)
theorem Rd.ok {P : Program} {w : World} {H : Hp} {h : Heap} {a : Addr} {u : HO} (r : Rd H a u) (x : HOk P w H h) : ObjOk P w H h a u := by
 rcases r with r | ⟨o,r⟩
 ·exact x a u r
 ·obtain ⟨_,q⟩ := x a _ r
  exact q
def Mut : Option HO -> Prop
 | some (.lst _) => True
 | some (.dK _) => True
 | some (.dT _) => True
 | some (.set _ _) => True
 | some (.ins _ _ _) => True
 | some (.ext _) => True
 | _ => False
section
variable {P : Program} {w : World} {H : Hp} {h h' : Heap} {x e : Addr} {o' : HO}
theorem HOk.write (ok : HOk P w H h) (mu : Mut (H x)) (he : e = x ∨ H e = some (.own x)) (k : ∀ b u,b ≠ e -> h.get? b = some u -> h'.get? b = some u) (heo : ∃ u,h'.get? e = some u)
  (new : ObjOk P w (upd H x o') h' x o') : HOk P w (upd H x o') h' := fun b u q => by
 have nown : ∀ c y,H c = some (.own y) -> c ≠ x := fun c y r z => by subst z; rw [r] at mu; exact mu
 have ntup : ∀ c xs,H c = some (.tup xs) -> c ≠ x := fun c xs r z => by subst z; rw [r] at mu; exact mu
 by_cases hb : b = x
 ·subst hb; rw [zax] at q; cases q; exact new
 ·rw [zao hb] at q
  by_cases hbe : b = e
  ·have q' : H b = some (.own x) := by
    rcases he with z | z
    ·exact absurd (hbe.trans z) hb
    ·rw [hbe]; exact z
   rw [q] at q'; cases q'
   obtain ⟨v,hv⟩ := heo
   exact ⟨v,by rw [hbe]; exact hv⟩
  ·refine (ok b u q).stay (fun c v hc r => k c v ?_ r) (fun c r => by rw [zao (nown c b r)]; exact r) fun c xs r => by rw [zao (ntup c xs r)]; exact r
   rcases hc with rfl | hc
   ·exact hbe
   ·rintro rfl
    rcases he with z | z
    ·exact nown c b hc z
    ·rw [hc] at z; cases z; exact hb rfl
end
structure Un (fs ex : List Addr) (H H' : Hp) (h h' : Heap) : Prop where
 keep : ∀ b o,h.get? b = some o -> H b = none -> b ∉ fs -> b ∉ ex -> h'.get? b = some o
 slot : ∀ b o,h.get? b = some o -> H b = none -> b ∈ fs -> b ∉ ex -> ∃ sl,h'.get? b = some { o with slots := sl }
 free : ∀ b o,h.get? b = some o -> H b = none -> b ∉ ex -> H' b = none
 there : ∀ b o,h.get? b = some o -> b ∉ ex -> ∃ o',h'.get? b = some o'
 tups : ∀ b xs,H b = some (.tup xs) -> H' b = some (.tup xs)
 frzs : ∀ b o u,H b = some (.frz o u) -> H' b = some (.frz o u)
 tbls : ∀ b ps,H b = some (.tbl ps) -> ∃ more,H' b = some (.tbl (ps ++ more))
section
variable {fs fs' ex ex' : List Addr} {H H1 H2 : Hp} {h h1 h2 h' : Heap} {a x e : Addr} {o : HO}
theorem Un.any (u : Un fs ex H H1 h h1) {b : Addr} {ob : Obj} (q : h.get? b = some ob) (n : H b = none) (hx : b ∉ ex) : ∃ sl,h1.get? b = some { ob with slots := sl } := by
 by_cases hb : b ∈ fs
 ·exact u.slot b ob q n hb hx
 ·exact ⟨ob.slots,u.keep b ob q n hb hx⟩
theorem Un.kept (k : ∀ b u,h.get? b = some u -> h'.get? b = some u) : Un fs ex H H h h' :=
 ⟨fun b ob q _ _ _ => k b ob q,fun b ob q _ _ _ => ⟨ob.slots,k b ob q⟩,fun _ _ _ n _ => n,fun b ob q _ => ⟨ob,k b ob q⟩,fun _ _ q => q,fun _ _ _ q => q,fun _ ps q => ⟨#[],by rw [q]; simp⟩⟩
theorem Un.refl : Un fs ex H H h h := Un.kept fun _ _ q => q
theorem Un.laid (k : ∀ b u,h.get? b = some u -> h'.get? b = some u) (hp : h.objs.size <= a) (hn : H a = none) : Un fs ex H (upd H a o) h h' where
 keep := fun b u q _ _ _ => k b u q
 slot := fun b u q _ _ _ => ⟨u.slots,k b u q⟩
 free := fun b u q n _ => by rw [zao (Nat.ne_of_lt (Nat.lt_of_lt_of_le (Heap.lt_size q) hp))]; exact n
 there := fun b u q _ => ⟨u,k b u q⟩
 tups := fun b xs q => by rw [zao (zaz q hn)]; exact q
 frzs := fun b u xs q => by rw [zao (zaz q hn)]; exact q
 tbls := fun b ps q => ⟨#[],by rw [zao (zaz q hn),q]; simp⟩
theorem Un.write (mu : Mut (H x)) (he : e = x ∨ H e = some (.own x)) (k : ∀ b u,b ≠ e -> h.get? b = some u -> h'.get? b = some u) (heo : ∃ u,h'.get? e = some u) : Un fs ex H (upd H x o) h h' := by
 have hx : ∀ b,H b = none -> b ≠ x := fun b n z => by subst z; rw [n] at mu; exact mu
 have hb : ∀ b,H b = none -> b ≠ e := fun b n z => by
  subst z
  rcases he with r | r
  ·exact hx b n r
  ·rw [n] at r; cases r
 have hm : ∀ b u,H b = some u -> ¬ Mut (some u) -> b ≠ x := fun b u q nm z => by subst z; rw [q] at mu; exact nm mu
 refine ⟨fun b u q n _ _ => k b u (hb b n) q,fun b u q n _ _ => ⟨u.slots,k b u (hb b n) q⟩,fun b u q n _ => by rw [zao (hx b n)]; exact n,fun b u q _ => ?_,
  fun b xs q => by rw [zao (hm b _ q fun z => z)]; exact q,fun b u xs q => by rw [zao (hm b _ q fun z => z)]; exact q,fun b ps q => ⟨#[],by rw [zao (hm b _ q fun z => z),q]; simp⟩⟩
 by_cases hbe : b = e
 ·subst hbe; exact heo
 ·exact ⟨u,k b u hbe q⟩
end
def trk (h : Heap) (H : Hp) : List Addr := (List.range h.objs.size).filter fun a => (H a).isSome
def zoM (h : Heap) (H : Hp) : Heap := PySem.W.hideAll h (trk h H)
theorem znh (h : Heap) (H : Hp) : (zoM h H).objs.size = h.objs.size := PySem.W.hideAll_size _ _
theorem zoL {h : Heap} {H : Hp} {b : Addr} {o : Obj} (e : h.get? b = some o) (n : H b = none) : (zoM h H).get? b = some o :=
 PySem.W.hideAll_get _ e fun hm => by
  have q : (H b).isSome = true := (List.mem_filter.mp hm).2
  rw [n] at q; simp at q
theorem zqL {h : Heap} {H : Hp} {b : Addr} {o : Obj} (e : (zoM h H).get? b = some o) : h.get? b = some o /\ H b = none := by
 have e' : h.get? b = some o := PySem.W.of_hideAll (trk h H) e
 refine ⟨e',?_⟩
 cases q : H b with
 | none => rfl
 | some x =>
  have hm : b ∈ trk h H := List.mem_filter.mpr ⟨List.mem_range.mpr (Heap.lt_size e'),by simp [q]⟩
  have z : (zoM h H).get? b = none := PySem.W.hideAll_none (trk h H) hm
  rw [z] at e; cases e
structure Mod (K : PySem.W.Frag) (mg : Str -> Option Value) (base : Heap) : Prop where
 kin : K.In base
 glob : base.Ns mainGlobals mg
 blt : ∃ mb,base.Ns builtinsNs mb /\ ∀ x : Str,x ≠ "__name__" -> mb x = bootBuiltins x
 nolimit : base.NoLimit
structure Cx where
 prog : Program
 w : World
 K : PySem.W.Frag
 mg : Str -> Option Value
 base : Heap
 A : Around
 N : List Str
 s₀ : Shared
 H₀ : Hp
 env : Env
 outer : List Env
 stack : List Env
 ex : List Addr
 fn : Str -> Bool
 calm : Bool
 pn : List (Addr × Obj)
 xe : Value -> Shared -> Prop
def frs (l : List Env) : List Addr := l.filterMap (·.frame)
abbrev Cx.fs (X : Cx) : List Addr := frs X.outer
def Vis (sc : Scope) (x : Str) : Prop := sc.names.lookup x = some .local ∨ sc.names.lookup x = some .cell ∨ sc.names.lookup x = some .free
def Loc (sc : Scope) (x : Str) : Prop := sc.names.lookup x = some .local ∨ sc.names.lookup x = some .cell
def Look (env : Env) (h : Heap) (m : Str -> Option Value) (x : Str) (u : Value) : Prop :=
 (env.kindOf x = some .local /\ m x = some u) ∨ ((env.kindOf x = some .cell ∨ env.kindOf x = some .free) /\ ∃ c,env.cells.lookup x = some c /\ h.IsCell c (some u))
structure Cx.Ok (X : Cx) : Prop where
 mod : Mod X.K X.mg X.base
 kind : X.env.scope.kind = .function
 glob : X.env.globals = mainGlobals
 blt : X.env.builtins = builtinsNs
 above : X.s₀.heap.objs.size <= X.env.locals
 inj : ∀ x y c,X.env.cells.lookup x = some c -> X.env.cells.lookup y = some c -> x = y
 has : ∀ x,(X.env.kindOf x = some .cell ∨ X.env.kindOf x = some .free) -> ∃ c,X.env.cells.lookup x = some c
 cab : ∀ x c,X.fn x = true -> X.env.cells.lookup x = some c -> X.s₀.heap.objs.size <= c
 hd : X.calm = true -> X.A.handled = none
 frames : X.A.frames = some X.stack
 stk : X.stack = X.outer ∨ (X.stack = X.env :: X.outer /\ X.env.frame = some X.env.locals)
 exf : ∀ b ∈ X.ex,b ≠ X.env.locals /\ ∀ x c,X.env.cells.lookup x = some c -> c ≠ b
 bs : ∀ b o,X.base.get? b = some o -> X.s₀.heap.get? b = some o /\ X.H₀ b = none
 bsz : X.base.objs.size <= X.s₀.heap.objs.size
 noex : ∀ b o,X.base.get? b = some o -> b ∉ X.ex
 exfs : ∀ b ∈ X.ex,b ∉ X.fs
 funs : X.s₀.heap.FunFrames X.base X.outer
 frf : ∀ b ∈ X.fs,X.H₀ b = none
structure Inv (X : Cx) (pins : List (Addr × Obj)) (σ : List (Option V)) (H : Hp) (s : Shared) : Prop where
 ok : X.Ok
 os : s.os = X.s₀.os
 bare : AllBare s.gens
 base : Un X.fs X.ex X.H₀ H X.s₀.heap s.heap
 loc : ∃ m,s.heap.Ns X.env.locals m /\ ∀ (i : Nat) (x : Str) (v : V),X.N[i]? = some x -> σ[i]? = some (some v) -> Vis X.env.scope x -> ∃ u,RelV v u /\ Look X.env s.heap m x u
 cell : ∀ x c,X.env.cells.lookup x = some c -> ∃ v,s.heap.IsCell c v
 free : H X.env.locals = none
 freeC : ∀ x c,X.env.cells.lookup x = some c -> H c = none
 pin : ∀ p ∈ X.pn ++ pins,s.heap.get? p.1 = some p.2 /\ H p.1 = none /\ p.1 ≠ X.env.locals /\ p.1 ∉ X.fs /\ ∀ v,p.2.data ≠ .cell v
 hok : HOk X.prog X.w H s.heap
 len : σ.length = X.N.length
section
variable {X : Cx} {pins : List (Addr × Obj)} {σ : List (Option V)} {H H' : Hp} {s : Shared} {h' : Heap}
theorem Cx.Ok.nofr (ok : X.Ok) {b : Addr} {o : Obj} (e : X.base.get? b = some o) : b ∉ X.fs := fun hb => by
 have := (ok.funs.mem hb).1
 rw [e] at this; cases this
theorem Inv.bs (I : Inv X pins σ H s) : ∀ b o,X.base.get? b = some o -> s.heap.get? b = some o /\ H b = none := fun b o e =>
 ⟨I.base.keep b o (I.ok.bs b o e).1 (I.ok.bs b o e).2 (I.ok.nofr e) (I.ok.noex b o e),I.base.free b o (I.ok.bs b o e).1 (I.ok.bs b o e).2 (I.ok.noex b o e)⟩
theorem Inv.bk (I : Inv X pins σ H s) : ∀ b o,X.base.get? b = some o -> s.heap.get? b = some o := fun b o e => (I.bs b o e).1
theorem Inv.mod (I : Inv X pins σ H s) : Mod X.K X.mg X.base := I.ok.mod
theorem Inv.kIn (I : Inv X pins σ H s) : X.K.In s.heap := I.ok.mod.kin.keeps I.bk
theorem Inv.lt (I : Inv X pins σ H s) : X.env.locals < s.heap.objs.size := let ⟨_,hn,_⟩ := I.loc; hn.lt
theorem Inv.sz (I : Inv X pins σ H s) : X.s₀.heap.objs.size <= s.heap.objs.size := Nat.le_trans I.ok.above (Nat.le_of_lt I.lt)
theorem Inv.nofs (I : Inv X pins σ H s) {a : Addr} (h : s.heap.objs.size <= a) : a ∉ X.fs := fun hb => by
 obtain ⟨_,o,ho,_⟩ := I.ok.funs.mem hb
 exact absurd (Nat.lt_of_lt_of_le (Heap.lt_size ho) (Nat.le_trans I.sz h)) (Nat.lt_irrefl _)
theorem Inv.cne (I : Inv X pins σ H s) : ∀ x c,X.env.cells.lookup x = some c -> c ≠ X.env.locals := fun x c e z => by
 obtain ⟨v,o,ho,hd⟩ := I.cell x c e
 obtain ⟨m,⟨o',es,ep,ho',hd',_⟩,_⟩ := I.loc
 rw [z,ho'] at ho; cases ho; rw [hd'] at hd; cases hd
theorem Inv.funs (I : Inv X pins σ H s) : s.heap.FunFrames X.base X.outer := by
 have all : ∀ (l : List Env),(∀ b ∈ frs l,b ∈ X.fs) -> X.s₀.heap.FunFrames X.base l -> s.heap.FunFrames X.base l := by
  intro l
  induction l with
  | nil => intro _ _; trivial
  | cons env r ih =>
   intro hs hl
   obtain ⟨hk,⟨L,o,hf,hn,ho,hd⟩,hr⟩ := hl
   have hL : L ∈ X.fs := hs L (by unfold frs; rw [List.filterMap_cons,hf]; exact List.mem_cons_self)
   obtain ⟨sl,e⟩ := I.base.slot L o ho (I.ok.frf L hL) hL fun z => I.ok.exfs L z hL
   exact ⟨hk,⟨L,_,hf,hn,e,hd⟩,ih (fun b hb => hs b (by unfold frs; rw [List.filterMap_cons,hf]; exact List.mem_cons_of_mem _ hb)) hr⟩
 exact all X.outer (fun _ hb => hb) I.ok.funs
theorem Inv.stack (I : Inv X pins σ H s) : s.heap.FunFrames X.base X.stack := by
 rcases I.ok.stk with e | ⟨e,hf⟩
 ·rw [e]; exact I.funs
 ·rw [e]
  obtain ⟨m,hn,_⟩ := I.loc
  refine .cons (by rw [I.ok.kind]; decide) hf hn ?_ I.funs
  exact Heap.get?_none_of_le (Nat.le_trans I.ok.bsz I.ok.above)
theorem Inv.stkSub (I : Inv X pins σ H s) : ∀ b ∈ frs X.stack,b ∈ X.env.locals :: X.fs := fun b hb => by
 rcases I.ok.stk with e | ⟨e,hf⟩
 ·rw [e] at hb; exact List.mem_cons_of_mem _ hb
 ·rw [e] at hb
  unfold frs at hb
  rw [List.filterMap_cons,hf] at hb
  exact hb
theorem Inv.stkFree (I : Inv X pins σ H s) : ∀ b ∈ frs X.stack,H b = none := fun b hb => by
 rcases List.mem_cons.mp (I.stkSub b hb) with e | hb
 ·rw [e]; exact I.free
 ·obtain ⟨_,o,ho,_⟩ := I.ok.funs.mem hb
  exact I.base.free b o ho (I.ok.frf b hb) fun z => I.ok.exfs b z hb
theorem Inv.step {g' : Array GenState} {t' : Nat} {d' : Drawn} {ch : List Addr} (I : Inv X pins σ H s)
  (hch : ∀ b ∈ ch,(b ∈ X.ex ∨ X.s₀.heap.objs.size <= b) /\ b ≠ X.env.locals /\ (∀ x c,X.env.cells.lookup x = some c -> c ≠ b) /\ ∀ p ∈ X.pn ++ pins,p.1 ≠ b)
  (keep : ∀ b o,b ≠ X.env.locals -> b ∉ X.fs -> b ∉ ch -> s.heap.get? b = some o -> H b = none -> h'.get? b = some o)
  (slot : ∀ b o,b ≠ X.env.locals -> b ∈ X.fs -> b ∉ ch -> s.heap.get? b = some o -> H b = none -> ∃ sl,h'.get? b = some { o with slots := sl }) (free : ∀ b o,b ∉ ch -> s.heap.get? b = some o -> H b = none -> H' b = none)
  (there : ∀ b o,b ∉ ch -> s.heap.get? b = some o -> ∃ o',h'.get? b = some o')
  (tups : ∀ b xs,H b = some (.tup xs) -> H' b = some (.tup xs)) (frzs : ∀ b o u,H b = some (.frz o u) -> H' b = some (.frz o u)) (tbls : ∀ b ps,H b = some (.tbl ps) -> ∃ more,H' b = some (.tbl (ps ++ more)))
  (ns : ∀ m,s.heap.Ns X.env.locals m -> h'.Ns X.env.locals m) (hok : HOk X.prog X.w H' h') (hg : AllBare g') :
  Inv X pins σ H' { s with heap := h',gens := g',drawn := d',toks := t' } := by
 have neL : ∀ b o,X.s₀.heap.get? b = some o -> b ≠ X.env.locals := fun b o e => Nat.ne_of_lt (Nat.lt_of_lt_of_le (Heap.lt_size e) I.ok.above)
 have neC : ∀ b o,X.s₀.heap.get? b = some o -> b ∉ X.ex -> b ∉ ch := fun b o e hx hb => by
  rcases (hch b hb).1 with z | z
  ·exact hx z
  ·exact absurd (Nat.lt_of_lt_of_le (Heap.lt_size e) z) (Nat.lt_irrefl _)
 have cellK : ∀ x c,X.env.cells.lookup x = some c -> ∀ v,s.heap.IsCell c v -> h'.IsCell c v := fun x c e v ⟨o,ho,hd⟩ => by
  have nch : c ∉ ch := fun z => (hch c z).2.2.1 x c e rfl
  by_cases hc : c ∈ X.fs
  ·obtain ⟨sl,q⟩ := slot c o (I.cne x c e) hc nch ho (I.freeC x c e)
   exact ⟨_,q,hd⟩
  ·exact ⟨o,keep c o (I.cne x c e) hc nch ho (I.freeC x c e),hd⟩
 refine ⟨I.ok,I.os,hg,⟨fun b o e n hb hx => ?_,fun b o e n hb hx => ?_,fun b o e n hx => ?_,fun b o e hx => ?_,fun b xs e => tups b xs (I.base.tups b xs e),fun b o xs e => frzs b o xs (I.base.frzs b o xs e),fun b ps e => ?_⟩,?_,fun x c e => ?_,?_,fun x c e => ?_,fun p hp => ?_,hok,I.len⟩
 ·exact keep b o (neL b o e) hb (neC b o e hx) (I.base.keep b o e n hb hx) (I.base.free b o e n hx)
 ·obtain ⟨sl,e1⟩ := I.base.slot b o e n hb hx
  obtain ⟨sl',e2⟩ := slot b _ (neL b o e) hb (neC b o e hx) e1 (I.base.free b o e n hx)
  exact ⟨sl',e2⟩
 ·obtain ⟨o',e1⟩ := I.base.there b o e hx
  exact free b o' (neC b o e hx) e1 (I.base.free b o e n hx)
 ·obtain ⟨o',e1⟩ := I.base.there b o e hx
  exact there b o' (neC b o e hx) e1
 ·obtain ⟨m1,e1⟩ := I.base.tbls b ps e
  obtain ⟨m2,e2⟩ := tbls b _ e1
  exact ⟨m1 ++ m2,by rw [e2,Array.append_assoc]⟩
 ·obtain ⟨m,hn,hl⟩ := I.loc
  refine ⟨m,ns m hn,fun i x v e1 e2 e3 => ?_⟩
  obtain ⟨u,r,l⟩ := hl i x v e1 e2 e3
  refine ⟨u,r,?_⟩
  rcases l with l | ⟨k,c,e,z⟩
  ·exact .inl l
  ·exact .inr ⟨k,c,e,cellK x c e _ z⟩
 ·obtain ⟨v,z⟩ := I.cell x c e
  exact ⟨v,cellK x c e v z⟩
 ·obtain ⟨m,⟨o,_,_,ho,_⟩,_⟩ := I.loc
  exact free _ o (fun z => (hch _ z).2.1 rfl) ho I.free
 ·obtain ⟨v,o,ho,hd⟩ := I.cell x c e
  exact free c o (fun z => (hch c z).2.2.1 x c e rfl) ho (I.freeC x c e)
 ·obtain ⟨e,n,ne,nf,d⟩ := I.pin p hp
  have nch : p.1 ∉ ch := fun z => (hch p.1 z).2.2.2 p hp rfl
  exact ⟨keep p.1 p.2 ne nf nch e n,free p.1 p.2 nch e n,ne,nf,d⟩
theorem Inv.un {t' : Nat} (I : Inv X pins σ H s) (u : Un X.fs [] H H' s.heap h') (hok : HOk X.prog X.w H' h') : Inv X pins σ H' { s with heap := h',toks := t' } := by
 obtain ⟨m,⟨o,es,ep,ho,r⟩,_⟩ := id I.loc
 obtain ⟨sl,hL⟩ := u.any ho I.free (by simp)
 exact I.step (g' := s.gens) (d' := s.drawn) (ch := []) (fun _ z => nomatch z) (fun b o _ hb _ e n => u.keep b o e n hb (by simp)) (fun b o _ hb _ e n => u.slot b o e n hb (by simp)) (fun b o _ e n => u.free b o e n (by simp)) (fun b o _ e => u.there b o e (by simp)) u.tups u.frzs u.tbls (fun m' hm => by
  obtain ⟨o',es',ep',ho',r'⟩ := hm
  rw [ho] at ho'; cases ho'
  exact ⟨_,es',ep',hL,r'⟩) hok I.bare
theorem Inv.call {g' : Array GenState} {t' : Nat} {d' : Drawn} {ch : List Addr} (I : Inv X pins σ H s) (u : Un (frs X.stack) ch H H' s.heap h') (hok : HOk X.prog X.w H' h') (hg : AllBare g')
  (hch : ∀ b ∈ ch,(b ∈ X.ex ∨ X.s₀.heap.objs.size <= b) /\ b ≠ X.env.locals /\ (∀ x c,X.env.cells.lookup x = some c -> c ≠ b) /\ ∀ p ∈ X.pn ++ pins,p.1 ≠ b) :
  Inv X pins σ H' { s with heap := h',gens := g',drawn := d',toks := t' } := by
 obtain ⟨m,⟨o,es,ep,ho,r⟩,_⟩ := id I.loc
 obtain ⟨sl,hL⟩ := u.any ho I.free fun z => (hch _ z).2.1 rfl
 exact I.step (ch := ch) hch (fun b o hL hb hc e n => u.keep b o e n (fun z => (List.mem_cons.mp (I.stkSub b z)).elim hL hb) hc) (fun b o _ _ hc e n => u.any e n hc) (fun b o hc e n => u.free b o e n hc) (fun b o hc e => u.there b o e hc) u.tups u.frzs u.tbls (fun m' hm => by
  obtain ⟨o',es',ep',ho',r'⟩ := hm
  rw [ho] at ho'; cases ho'
  exact ⟨_,es',ep',hL,r'⟩) hok hg
theorem Inv.turned {t' : Nat} {it : Addr} (I : Inv X pins σ H s) (k : ∀ b o,b ≠ it -> s.heap.get? b = some o -> h'.get? b = some o) (hn : H it = none) (hL : it ≠ X.env.locals)
  (h1 : it ∈ X.ex ∨ X.s₀.heap.objs.size <= it) (h2 : ∀ x c,X.env.cells.lookup x = some c -> c ≠ it) (h3 : ∀ p ∈ X.pn ++ pins,p.1 ≠ it) : Inv X pins σ H { s with heap := h',toks := t' } := by
 have nit : ∀ b u,H b = some u -> b ≠ it := fun b u e z => by rw [z,hn] at e; cases e
 refine I.step (g' := s.gens) (d' := s.drawn) (ch := [it]) (fun b hb => ?_) (fun b o _ _ hc e _ => k b o (fun z => hc (by simp [z])) e) (fun b o _ _ hc e _ => ⟨o.slots,k b o (fun z => hc (by simp [z])) e⟩) (fun _ _ _ _ n => n)
  (fun b o hc e => ⟨o,k b o (fun z => hc (by simp [z])) e⟩) (fun _ _ e => e) (fun _ _ _ e => e) (fun b ps e => ⟨#[],by rw [e]; simp⟩) (fun m hm => ?_) (fun b u e => ?_) I.bare
 ·have e : b = it := by simpa using hb
  subst e
  exact ⟨h1,hL,h2,h3⟩
 ·obtain ⟨o,es,ep,ho,r⟩ := hm
  exact ⟨o,es,ep,k _ o (Ne.symm hL) ho,r⟩
 ·refine (I.hok b u e).stay (fun c v hc q => k c v ?_ q) (fun _ q => q) fun _ _ q => q
  rcases hc with z | z
  ·rw [z]; exact nit b u e
  ·exact nit c _ z
theorem Inv.tok (I : Inv X pins σ H s) (t : Nat) : Inv X pins σ H { s with toks := t } := I.un (h' := s.heap) (t' := t) Un.refl I.hok
theorem Inv.kept {t' : Nat} (I : Inv X pins σ H s) (k : ∀ b u,s.heap.get? b = some u -> h'.get? b = some u) : Inv X pins σ H { s with heap := h',toks := t' } := I.un (Un.kept k) (I.hok.kept k)
theorem Inv.laid {a : Addr} {o : HO} {t' : Nat} (I : Inv X pins σ H s) (k : ∀ b u,s.heap.get? b = some u -> h'.get? b = some u) (hp : s.heap.objs.size <= a) (new : ObjOk X.prog X.w (upd H a o) h' a o) :
  Inv X pins σ (upd H a o) { s with heap := h',toks := t' } := I.un (Un.laid k hp (I.hok.fresh hp)) (I.hok.laid k hp new)
theorem Inv.write {x e : Addr} {o : HO} {t' : Nat} (I : Inv X pins σ H s) (mu : Mut (H x)) (he : e = x ∨ H e = some (.own x)) (k : ∀ b u,b ≠ e -> s.heap.get? b = some u -> h'.get? b = some u) (heo : ∃ u,h'.get? e = some u)
  (new : ObjOk X.prog X.w (upd H x o) h' x o) : Inv X pins σ (upd H x o) { s with heap := h',toks := t' } := I.un (Un.write mu he k heo) (I.hok.write mu he k heo new)
theorem Inv.pins_of {pins' : List (Addr × Obj)} (I : Inv X pins σ H s) (h : ∀ p ∈ pins',s.heap.get? p.1 = some p.2 /\ H p.1 = none /\ p.1 ≠ X.env.locals /\ p.1 ∉ X.fs /\ ∀ v,p.2.data ≠ .cell v) : Inv X pins' σ H s :=
 ⟨I.ok,I.os,I.bare,I.base,I.loc,I.cell,I.free,I.freeC,fun p hp => (List.mem_append.mp hp).elim (fun z => I.pin p (List.mem_append_left _ z)) (h p),I.hok,I.len⟩
theorem zj7 {N : List Str} (hN : N.Nodup) {i j : Nat} {x : Str} (a : N[i]? = some x) (b : N[j]? = some x) : i = j := by
 obtain ⟨h1,e1⟩ := List.getElem?_eq_some_iff.mp a
 obtain ⟨h2,e2⟩ := List.getElem?_eq_some_iff.mp b
 exact (List.getElem_inj hN).mp (e1.trans e2.symm)
theorem zlH {M : Model} {A : Around} {E : Value -> Shared -> Prop} {i : Nat} {x : Str} {v : V} {u : Value} {Q : Unit -> Shared -> Prop} (I : Inv X pins σ H s) (hN : X.N.Nodup) (hi : X.N[i]? = some x) (hx : Loc X.env.scope x) (r : RelV v u)
  (h : ∀ s',Inv X pins (σ.set i (some v)) H s' -> (∃ a,Heap.SameBut a s.heap s'.heap /\ (a = X.env.locals ∨ X.env.cells.lookup x = some a)) -> Q () s') (hf : autoParam (X.fn x = true ∨ X.env.scope.names.lookup x = some .local) AutoP.a0._auto_1) : wpAny M A (storeName X.env x u) Q E s := by
 obtain ⟨m,hn,hl⟩ := id I.loc
 have hcls : (X.env.scope.kind == .class || (X.env.scope.kind == .module && X.env.locals != X.env.globals)) = false := by rw [I.ok.kind]; rfl
 have hiσ : i < σ.length := by rw [I.len]; exact (List.getElem?_eq_some_iff.mp hi).1
 have cne := I.cne
 have tracked : ∀ {a : Addr} {h' : Heap},(∃ o,s.heap.get? a = some o /\ H a = none) -> Heap.SameBut a s.heap h' -> HOk X.prog X.w H h' := fun {a h'} ha hs b ob e => by
  obtain ⟨_,_,hfree⟩ := ha
  refine (I.hok b ob e).stay (fun c w' hc q => (hs.2 c ?_).trans q) (fun _ q => q) fun _ _ q => q
  rintro rfl
  rcases hc with rfl | hc
  ·rw [hfree] at e; cases e
  ·rw [hfree] at hc; cases hc
 rcases hx with hk | hk
 ·refine wpAny_storeName_local hk hn (fun h' hn' hs => ?_) hcls
  obtain ⟨oL,_,_,hoL,_⟩ := id hn
  refine h _ ⟨I.ok,I.os,I.bare,⟨fun b o e n hb hx => ?_,fun b o e n hb hx => ?_,I.base.free,fun b o e hx => ?_,I.base.tups,I.base.frzs,I.base.tbls⟩,⟨_,hn',fun j y v' e1 e2 e3 => ?_⟩,fun y c e => ?_,I.free,I.freeC,fun p hp => ?_,tracked ⟨oL,hoL,I.free⟩ hs,by simpa using I.len⟩ ⟨_,hs,.inl rfl⟩
  ·exact (hs.2 b (Nat.ne_of_lt (Nat.lt_of_lt_of_le (Heap.lt_size e) I.ok.above))).trans (I.base.keep b o e n hb hx)
  ·obtain ⟨sl,e1⟩ := I.base.slot b o e n hb hx
   exact ⟨sl,(hs.2 b (Nat.ne_of_lt (Nat.lt_of_lt_of_le (Heap.lt_size e) I.ok.above))).trans e1⟩
  ·obtain ⟨o',e1⟩ := I.base.there b o e hx
   exact ⟨o',(hs.2 b (Nat.ne_of_lt (Nat.lt_of_lt_of_le (Heap.lt_size e) I.ok.above))).trans e1⟩
  ·by_cases hj : j = i
   ·subst hj
    rw [hi] at e1; cases e1
    rw [List.getElem?_set_self hiσ] at e2
    cases e2
    exact ⟨u,r,.inl ⟨hk,by simp⟩⟩
   ·rw [List.getElem?_set_ne (Ne.symm hj)] at e2
    obtain ⟨u',r',q⟩ := hl j y v' e1 e2 e3
    refine ⟨u',r',?_⟩
    rcases q with ⟨k,e⟩ | ⟨k,c,e,z⟩
    ·refine .inl ⟨k,?_⟩
     have : y ≠ x := fun e => hj (zj7 hN e1 (e ▸ hi))
     simp [this,e]
    ·exact .inr ⟨k,c,e,z.sameBut hs (cne y c e)⟩
  ·obtain ⟨w',z⟩ := I.cell y c e
   exact ⟨w',z.sameBut hs (cne y c e)⟩
  ·obtain ⟨e,n,ne,nf,d⟩ := I.pin p hp
   exact ⟨(hs.2 p.1 ne).trans e,n,ne,nf,d⟩
 ·have hfn : X.fn x = true := by
   rcases hf with z | z
   ·exact z
   ·rw [z] at hk; cases hk
  obtain ⟨c,hc⟩ := I.ok.has x (.inl hk)
  obtain ⟨w',z⟩ := I.cell x c hc
  refine wpAny_storeName_cell I.ok.kind hk hc z (fun h' hc' hs => ?_)
  obtain ⟨oc,hoc,hocd⟩ := id z
  refine h { s with heap := h' } ⟨I.ok,I.os,I.bare,⟨fun b o e n hb hx => ?_,fun b o e n hb hx => ?_,I.base.free,fun b o e hx => ?_,I.base.tups,I.base.frzs,I.base.tbls⟩,⟨m,hn.sameBut hs (Ne.symm (cne x c hc)),fun j y v' e1 e2 e3 => ?_⟩,fun y c' e => ?_,I.free,I.freeC,fun p hp => ?_,tracked ⟨oc,hoc,I.freeC x c hc⟩ hs,by simpa using I.len⟩ ⟨c,hs,.inr hc⟩
  ·exact (hs.2 b (Nat.ne_of_lt (Nat.lt_of_lt_of_le (Heap.lt_size e) (I.ok.cab x c hfn hc)))).trans (I.base.keep b o e n hb hx)
  ·obtain ⟨sl,e1⟩ := I.base.slot b o e n hb hx
   exact ⟨sl,(hs.2 b (Nat.ne_of_lt (Nat.lt_of_lt_of_le (Heap.lt_size e) (I.ok.cab x c hfn hc)))).trans e1⟩
  ·obtain ⟨o',e1⟩ := I.base.there b o e hx
   exact ⟨o',(hs.2 b (Nat.ne_of_lt (Nat.lt_of_lt_of_le (Heap.lt_size e) (I.ok.cab x c hfn hc)))).trans e1⟩
  ·by_cases hj : j = i
   ·subst hj
    rw [hi] at e1; cases e1
    rw [List.getElem?_set_self hiσ] at e2
    cases e2
    exact ⟨u,r,.inr ⟨.inl hk,c,hc,hc'⟩⟩
   ·rw [List.getElem?_set_ne (Ne.symm hj)] at e2
    obtain ⟨u',r',q⟩ := hl j y v' e1 e2 e3
    refine ⟨u',r',?_⟩
    rcases q with q | ⟨k,c',e,z'⟩
    ·exact .inl q
    ·refine .inr ⟨k,c',e,z'.sameBut hs ?_⟩
     rintro rfl
     exact hj (zj7 hN e1 (I.ok.inj _ _ _ e hc ▸ hi))
  ·by_cases hcc : c' = c
   ·subst hcc; exact ⟨_,hc'⟩
   ·obtain ⟨w2,z2⟩ := I.cell y c' e
    exact ⟨w2,z2.sameBut hs hcc⟩
  ·obtain ⟨e,n,ne,nf,d⟩ := I.pin p hp
   refine ⟨(hs.2 p.1 ?_).trans e,n,ne,nf,d⟩
   intro q
   rw [q,hoc] at e
   have q' : oc = p.2 := Option.some.inj e
   exact d w' (by rw [<- q']; exact hocd)
theorem zci {M : Model} {A : Around} {E : Value -> Shared -> Prop} {i : Nat} {x : Str} {v : V} {u : Value} {Q : Unit -> Shared -> Prop} (I : Inv X pins σ H s) (hN : X.N.Nodup) (hi : X.N[i]? = some x) (hx : Loc X.env.scope x) (r : RelV v u)
  (h : ∀ s',Inv X pins (σ.set i (some v)) H s' -> Q () s') (hf : autoParam (X.fn x = true ∨ X.env.scope.names.lookup x = some .local) AutoP.a0._auto_1) : wpAny M A (storeName X.env x u) Q E s :=
 zlH I hN hi hx r (fun s' I' _ => h s' I') hf
theorem Inv.call' {s' : Shared} {ch : List Addr} (I : Inv X pins σ H s) (ho : s'.os = s.os) (u : Un (frs X.stack) ch H H' s.heap s'.heap) (hok : HOk X.prog X.w H' s'.heap) (hg : AllBare s'.gens)
  (hch : ∀ b ∈ ch,(b ∈ X.ex ∨ X.s₀.heap.objs.size <= b) /\ b ≠ X.env.locals /\ (∀ x c,X.env.cells.lookup x = some c -> c ≠ b) /\ ∀ p ∈ X.pn ++ pins,p.1 ≠ b) : Inv X pins σ H' s' := by
 obtain ⟨h',g',d',t',o'⟩ := s'
 have e : o' = s.os := ho
 subst e
 exact I.call (g' := g') (t' := t') (d' := d') u hok hg hch
end
abbrev XK := Value -> Option Addr -> Hp -> Prop
abbrev St := List (Option V)
abbrev VK := V -> Hp -> Prop
abbrev TE := St -> Hp -> VK -> Prop
abbrev TT := St -> Hp -> (Bool -> Hp -> Prop) -> Prop
abbrev TA := St -> Hp -> (List V -> Hp -> Prop) -> Prop
structure Ends where
 nx : St -> Hp -> Prop
 rt : VK
 bk : St -> Hp -> Prop := fun _ _ => False
 ct : St -> Hp -> Prop := fun _ _ => False
abbrev TS := Ends -> St -> Hp -> Prop
def EP (X : Cx) (pins : List (Addr × Obj)) (σ : St) (Q : VK) (u : Value) (s' : Shared) : Prop := ∃ v H',Inv X pins σ H' s' /\ RelV v u /\ Q v H'
def TP (X : Cx) (pins : List (Addr × Obj)) (σ : St) (Q : Bool -> Hp -> Prop) (b : Bool) (s' : Shared) : Prop := ∃ H',Inv X pins σ H' s' /\ Q b H'
def AP (X : Cx) (pins : List (Addr × Obj)) (σ : St) (Q : List V -> Hp -> Prop) (us : List Value) (s' : Shared) : Prop := ∃ vs H',Inv X pins σ H' s' /\ Vals vs us /\ Q vs H'
def SP (X : Cx) (pins : List (Addr × Obj)) (D : Ends) (f : Flow) (s' : Shared) : Prop :=
 match f with
 | .next => ∃ σ' H',Inv X pins σ' H' s' /\ D.nx σ' H'
 | .brk => ∃ σ' H',Inv X pins σ' H' s' /\ D.bk σ' H'
 | .cont => ∃ σ' H',Inv X pins σ' H' s' /\ D.ct σ' H'
 | .ret u => ∃ v σ' H',Inv X pins σ' H' s' /\ RelV v u /\ D.rt v H'
def PE (X : Cx) (e : Expr) (t : TE) : Prop :=
 ∀ (pins : List (Addr × Obj)) (s : Shared) (σ : St) (H : Hp) (Q : VK),Inv X pins σ H s -> t σ H Q -> wpAny (model X.prog X.w) X.A (eval e X.env) (EP X pins σ Q) X.xe s
def PT (X : Cx) (e : Expr) (t : TT) : Prop :=
 ∀ (pins : List (Addr × Obj)) (s : Shared) (σ : St) (H : Hp) (Q : Bool -> Hp -> Prop),Inv X pins σ H s -> t σ H Q -> wpAny (model X.prog X.w) X.A (isTrue e X.env (eval e X.env)) (TP X pins σ Q) X.xe s
def PW (X : Cx) (e : Expr) (t : TT) : Prop :=
 ∀ (whole : Sem Value) (pins : List (Addr × Obj)) (s : Shared) (σ : St) (H : Hp) (Q : Bool -> Hp -> Prop),Inv X pins σ H s -> t σ H Q -> wpAny (model X.prog X.w) X.A (isTrue e X.env whole) (TP X pins σ Q) X.xe s
theorem PW.pt {X : Cx} {e : Expr} {t : TT} (h : PW X e t) : PT X e t := h _
def PA (X : Cx) (es : List Expr) (t : TA) : Prop :=
 ∀ (pos : Pos) (pins : List (Addr × Obj)) (s : Shared) (σ : St) (H : Hp) (Q : List V -> Hp -> Prop),Inv X pins σ H s -> t σ H Q -> wpAny (model X.prog X.w) X.A (spliced (backTo pos (starEach es X.env))) (AP X pins σ Q) X.xe s
def PS (X : Cx) (st : Stmt) (t : TS) : Prop :=
 ∀ (pins : List (Addr × Obj)) (s : Shared) (σ : St) (H : Hp) (D : Ends),Inv X pins σ H s -> t D σ H -> wpAny (model X.prog X.w) X.A (exec st X.env) (SP X pins D) X.xe s
def PSs (X : Cx) (st : List Stmt) (t : TS) : Prop :=
 ∀ (pins : List (Addr × Obj)) (s : Shared) (σ : St) (H : Hp) (D : Ends),Inv X pins σ H s -> t D σ H -> wpAny (model X.prog X.w) X.A (execs st X.env) (SP X pins D) X.xe s
theorem thn {α : Type} {t : Sem α} {Q Q' : α -> Shared -> Prop} {M : Model} {A : Around} {E : Value -> Shared -> Prop} {s : Shared} (h : wpAny M A t Q E s) (hQ : ∀ a s,Q a s -> Q' a s) : wpAny M A t Q' E s := wpAny_mono h hQ fun _ _ x => x
section
variable {X : Cx}
def tVar (i : Nat) : TE := fun σ H Q => ∃ v,σ[i]? = some (some v) /\ Q v H
def tC (v : V) : TE := fun _ H Q => Q v H
theorem pe_var {i : Nat} {x : Str} {pos : Pos} (hN : X.N[i]? = some x) (hv : Vis X.env.scope x) (hd : autoParam ((x == ("__debug__" : Str)) = false) AutoP.a1._auto_1) (hcd : autoParam ((x == ("__classdict__" : Str)) = false) AutoP.a1._auto_1) : PE X (.Name x pos) (tVar i) := by
 intro pins s σ H Q I h
 obtain ⟨v,e,h⟩ := h
 obtain ⟨m,hn,hl⟩ := I.loc
 obtain ⟨u,r,l⟩ := hl i x v hN e hv
 have fin : EP X pins σ Q u s := ⟨v,H,I,r,h⟩
 rcases l with ⟨hk,hm⟩ | ⟨hk,c,hc,hcell⟩
 ·exact wpAny_Name (wpAny_loadName_local I.ok.kind hk hn hm fin) hd
 ·rcases hk with hk | hk
  ·exact wpAny_Name (wpAny_loadName_cell I.ok.kind hk hc hcell fin) hd
  ·exact wpAny_Name (wpAny_loadName_free I.ok.kind hk hc hcell fin hcd) hd
theorem pe_int {i j pos} : PE X (.Constant (.int i) j pos) (tC (.int i)) := fun _ _ _ H _ I h => wpAny_Constant_int ⟨.int i,H,I.tok _,⟨_,rfl⟩,h⟩
theorem pe_bl {b j pos} : PE X (.Constant (.bool b) j pos) (tC (.bl b)) := fun _ _ _ H _ I h => Constant_bool ⟨.bl b,H,I,rfl,h⟩
theorem pe_non {j pos} : PE X (.Constant .none j pos) (tC .non) := fun _ _ _ H _ I h => Constant_none ⟨.non,H,I,rfl,h⟩
theorem zpd {x j pos} : PE X (.Constant (.str x) j pos) (tC (.str x)) := fun _ _ _ H _ I h => Calls.Constant_str ⟨.str x,H,I.tok _,⟨_,rfl⟩,h⟩
def Gl (X : Cx) (x : Str) : Prop := X.env.kindOf x = some .globalImplicit
theorem zmV {E : Value -> Shared -> Prop} {pins : List (Addr × Obj)} {s : Shared} {σ : St} {H : Hp} {x : Str} {u : Value} {pos : Pos} {Q : Value -> Shared -> Prop} (I : Inv X pins σ H s) (hg : Gl X x) (hm : X.mg x = some u) (h : Q u s)
  (hd : autoParam ((x == ("__debug__" : Str)) = false) AutoP.a1._auto_1) : wpAny (model X.prog X.w) X.A (eval (.Name x pos) X.env) Q E s :=
 Calls.Name_function_global I.ok.kind hg (Calls.loadGlobal_global (by rw [I.ok.glob]; exact I.mod.glob.keeps I.bk) hm h) hd
theorem zdT {E : Value -> Shared -> Prop} {pins : List (Addr × Obj)} {s : Shared} {σ : St} {H : Hp} {x : Str} {u : Value} {pos : Pos} {Q : Value -> Shared -> Prop} (I : Inv X pins σ H s) (hg : Gl X x) (hm : X.mg x = none) (hv : bootBuiltins x = some u) (h : Q u s)
  (hn : autoParam (x ≠ "__name__") AutoP.a1._auto_1) (hd : autoParam ((x == ("__debug__" : Str)) = false) AutoP.a1._auto_1) : wpAny (model X.prog X.w) X.A (eval (.Name x pos) X.env) Q E s := by
 obtain ⟨mb,h1,h2⟩ := I.mod.blt
 exact Calls.Name_function_global I.ok.kind hg (Calls.loadGlobal_builtin (by rw [I.ok.glob]; exact I.mod.glob.keeps I.bk) hm (by rw [I.ok.blt]; exact h1.keeps I.bk) ((h2 x hn).trans hv) h) hd
theorem zqA {x : Str} {v : V} {u : Value} {pos : Pos} (hg : Gl X x) (hm : X.mg x = none) (hv : bootBuiltins x = some u) (r : RelV v u) (hn : autoParam (x ≠ "__name__") AutoP.a1._auto_1) (hd : autoParam ((x == ("__debug__" : Str)) = false) AutoP.a1._auto_1) : PE X (.Name x pos) (tC v) :=
 fun _ _ _ H _ I h => zdT I hg hm hv ⟨v,H,I,r,h⟩ hn hd
variable {a b : Expr} {ta tb : TE} {pos : Pos}
def tB (t : TE) : TT := fun σ H Q => t σ H fun x H1 => ∃ c,x = .bl c /\ Q c H1
theorem pt_val {e : Expr} {t : TE} (h : PE X e t) (he : autoParam (∀ whole,isTrue e X.env whole = (do let v <- whole; standAt e.pos; holding [v] (truthy v))) AutoP.a2._auto_1) : PT X e (tB t) := by
 intro pins s σ H Q I hw
 refine isTrue_plain (thn (h pins s σ H _ I hw) fun v s1 ⟨x,H1,I1,r1,q1⟩ => ?_) (he _)
 obtain ⟨d,rfl,q⟩ := q1
 cases r1
 exact wpAny_truthy_bool ⟨H1,I1,q⟩
variable {tA tB' : TT} {rest : List Expr}
def tAnd (t u : TT) : TT := fun σ H Q => t σ H fun c H1 => if c = true then u σ H1 Q else Q false H1
def tNot (t : TT) : TT := fun σ H Q => t σ H fun c H1 => Q (!c) H1
theorem zp4 (ha : PT X a tA) : PW X (.BoolOp .And [a] pos) tA := by
 intro wh pins s σ H Q I h
 refine isTrue_and (thn (ha pins s σ H Q I h) fun c s1 e => ?_)
 cases c with
 | true => exact isTrue_and_nil e
 | false => exact e
theorem pw_and (ha : PT X a tA) (hb : PW X (.BoolOp .And (b :: rest) pos) tB') : PW X (.BoolOp .And (a :: b :: rest) pos) (tAnd tA tB') := by
 intro wh pins s σ H Q I h
 refine isTrue_and (thn (ha pins s σ H _ I h) fun c s1 ⟨H1,I1,q1⟩ => ?_)
 cases c with
 | true => exact hb wh pins s1 σ H1 Q I1 q1
 | false => exact ⟨H1,I1,q1⟩
theorem pt_not (ha : PT X a tA) : PT X (.UnaryOp .Not a pos) (tNot tA) := by
 intro pins s σ H Q I h
 exact isTrue_not (ha pins s σ H (fun c H1 => Q (!c) H1) I h)
def tAndV (ta tb : TE) : TE := fun σ H Q => ta σ H fun x H1 => ∃ c,x = .bl c /\ if c = true then tb σ H1 Q else Q (.bl false) H1
def tOrV (ta tb : TE) : TE := fun σ H Q => ta σ H fun x H1 => ∃ c,x = .bl c /\ if c = true then Q (.bl true) H1 else tb σ H1 Q
theorem pe_one {op} {t : TE} (h : PE X a t) : PE X (.BoolOp op [a] pos) t := fun pins s σ H Q I hw => BoolOp_one (h pins s σ H Q I hw)
theorem pe_and (ha : PE X a ta) (hb : PE X (.BoolOp .And (b :: rest) pos) tb) : PE X (.BoolOp .And (a :: b :: rest) pos) (tAndV ta tb) := by
 intro pins s σ H Q I h
 refine BoolOp_and (thn (ha pins s σ H _ I h) fun v s1 ⟨x,H1,I1,r1,q1⟩ => ?_)
 obtain ⟨c,rfl,q1⟩ := q1
 cases r1
 refine wpAny_truthy_bool ?_
 cases c with
 | true => exact hb pins s1 σ H1 Q I1 q1
 | false => exact ⟨.bl false,H1,I1,rfl,q1⟩
theorem pe_or (ha : PE X a ta) (hb : PE X (.BoolOp .Or (b :: rest) pos) tb) : PE X (.BoolOp .Or (a :: b :: rest) pos) (tOrV ta tb) := by
 intro pins s σ H Q I h
 refine BoolOp_or (thn (ha pins s σ H _ I h) fun v s1 ⟨x,H1,I1,r1,q1⟩ => ?_)
 obtain ⟨c,rfl,q1⟩ := q1
 cases r1
 refine wpAny_truthy_bool ?_
 cases c with
 | false => exact hb pins s1 σ H1 Q I1 q1
 | true => exact ⟨.bl true,H1,I1,rfl,q1⟩
def tIf (t : TT) (ta tb : TE) : TE := fun σ H Q => t σ H fun c H1 => if c = true then ta σ H1 Q else tb σ H1 Q
theorem zop {c : Expr} (hc : PT X c tA) (ha : PE X a ta) (hb : PE X b tb) : PE X (.IfExp c a b pos) (tIf tA ta tb) := by
 intro pins s σ H Q I h
 refine wpAny_IfExp (thn (hc pins s σ H _ I h) fun d s1 ⟨H1,I1,q1⟩ => ?_)
 cases d with
 | true => exact ha pins s1 σ H1 Q I1 q1
 | false => exact hb pins s1 σ H1 Q I1 q1
end
def SqL (K : PySem.W.Frag) (H : Hp) (a : Addr) (xs : List V) : Prop :=
 Rd H a (.lst xs) ∨
  ∃ (o : Obj) (its : Array Value) (n : Nat),K.lookup a = some o /\ o.cls = .type "list" /\ o.dict = none /\ o.data = .seq its n /\ its.size <= sizeLine /\ Vals xs its.toList
def SqT (K : PySem.W.Frag) (H : Hp) (a : Addr) (xs : List V) : Prop :=
 Rd H a (.tup xs) ∨
  ∃ (o : Obj) (its : Array Value) (n : Nat),K.lookup a = some o /\ o.cls = .type "tuple" /\ o.data = .seq its n /\ its.size <= sizeLine /\ Vals xs its.toList
def absV : Value -> Option V
 | .none => some .non
 | .bool b => some (.bl b)
 | .int i _ => some (.int i)
 | .str x _ => some (.str x)
 | .bytes b _ => some (.byt b)
 | .float b _ => some (.flt b)
 | .ref a => some (.ref a)
 | .type n => some (.ty n)
 | _ => none
theorem RelV.abs {x : V} {u : Value} (r : RelV x u) : absV u = some x := by
 cases x with
 | non => cases r; rfl
 | bl _ => cases r; rfl
 | int _ => obtain ⟨t,rfl⟩ := r; rfl
 | str _ => obtain ⟨t,rfl⟩ := r; rfl
 | byt _ => obtain ⟨t,rfl⟩ := r; rfl
 | flt _ => obtain ⟨t,rfl⟩ := r; rfl
 | ref _ => cases r; rfl
 | ty _ => cases r; rfl
theorem RelV.inj {x y : V} {u : Value} (r : RelV x u) (q : RelV y u) : x = y := Option.some.inj (r.abs.symm.trans q.abs)
theorem Vals.inj : ∀ {xs ys : List V} {us : List Value},Vals xs us -> Vals ys us -> xs = ys
 | _,_,_,.nil,.nil => rfl
 | _,_,_,.cons r t,.cons r' t' => by rw [r.inj r',Vals.inj t t']
section
variable {X : Cx} {pins : List (Addr × Obj)} {σ : St} {H : Hp} {s : Shared} {a : Addr} {xs ys : List V}
theorem SqL.of {K : PySem.W.Frag} (h : H a = some (.lst xs)) : SqL K H a xs := .inl (.inl h)
theorem SqT.of {K : PySem.W.Frag} (h : H a = some (.tup xs)) : SqT K H a xs := .inl (.inl h)
theorem Inv.list (I : Inv X pins σ H s) (h : SqL X.K H a xs) : ∃ its : List Value,Vals xs its /\ PlainL s.heap a its.toArray /\ xs.length <= sizeLine := by
 rcases h with h | ⟨o,its,n,hk,hc,hd,hs,hz,r⟩
 ·obtain ⟨z,its,n,r,e⟩ := h.ok I.hok
  exact ⟨its,r,⟨_,n,e,rfl,rfl,rfl⟩,z⟩
 ·refine ⟨its.toList,r,⟨o,n,I.kIn a o hk,hc,hd,by simpa using hs⟩,?_⟩
  have e := r.length
  simp only [Array.length_toList] at e
  omega
theorem Inv.tuple (I : Inv X pins σ H s) (h : SqT X.K H a xs) : ∃ its : List Value,Vals xs its /\ IsTup s.heap a its.toArray /\ xs.length <= sizeLine := by
 rcases h with h | ⟨o,its,n,hk,hc,hs,hz,r⟩
 ·obtain ⟨z,its,r,p,_⟩ := h.ok I.hok
  exact ⟨its,r,p,z⟩
 ·refine ⟨its.toList,r,⟨o,I.kIn a o hk,hc,n,by simpa using hs⟩,?_⟩
  have e := r.length
  simp only [Array.length_toList] at e
  omega
theorem Inv.list_inj (I : Inv X pins σ H s) (h : SqL X.K H a xs) (h' : SqL X.K H a ys) : xs = ys := by
 obtain ⟨its,r,⟨o,n,e,_,_,d⟩,_⟩ := I.list h
 obtain ⟨its',r',⟨o',n',e',_,_,d'⟩,_⟩ := I.list h'
 rw [e] at e'; cases e'
 rw [d] at d'
 injection d' with d1 _
 have : its = its' := by simpa using congrArg Array.toList d1
 subst this
 exact r.inj r'
theorem Inv.tuple_inj (I : Inv X pins σ H s) (h : SqT X.K H a xs) (h' : SqT X.K H a ys) : xs = ys := by
 obtain ⟨its,r,⟨o,e,_,n,d⟩,_⟩ := I.tuple h
 obtain ⟨its',r',⟨o',e',_,n',d'⟩,_⟩ := I.tuple h'
 rw [e] at e'; cases e'
 rw [d] at d'
 injection d' with d1 _
 have : its = its' := by simpa using congrArg Array.toList d1
 subst this
 exact r.inj r'
end
abbrev Cx.wish (X : Cx) (E : Value -> Shared -> Prop) : Cx := { X with xe := E }
abbrev Cx.nox (X : Cx) : Cx := X.wish fun _ _ => False
theorem Cx.Ok.wish {X : Cx} (ok : X.Ok) (E : Value -> Shared -> Prop) : (X.wish E).Ok :=
 ⟨ok.mod,ok.kind,ok.glob,ok.blt,ok.above,ok.inj,ok.has,ok.cab,ok.hd,ok.frames,ok.stk,ok.exf,ok.bs,ok.bsz,ok.noex,ok.exfs,ok.funs,ok.frf⟩
theorem Cx.Ok.unwish {X : Cx} {E : Value -> Shared -> Prop} (ok : (X.wish E).Ok) : X.Ok :=
 ⟨ok.mod,ok.kind,ok.glob,ok.blt,ok.above,ok.inj,ok.has,ok.cab,ok.hd,ok.frames,ok.stk,ok.exf,ok.bs,ok.bsz,ok.noex,ok.exfs,ok.funs,ok.frf⟩
section
variable {X : Cx} {pins : List (Addr × Obj)} {σ : St} {H : Hp} {s : Shared} {E : Value -> Shared -> Prop}
theorem Inv.wish (I : Inv X pins σ H s) (E : Value -> Shared -> Prop) : Inv (X.wish E) pins σ H s := ⟨I.ok.wish E,I.os,I.bare,I.base,I.loc,I.cell,I.free,I.freeC,I.pin,I.hok,I.len⟩
theorem Inv.unwish (I : Inv (X.wish E) pins σ H s) : Inv X pins σ H s := ⟨I.ok.unwish,I.os,I.bare,I.base,I.loc,I.cell,I.free,I.freeC,I.pin,I.hok,I.len⟩
theorem SP.unwish {D : Ends} {f : Flow} {s' : Shared} (h : SP (X.wish E) pins D f s') : SP X pins D f s' := by
 cases f with
 | next => obtain ⟨σ',H',I,q⟩ := h; exact ⟨σ',H',I.unwish,q⟩
 | brk => obtain ⟨σ',H',I,q⟩ := h; exact ⟨σ',H',I.unwish,q⟩
 | cont => obtain ⟨σ',H',I,q⟩ := h; exact ⟨σ',H',I.unwish,q⟩
 | ret u => obtain ⟨v,σ',H',I,r,q⟩ := h; exact ⟨v,σ',H',I.unwish,r,q⟩
theorem PSs.nox {st : List Stmt} {t : TS} (h : PSs X.nox st t) : PSs X st t := fun pins s σ H D I hw =>
 wpAny_mono (h pins s σ H D (I.wish _) hw) (fun _ _ q => q.unwish) fun _ _ z => False.elim z
end
section
variable {X : Cx} {st : Stmt} {rest : List Stmt} {t u : TS} {e : Expr} {te : TE} {pos : Pos}
def tNext : TS := fun D σ H => D.nx σ H
def tSeq (t u : TS) : TS := fun D σ H => t { D with nx := u D } σ H
theorem zp9 : PSs X [] tNext := fun _ _ σ H _ I h => wpAny_execs_nil ⟨σ,H,I,h⟩
theorem zoh (h1 : PS X st t) (h2 : PSs X rest u) : PSs X (st :: rest) (tSeq t u) := by
 intro pins s σ H D I h
 refine wpAny_execs_cons (thn (h1 pins s σ H { D with nx := u D } I h) fun f s1 q => ?_)
 cases f with
 | next =>
  obtain ⟨σ',H',I',q⟩ := q
  exact h2 pins s1 σ' H' D I' q
 | ret v => exact q
 | brk => exact q
 | cont => exact q
theorem zp8 (h1 : PS X st t) : PSs X [st] t := by
 intro pins s σ H D I h
 refine wpAny_execs_cons (thn (h1 pins s σ H D I h) fun f s1 q => ?_)
 cases f with
 | next => exact wpAny_execs_nil q
 | ret v => exact q
 | brk => exact q
 | cont => exact q
theorem Inv.quiet {pins : List (Addr × Obj)} {σ : St} {H : Hp} {s : Shared} (I : Inv X pins σ H s) : interactive X.env = false := by simp [interactive,I.ok.kind]
def tDrop (te : TE) : TS := fun D σ H => te σ H fun _ H1 => D.nx σ H1
theorem zqc (he : PE X e te) (hs : autoParam (swapsWith e none pos.line X.env = pure false) AutoP.a3._auto_1) : PS X (.Expr e pos) (tDrop te) := by
 intro pins s σ H D I h
 exact wpAny_Expr_any (thn (he pins s σ H _ I h) fun v s1 ⟨x,H1,I1,r1,q1⟩ => ⟨σ,H1,I1,q1⟩) I.quiet hs
def tRet (te : TE) : TS := fun D σ H => te σ H D.rt
theorem ps_ret (he : PE X e te) : PS X (.Return (some e) pos) (tRet te) := by
 intro pins s σ H D I h
 exact wpAny_Return_some (thn (he pins s σ H _ I h) fun v s1 ⟨x,H1,I1,r1,q1⟩ => ⟨x,σ,H1,I1,r1,q1⟩)
def tIfS (c : TT) (t u : TS) : TS := fun D σ H => c σ H fun b H1 => if b = true then t D σ H1 else u D σ H1
theorem ps_if {c : Expr} {a b : List Stmt} {tc : TT} (hc : PT X c tc) (ha : PSs X a t) (hb : PSs X b u) : PS X (.If c a b pos) (tIfS tc t u) := by
 intro pins s σ H D I h
 refine wpAny_If (thn (hc pins s σ H _ I h) fun d s1 ⟨H1,I1,q1⟩ => ?_)
 cases d with
 | true => exact ha pins s1 σ H1 D I1 q1
 | false => exact hb pins s1 σ H1 D I1 q1
def tNever : TS := fun _ _ _ => False
theorem zoj : PS X st tNever := fun _ _ _ _ _ _ h => h.elim
end
abbrev TG := V -> St -> Hp -> (St -> Hp -> Prop) -> Prop
abbrev TGs := List V -> St -> Hp -> (St -> Hp -> Prop) -> Prop
def PG (X : Cx) (target : Expr) (t : TG) : Prop :=
 ∀ (pins : List (Addr × Obj)) (s : Shared) (σ : St) (H : Hp) (v : V) (u : Value) (Q : St -> Hp -> Prop),Inv X pins σ H s -> RelV v u -> t v σ H Q →
  wpAny (model X.prog X.w) X.A (assign target X.env u) (fun _ s' => ∃ σ' H',Inv X pins σ' H' s' /\ Q σ' H') X.xe s
def PGs (X : Cx) (ts : List Expr) (t : TGs) : Prop :=
 ∀ (pins : List (Addr × Obj)) (s : Shared) (σ : St) (H : Hp) (vs : List V) (us : List Value) (Q : St -> Hp -> Prop),Inv X pins σ H s -> Vals vs us -> t vs σ H Q →
  wpAny (model X.prog X.w) X.A (assignInOrder ((assignEach ts X.env).map (·.2)) us) (fun _ s' => ∃ σ' H',Inv X pins σ' H' s' /\ Q σ' H') X.xe s
abbrev TSet := V -> V -> V -> Hp -> (Hp -> Prop) -> Prop
def PSet (X : Cx) (t : TSet) : Prop :=
 ∀ (pins : List (Addr × Obj)) (s : Shared) (σ : St) (H : Hp) (o i v : V) (ov iv u : Value) (Q : Hp -> Prop),Inv X pins σ H s -> RelV o ov -> RelV i iv -> RelV v u -> t o i v H Q →
  wpAny (model X.prog X.w) X.A (setItem ov iv u) (fun _ s' => ∃ H',Inv X pins σ H' s' /\ Q H') X.xe s
section
variable {X : Cx} {pos : Pos}
def gName (i : Nat) : TG := fun v σ H Q => Q (σ.set i (some v)) H
theorem zmf {i : Nat} {x : Str} (hN : X.N.Nodup) (hi : X.N[i]? = some x) (hx : Loc X.env.scope x) (hf : autoParam (X.fn x = true ∨ X.env.scope.names.lookup x = some .local) AutoP.a0._auto_1) : PG X (.Name x pos) (gName i) := by
 intro pins s σ H v u Q I r h
 exact wpAny_assign_Name (zci I hN hi hx r (fun s' I' => ⟨_,H,I',h⟩) hf)
def gNil : TGs := fun vs σ H Q => vs = [] /\ Q σ H
def gCons (t : TG) (u : TGs) : TGs := fun vs σ H Q => ∃ v r,vs = v :: r /\ t v σ H fun σ' H' => u r σ' H' Q
theorem zqt : PGs X [] gNil := by
 intro pins s σ H vs us Q I r h
 obtain ⟨e,h⟩ := h
 subst e
 cases r
 exact assignInOrder_nil ⟨σ,H,I,h⟩
theorem zom {e : Expr} {es : List Expr} {t : TG} {u : TGs} (h1 : PG X e t) (h2 : PGs X es u)
  (hs : autoParam ((assignEach (e :: es) X.env).map (·.2) = assign e X.env :: (assignEach es X.env).map (·.2)) AutoP.a3._auto_1) : PGs X (e :: es) (gCons t u) := by
 intro pins s σ H vs us Q I r h
 obtain ⟨v,vr,e1,h⟩ := h
 subst e1
 cases r with
 | cons r rr =>
  rw [hs]
  refine assignInOrder_cons (thn (h1 pins s σ H _ _ _ I r h) fun _ s1 ⟨σ1,H1,I1,q1⟩ => ?_)
  exact h2 pins s1 σ1 H1 _ _ Q I1 rr q1
def zbi (K : PySem.W.Frag) (n : Nat) (t : TGs) : TG := fun v σ H Q => ∃ a xs,v = .ref a /\ SqT K H a xs /\ xs.length = n /\ t xs σ H Q
theorem pg_tup {es : List Expr} {k : Nat} {t : TGs} {n : Nat} (hc : X.calm = true) (h : PGs X es t)
  (hn : autoParam ((assignEach es X.env).length = n) AutoP.a3._auto_1) (hst : autoParam ((assignEach es X.env).findIdx? (·.1) = none) AutoP.a3._auto_1) : PG X (.Tuple es k pos) (zbi X.K n t) := by
 intro pins s σ H v u Q I r hw
 obtain ⟨a,xs,e1,hq,hl,hw⟩ := hw
 subst e1
 cases r
 obtain ⟨its,rv,ht,hz⟩ := I.tuple hq
 refine assign_Tuple_tuple (I.ok.hd hc) ht (by simp [hn,<- hl,rv.length]) hst fun h' hx => ?_
 have I1 : Inv X pins σ H { s with heap := h' } := I.kept (t' := s.toks) fun b o e => hx b o (Nat.ne_of_lt (Heap.lt_size e)) e
 exact h pins _ σ H xs _ Q I1 (by simpa using rv) hw
def gSub (to ti : TE) (t : TSet) : TG := fun v σ H Q => to σ H fun o H1 => ti σ H1 fun i H2 => t o i v H2 fun H3 => Q σ H3
theorem pg_sub {o i : Expr} {to ti : TE} {t : TSet} (ho : PE X o to) (hi : PE X i ti) (hs : PSet X t)
  (ha : autoParam (∀ v,assign (.Subscript o i pos) X.env v = (do
   let ov <- holding [v] (eval o X.env)
   let iv <- holding [v,ov] (eval i X.env)
   standAt pos
   holding [v,ov,iv] (setItem ov iv v)
   release [v,ov,iv] [])) AutoP.a2._auto_1) : PG X (.Subscript o i pos) (gSub to ti t) := by
 intro pins s σ H v u Q I r h
 rw [ha]
 refine wpAny_bind (wpAny_holding (thn (ho pins s σ H _ I h) fun ov s1 ⟨x,H1,I1,r1,q1⟩ => ?_))
 refine wpAny_bind (wpAny_holding (thn (hi pins s1 σ H1 _ I1 q1) fun iv s2 ⟨y,H2,I2,r2,q2⟩ => ?_))
 refine wpAny_bind (wpAny_standAt (wpAny_bind (wpAny_holding (thn (hs pins s2 σ H2 x y v ov iv u _ I2 r1 r2 r q2) fun _ s3 ⟨H3,I3,q3⟩ => ?_))))
 exact wpAny_release ⟨σ,H3,I3,q3⟩
def tAsg (te : TE) (g : TG) : TS := fun D σ H => te σ H fun x H1 => g x σ H1 D.nx
theorem ps_asg {tg e : Expr} {te : TE} {g : TG} (he : PE X e te) (hg : PG X tg g) (hs : autoParam (swapsWithSole [tg] e pos.line X.env = pure false) AutoP.a3._auto_1) (hw : autoParam (swappedStores [tg] e X.env = pure none) AutoP.a3._auto_1)
  (h1 : autoParam ((assignEach [tg] X.env).map (·.2) = [assign tg X.env]) AutoP.a3._auto_1) : PS X (.Assign [tg] e pos) (tAsg te g) := by
 intro pins s σ H D I h
 refine wpAny_Assign_stores (thn (he pins s σ H _ I h) fun v s1 ⟨x,H1,I1,r1,q1⟩ => ?_) hs hw
 rw [h1]
 exact thn (hg pins s1 σ H1 x v _ I1 r1 q1) fun _ s2 q => q
theorem ps_set {i : Nat} {x : Str} {e : Expr} {te : TE} {pos' : Pos} (hN : X.N.Nodup) (hi : X.N[i]? = some x) (hx : Loc X.env.scope x) (he : PE X e te) (hs : autoParam (swapsWith e (some (.Name x pos')) pos.line X.env = pure false) AutoP.a3._auto_1) (hf : autoParam (X.fn x = true ∨ X.env.scope.names.lookup x = some .local) AutoP.a0._auto_1) :
  PS X (.Assign [.Name x pos'] e pos) (tAsg te (gName i)) := by
 intro pins s σ H D I h
 refine wpAny_Assign_Name (thn (he pins s σ H _ I h) fun v s1 ⟨y,H1,I1,r1,q1⟩ => ?_) hs
 exact zci I1 hN hi hx r1 (fun s2 I2 => ⟨_,H1,I2,q1⟩) hf
def tPar (i j : Nat) (ta : TA) : TS := fun D σ H => ta σ H fun vs H1 => ∃ v w,vs = [v,w] /\ D.nx ((σ.set i (some v)).set j (some w)) H1
theorem ps_par {i j : Nat} {x y : Str} {a b : Expr} {ta : TA} {px py pt : Pos} {kt k2 pt2} (hc : X.calm = true) (hN : X.N.Nodup) (hi : X.N[i]? = some x) (hj : X.N[j]? = some y) (hij : i ≠ j)
  (hx : X.env.scope.names.lookup x = some .local) (hy : X.env.scope.names.lookup y = some .local) (ha : PA X [a,b] ta)
  (hw : swappedStores [.Tuple [.Name x px,.Name y py] kt pt] (.Tuple [a,b] k2 pt2) X.env = pure (some [x,y]))
  (hs : autoParam (swapsWithSole [.Tuple [.Name x px,.Name y py] kt pt] (.Tuple [a,b] k2 pt2) pos.line X.env = pure false) AutoP.a3._auto_1) :
  PS X (.Assign [.Tuple [.Name x px,.Name y py] kt pt] (.Tuple [a,b] k2 pt2) pos) (tPar i j ta) := by
 intro pins s σ H D I h
 rw [exec_Assign_arm]
 refine wpAny_bind (wpAny_standAt ?_)
 rw [hs]
 refine wpAny_bind (wpAny_pure ?_)
 rw [if_neg (by decide)]
 refine wpAny_bind (Tuple_ (thn (ha _ pins s σ H _ I h) fun us s1 ⟨vs,H1,I1,r1,q1⟩ => ?_))
 obtain ⟨v,w,e1,q1⟩ := q1
 subst e1
 obtain ⟨u1,u2,rfl,rv,rw'⟩ : ∃ u1 u2,us = [u1,u2] /\ RelV v u1 /\ RelV w u2 := by
  cases r1 with
  | cons p q =>
   cases q with
   | cons p' q' =>
    cases q'
    exact ⟨_,_,rfl,p,p'⟩
 refine wpAny_newObj_type ?_ (by show 2 <= sizeLine; decide)
 have I2 : Inv X pins σ H1 { s1 with heap := s1.heap.push { cls := .type "tuple", data := .seq [u1,u2].toArray } } := I1.kept (t' := s1.toks) fun b o e => Heap.get?_push_of_some _ e
 rw [hw]
 refine wpAny_bind (wpAny_pure ?_)
 show wpAny (model X.prog X.w) X.A (do rule "assign.swapped-stores"; let items <- unpackItems (.ref s1.heap.objs.size) 2 none; assignInOrder [fun v => bindName X.env y v,fun v => bindName X.env x v] items.reverse; pure Flow.next) _ _ _
 refine wpAny_bind (wpAny_rule (wpAny_bind (unpackItems_tuple (items := #[u1,u2]) (I.ok.hd hc) (IsTup.new s1.heap _) fun h' hx' => ?_)))
 have I3 := I2.kept (h' := h') (t' := s1.toks) fun b o e => hx' b o (Nat.ne_of_lt (Heap.lt_size e)) e
 show wpAny _ _ (assignInOrder [fun v => bindName X.env y v,fun v => bindName X.env x v] [u2,u1] >>= fun _ => pure Flow.next) _ _ _
 refine wpAny_bind (assignInOrder_cons (wpAny_bindName (zci I3 hN hj (.inl hy) rw' (fun s2 I4 => ?_) (.inr hy))))
 refine assignInOrder_cons (wpAny_bindName (zci I4 hN hi (.inl hx) rv (fun s3 I5 => assignInOrder_nil (wpAny_pure ?_)) (.inr hx)))
 rw [List.set_comm _ _ (Ne.symm hij)] at I5
 exact ⟨_,H1,I5,q1⟩
end
section
variable {X : Cx} {pos : Pos}
def tWhile (c : TT) (tb : TS) : TS := fun D σ H => ∃ W : Nat -> St -> Hp -> Prop,(∃ m,W m σ H) /\ ∀ m σ H,W m σ H →
 c σ H fun b H1 => if b = true then ∃ N : St -> Hp -> Prop,(∀ σ' H',N σ' H' -> ∃ m',m' < m /\ W m' σ' H') /\ tb { D with nx := N,ct := N,bk := D.nx } σ H1 else D.nx σ H1
theorem zoi {c : Expr} {body : List Stmt} {tc : TT} {tb : TS} (hp : PassesOwn (model X.prog X.w) X.A X.env X.xe) (hc : PT X c tc) (hb : PSs X body tb) : PS X (.While c body [] pos) (tWhile tc tb) := by
 intro pins s σ H D I h
 obtain ⟨W,⟨m0,w0⟩,turn⟩ := h
 refine wpAny_While (codeAny_whileLoop (fun n s' => ∃ σ' H',Inv X pins σ' H' s' /\ W n σ' H') ?_ m0 ⟨σ,H,I,w0⟩)
 rintro n s1 ⟨σ1,H1,I1,w1⟩
 refine wpAny_passesOwn hp (thn (hc pins s1 σ1 H1 _ I1 (turn n σ1 H1 w1)) fun b s2 ⟨H2,I2,q2⟩ => ?_)
 cases b with
 | true =>
  obtain ⟨N,hN,q2⟩ := q2
  rw [if_pos rfl]
  refine wpAny_passesOwn hp (thn (hb pins s2 σ1 H2 _ I2 q2) fun f s3 q3 => ?_)
  cases f with
  | next =>
   obtain ⟨σ3,H3,I3,n3⟩ := q3
   obtain ⟨m',hm,w3⟩ := hN σ3 H3 n3
   exact ⟨m',hm,σ3,H3,I3,w3⟩
  | cont =>
   obtain ⟨σ3,H3,I3,n3⟩ := q3
   obtain ⟨m',hm,w3⟩ := hN σ3 H3 n3
   exact ⟨m',hm,σ3,H3,I3,w3⟩
  | brk => exact q3
  | ret v => exact q3
 | false =>
  rw [if_neg Bool.false_ne_true]
  exact wpAny_execs_nil ⟨σ1,H2,I2,q2⟩
end
structure It where
 go : Nat -> Hp -> Prop
 yld : Nat -> Hp -> V -> Hp -> Prop
 stop : Nat -> Hp -> Prop
def zd7 (X : Cx) (pins : List (Addr × Obj)) (H : Hp) (b : Addr) : Prop :=
 H b = none /\ b ≠ X.env.locals /\ b ∉ X.fs /\ (b ∈ X.ex ∨ X.s₀.heap.objs.size <= b) /\ (∀ x c,X.env.cells.lookup x = some c -> c ≠ b) /\ ∀ p ∈ X.pn ++ pins,p.1 ≠ b
theorem Inv.fpOk {X : Cx} {pins : List (Addr × Obj)} {σ : St} {H H' : Hp} {s : Shared} {b : Addr} (I : Inv X pins σ H s) (hb : s.heap.objs.size <= b) (hn : H' b = none) : zd7 X pins H' b := by
 refine ⟨hn,Nat.ne_of_gt (Nat.lt_of_lt_of_le I.lt hb),I.nofs hb,.inr (Nat.le_trans I.sz hb),fun x c e z => ?_,fun p hp z => ?_⟩
 ·obtain ⟨v,q⟩ := I.cell x c e
  exact absurd (Nat.lt_of_lt_of_le q.lt (by rw [z]; exact hb)) (Nat.lt_irrefl _)
 ·exact absurd (Nat.lt_of_lt_of_le (Heap.lt_size (I.pin p hp).1) (by rw [z]; exact hb)) (Nat.lt_irrefl _)
structure Turn (P : Program) (w : World) (K : PySem.W.Frag) (tg : Expr) (J : It) (fp : List Addr) (it : Addr) (tn : Nat -> Heap -> Prop) : Prop where
 mem : it ∈ fp
 obj : ∀ i h,tn i h -> ∀ b ∈ fp,∃ o,h.get? b = some o /\ ∀ v,o.data ≠ .cell v
 keep : ∀ i h h',tn i h -> (∀ b ∈ fp,∀ o,h.get? b = some o -> h'.get? b = some o) -> tn i h'
 item : ∀ (X : Cx),X.prog = P -> X.w = w -> X.K = K -> X.calm = true -> ∀ (i : Nat) (pins : List (Addr × Obj)) (s : Shared) (σ : St) (H : Hp) (E : Value -> Shared -> Prop),Inv X pins σ H s -> (∀ b ∈ fp,zd7 X pins H b) -> tn i s.heap -> J.go i H →
  wpAny (model P w) X.A (pyNext (.ref it)) (fun r s1 => ∃ u,r = some u ∧
   wpAny (model P w) X.A (letOwnedTupleGo tg (.ref it) u) (fun _ s2 => ∃ x H',Inv X pins σ H' s2 /\ RelV x u /\ J.yld i H x H' /\ tn (i + 1) s2.heap /\ ∀ b ∈ fp,H' b = none) E s1) E s
 done : ∀ (X : Cx),X.prog = P -> X.w = w -> X.K = K -> X.calm = true -> ∀ (i : Nat) (pins : List (Addr × Obj)) (s : Shared) (σ : St) (H : Hp) (E : Value -> Shared -> Prop),Inv X pins σ H s -> (∀ b ∈ fp,zd7 X pins H b) -> tn i s.heap -> J.stop i H →
  wpAny (model P w) X.A (pyNext (.ref it)) (fun r s1 => r = none /\ Inv X pins σ H s1) E s
 self : ∀ (A : Around) (i : Nat) (s : Shared) (Q : Value -> Shared -> Prop) (E : Value -> Shared -> Prop),tn i s.heap -> Q (.ref it) s -> wpAny (model P w) A (pyIter (.ref it)) Q E s
abbrev TI := St -> Hp -> (It -> Hp -> Prop) -> Prop
def PIE (X : Cx) (pins : List (Addr × Obj)) (σ : St) (tg : Expr) (R : It -> Hp -> Prop) (itv : Value) (s2 : Shared) : Prop :=
 ∃ (it : Addr) (fp : List Addr) (tn : Nat -> Heap -> Prop) (J : It) (H' : Hp),itv = .ref it /\ Inv X pins σ H' s2 /\ Turn X.prog X.w X.K tg J fp it tn /\ tn 0 s2.heap /\ (∀ b ∈ fp,zd7 X pins H' b) /\ R J H'
def PI (X : Cx) (tg iter : Expr) (wi : TI) : Prop :=
 ∀ (pins : List (Addr × Obj)) (s : Shared) (σ : St) (H : Hp) (R : It -> Hp -> Prop),Inv X pins σ H s -> wi σ H R →
  wpAny (model X.prog X.w) X.A (eval iter X.env) (fun v s1 => wpAny (model X.prog X.w) X.A (pyIter v) (PIE X pins σ tg R) X.xe s1) X.xe s
theorem znj {M : Model} {A : Around} {E : Value -> Shared -> Prop} {s : Shared} {tg : Expr} {it : Addr} {u : Value} {o : Obj} {n : String} {vs : Array Value} {Q : Unit -> Shared -> Prop} (ho : s.heap.get? it = some o) (hc : o.cls = .type n) (hd : o.data = .fields vs)
    (hn : ["enumerate", "zip", "dict_itemiterator", "dict_reverseitemiterator", "odict_iterator", "itertools.zip_longest", "itertools.pairwise"].contains n = false) (hQ : Q () s) : wpAny M A (letOwnedTupleGo tg (.ref it) u) Q E s := by
  unfold letOwnedTupleGo
  cases tg <;> first
    | exact wpAny_pure hQ
    | (cases u <;> first
        | exact wpAny_pure hQ
        | (refine wpAny_bind (wpAny_load ho ?_)
           rw [hc,hd]
           show wpAny M A (if (["enumerate", "zip", "dict_itemiterator", "dict_reverseitemiterator", "odict_iterator", "itertools.zip_longest", "itertools.pairwise"].contains n && vs[0]? == some (rawInt _)) = true then _ else _) Q E s
           rw [if_neg (by intro h; rw [hn,Bool.false_and] at h; cases h)]
           exact wpAny_pure hQ))
def Itl (K : PySem.W.Frag) (a : Addr) : It :=
 ⟨fun i H => ∃ xs x,SqL K H a xs /\ xs[i]? = some x,fun i H x H' => H' = H /\ ∀ xs,SqL K H a xs -> xs[i]? = some x,fun i H => ∃ xs,SqL K H a xs /\ xs.length <= i⟩
def Itt (K : PySem.W.Frag) (a : Addr) : It :=
 ⟨fun i H => ∃ xs x,SqT K H a xs /\ xs[i]? = some x,fun i H x H' => H' = H /\ ∀ xs,SqT K H a xs -> xs[i]? = some x,fun i H => ∃ xs,SqT K H a xs /\ xs.length <= i⟩
def Itr (lo : Int) (n : Nat) : It := ⟨fun i _ => i < n,fun i H x H' => H' = H /\ x = .int (lo + i),fun i _ => n <= i⟩
theorem zlC {P : Program} {w : World} {K : PySem.W.Frag} {tg : Expr} (a it : Addr) : Turn P w K tg (Itl K a) [it] it (fun i h => h.IsListIter it a i) where
 mem := by simp
 obj := fun i h st b hb => by
  have e : b = it := by simpa using hb
  subst e
  obtain ⟨o,e,c,d⟩ := st
  exact ⟨o,e,fun v z => by rw [d] at z; cases z⟩
 keep := fun i h h' st k => st.at fun o e => k it (by simp) o e
 item := by
  intro X hP hw hK hc i pins s σ H E I hf st hg
  subst hP hw hK
  obtain ⟨xs,x,hq,hx⟩ := hg
  obtain ⟨its,rv,p,hz⟩ := I.list hq
  obtain ⟨u,hu,ru⟩ := rv.get hx
  obtain ⟨f0,f1,f2,f3,f4,f5⟩ := hf it (by simp)
  refine wpAny_pyNext_list_item st p.isList (x := u) (by simpa using hu) fun h' st' sb => ?_
  have I1 : Inv X pins σ H { s with heap := h' } := I.turned (t' := s.toks) (fun b o hb e => (sb.2 b hb).trans e) f0 f1 f3 f4 f5
  obtain ⟨o,e,c,d⟩ := id st'
  exact ⟨u,rfl,znj (s := { s with heap := h' }) e c d (by decide) ⟨x,H,I1,ru,⟨rfl,fun ys hy => by rw [I.list_inj hy hq]; exact hx⟩,st',fun b hb => (hf b hb).1⟩⟩
 done := by
  intro X hP hw hK hc i pins s σ H E I hf st hg
  subst hP hw hK
  obtain ⟨xs,hq,hx⟩ := hg
  obtain ⟨its,rv,p,hz⟩ := I.list hq
  obtain ⟨f0,f1,f2,f3,f4,f5⟩ := hf it (by simp)
  have hl := rv.length
  exact wpAny_pyNext_list_end (I.ok.hd hc) st p.isList (by simp; omega) fun h' eb => ⟨rfl,I.turned (t' := s.toks) (fun b o hb e => eb b o hb e) f0 f1 f3 f4 f5⟩
 self := fun _ _ _ _ _ st h => wpAny_pyIter_listiter st h
theorem zkE {P : Program} {w : World} {K : PySem.W.Frag} {tg : Expr} (a it : Addr) : Turn P w K tg (Itt K a) [it] it (fun i h => h.IsTupleIter it a i) where
 mem := by simp
 obj := fun i h st b hb => by
  have e : b = it := by simpa using hb
  subst e
  obtain ⟨o,e,c,d⟩ := st
  exact ⟨o,e,fun v z => by rw [d] at z; cases z⟩
 keep := fun i h h' st k => st.at fun o e => k it (by simp) o e
 item := by
  intro X hP hw hK hc i pins s σ H E I hf st hg
  subst hP hw hK
  obtain ⟨xs,x,hq,hx⟩ := hg
  obtain ⟨its,rv,p,hz⟩ := I.tuple hq
  obtain ⟨u,hu,ru⟩ := rv.get hx
  obtain ⟨f0,f1,f2,f3,f4,f5⟩ := hf it (by simp)
  refine wpAny_pyNext_tuple_item st (show s.heap.IsTuple a its.toArray from p) (x := u) (by simpa using hu) fun h' st' sb => ?_
  have I1 : Inv X pins σ H { s with heap := h' } := I.turned (t' := s.toks) (fun b o hb e => (sb.2 b hb).trans e) f0 f1 f3 f4 f5
  obtain ⟨o,e,c,d⟩ := id st'
  exact ⟨u,rfl,znj (s := { s with heap := h' }) e c d (by decide) ⟨x,H,I1,ru,⟨rfl,fun ys hy => by rw [I.tuple_inj hy hq]; exact hx⟩,st',fun b hb => (hf b hb).1⟩⟩
 done := by
  intro X hP hw hK hc i pins s σ H E I hf st hg
  subst hP hw hK
  obtain ⟨xs,hq,hx⟩ := hg
  obtain ⟨its,rv,p,hz⟩ := I.tuple hq
  obtain ⟨f0,f1,f2,f3,f4,f5⟩ := hf it (by simp)
  have hl := rv.length
  exact wpAny_pyNext_tuple_end (I.ok.hd hc) st (show s.heap.IsTuple a its.toArray from p) (by simp; omega) fun h' eb => ⟨rfl,I.turned (t' := s.toks) (fun b o hb e => eb b o hb e) f0 f1 f3 f4 f5⟩
 self := fun _ _ _ _ _ st h => wpAny_pyIter_tupleiter st h
theorem zkF {P : Program} {w : World} {K : PySem.W.Frag} {tg : Expr} (it : Addr) (lo : Int) (n : Nat) : Turn P w K tg (Itr lo n) [it] it (fun i h => IsRangeIter h it (lo + (i : Nat) * 1) ((n : Int) - (i : Nat)) 1) where
 mem := by simp
 obj := fun i h st b hb => by
  have e : b = it := by simpa using hb
  subst e
  exact ⟨_,st,fun v z => by
   have z' : Data.fields _ = Data.cell v := z
   cases z'⟩
 keep := fun i h h' st k => k it (by simp) _ st
 item := by
  intro X hP hw hK hc i pins s σ H E I hf st hg
  subst hP hw hK
  obtain ⟨f0,f1,f2,f3,f4,f5⟩ := hf it (by simp)
  have W := Walks.range (prog := X.prog) (w := X.w) (I.ok.hd hc) it lo 1 n
  refine W.item i s _ _ hg st fun v h' tk hv st' kk => ?_
  obtain ⟨t,rfl⟩ := hv
  have I1 : Inv X pins σ H { s with heap := h',toks := tk } := I.turned (fun b o hb e => kk b o (by simpa using hb) e) f0 f1 f3 f4 f5
  refine ⟨_,rfl,znj (s := { s with heap := h',toks := tk }) (n := "range_iterator") st' rfl rfl (by decide) ⟨.int (lo + i),H,I1,⟨t,?_⟩,⟨rfl,rfl⟩,st',fun b hb => (hf b hb).1⟩⟩
  rw [Int.mul_one]
 done := by
  intro X hP hw hK hc i pins s σ H E I hf st hg
  subst hP hw hK
  obtain ⟨f0,f1,f2,f3,f4,f5⟩ := hf it (by simp)
  exact wpAny_pyNext_range_end (I.ok.hd hc) st (by have : n <= i := hg; omega) fun h' eb => ⟨rfl,I.turned (t' := s.toks) (fun b o hb e => eb b o hb e) f0 f1 f3 f4 f5⟩
 self := fun _ _ _ _ _ st h => wpAny_pyIter_rangeiter st h
section
variable {X : Cx} {tg : Expr}
def iList (K : PySem.W.Frag) (tl : TE) : TI := fun σ H R => tl σ H fun x H1 => ∃ a,x = .ref a /\ (∃ xs,SqL K H1 a xs) /\ R (Itl K a) H1
def iTup (K : PySem.W.Frag) (tl : TE) : TI := fun σ H R => tl σ H fun x H1 => ∃ a,x = .ref a /\ (∃ xs,SqT K H1 a xs) /\ R (Itt K a) H1
theorem zqr {l : Expr} {tl : TE} (hl : PE X l tl) : PI X tg l (iList X.K tl) := by
 intro pins s σ H R I h
 refine thn (hl pins s σ H _ I h) fun v s1 ⟨x,H1,I1,r1,q1⟩ => ?_
 obtain ⟨a,e,⟨xs,hq⟩,q⟩ := q1
 subst e
 cases r1
 obtain ⟨its,rv,p,hz⟩ := I1.list hq
 refine wpAny_pyIter_list p.isList ?_
 refine ⟨s1.heap.objs.size,[s1.heap.objs.size],_,_,H1,rfl,I1.kept (t' := s1.toks) fun b o e => Heap.get?_push_of_some _ e,zlC a _,⟨_,Heap.get?_push_size _ rfl,rfl,rfl⟩,fun b hb => ?_,q⟩
 have e : b = s1.heap.objs.size := by simpa using hb
 subst e
 exact I1.fpOk (Nat.le_refl _) (I1.hok.fresh (Nat.le_refl _))
theorem pi_tup {l : Expr} {tl : TE} (hl : PE X l tl) : PI X tg l (iTup X.K tl) := by
 intro pins s σ H R I h
 refine thn (hl pins s σ H _ I h) fun v s1 ⟨x,H1,I1,r1,q1⟩ => ?_
 obtain ⟨a,e,⟨xs,hq⟩,q⟩ := q1
 subst e
 cases r1
 obtain ⟨its,rv,p,hz⟩ := I1.tuple hq
 refine wpAny_pyIter_tuple (show s1.heap.IsTuple a its.toArray from p) ?_
 refine ⟨s1.heap.objs.size,[s1.heap.objs.size],_,_,H1,rfl,I1.kept (t' := s1.toks) fun b o e => Heap.get?_push_of_some _ e,zkE a _,⟨_,Heap.get?_push_size _ rfl,rfl,rfl⟩,fun b hb => ?_,q⟩
 have e : b = s1.heap.objs.size := by simpa using hb
 subst e
 exact I1.fpOk (Nat.le_refl _) (I1.hok.fresh (Nat.le_refl _))
theorem zoc {pins : List (Addr × Obj)} {σ : St} {H : Hp} {s : Shared} {R : It -> Hp -> Prop} {E : Value -> Shared -> Prop} {lo hi : Int} {t u v : Tok} {tk : Nat} (I : Inv X pins σ H s) (h1 : -(2 ^ 62) <= lo) (h2 : lo < 2 ^ 62) (h3 : -(2 ^ 62) <= hi) (h4 : hi < 2 ^ 62)
  (q : R (Itr lo (hi - lo).toNat) H) : wpAny (model X.prog X.w) X.A (pyIter (.ref s.heap.objs.size)) (PIE X pins σ tg R) E { s with heap := s.heap.push { cls := .type "range", data := .fields #[.int lo t,.int hi u,.int 1 v] },toks := tk } := by
 refine wpAny_pyIter_range (IsRange.new ..) (small_one h1 h2 h3 h4) ?_
 have I1 : Inv X pins σ H { s with heap := s.heap.push { cls := .type "range", data := .fields #[.int lo t,.int hi u,.int 1 v] },toks := tk } := I.kept fun b o e => Heap.get?_push_of_some _ e
 refine ⟨(s.heap.push { cls := .type "range", data := .fields #[.int lo t,.int hi u,.int 1 v] }).objs.size,[(s.heap.push { cls := .type "range", data := .fields #[.int lo t,.int hi u,.int 1 v] }).objs.size],_,_,H,rfl,
  I1.kept (t' := tk) fun b o e => Heap.get?_push_of_some _ e,zkF _ lo (hi - lo).toNat,?_,fun b hb => ?_,q⟩
 ·have e1 : lo + ((0 : Nat) : Int) * 1 = lo := by simp
  have e2 : (((hi - lo).toNat : Nat) : Int) - ((0 : Nat) : Int) = Builtin.Range.rangeSize lo hi 1 := by rw [rangeSize_one]; split <;> omega
  show IsRangeIter _ _ (lo + ((0 : Nat) : Int) * 1) ((((hi - lo).toNat : Nat) : Int) - ((0 : Nat) : Int)) 1
  rw [e1,e2]
  exact Heap.get?_push_size _ rfl
 ·have e : b = (s.heap.push { cls := .type "range", data := .fields #[.int lo t,.int hi u,.int 1 v] }).objs.size := by simpa using hb
  subst e
  exact I1.fpOk (Nat.le_refl _) (I1.hok.fresh (Nat.le_refl _))
def iRng1 (ta : TA) : TI := fun σ H R => ta σ H fun vs H1 => ∃ j : Int,vs = [.int j] /\ -(2 ^ 62) <= j /\ j < 2 ^ 62 /\ R (Itr 0 j.toNat) H1
theorem zmc {a : Expr} {ta : TA} {p pos : Pos} (hg : Gl X "range") (hm : X.mg "range" = none) (ha : PA X [a] ta) (hs : autoParam (starEach [a] X.env = [(false,eval a X.env)]) AutoP.a3._auto_1) : PI X tg (.Call (.Name "range" p) [a] [] pos) (iRng1 ta) := by
 intro pins s σ H R I h
 refine Call_ (zdT I hg hm boot_range (PyProof.Rows.callWith_type1 (thn (ha pos pins s σ H _ I h) fun us s1 ⟨vs,H1,I1,r1,q1⟩ => ?_) hs rfl))
 obtain ⟨j,e,q1,q2,q⟩ := q1
 subst e
 cases r1 with
 | cons r rr =>
  cases rr
  obtain ⟨t,rfl⟩ := r
  exact call_range_1 (zoc I1 (by omega) (by omega) q1 q2 (by simpa using q))
def tFor (wi : TI) (g : TG) (tb : TS) : TS := fun D σ H => wi σ H fun J H1 => ∃ W : Nat -> Nat -> St -> Hp -> Prop,(∃ m,W 0 m σ H1) /\ ∀ i m σ H,W i m σ H →
 (J.stop i H /\ D.nx σ H) ∨ (J.go i H /\ ∃ N : St -> Hp -> Prop,(∀ σ' H',N σ' H' -> ∃ m',m' < m /\ W (i + 1) m' σ' H') /\ ∀ x H',J.yld i H x H' -> g x σ H' fun σ2 H2 => tb { D with nx := N,ct := N,bk := D.nx } σ2 H2)
def zbO (fp : List Addr) (h : Heap) : List (Addr × Obj) := fp.filterMap fun b => (h.get? b).map fun o => (b,o)
theorem zbM {fp : List Addr} {h : Heap} {b : Addr} {o : Obj} (hb : b ∈ fp) (e : h.get? b = some o) : (b,o) ∈ zbO fp h := List.mem_filterMap.mpr ⟨b,hb,by rw [e]; rfl⟩
theorem zfu {fp : List Addr} {h : Heap} {p : Addr × Obj} (hp : p ∈ zbO fp h) : p.1 ∈ fp /\ h.get? p.1 = some p.2 := by
 obtain ⟨b,hb,e⟩ := List.mem_filterMap.mp hp
 cases q : h.get? b with
 | none => rw [q] at e; cases e
 | some o =>
  rw [q] at e
  have e' : (b,o) = p := Option.some.inj e
  subst e'
  exact ⟨hb,q⟩
theorem Inv.pinned {pins : List (Addr × Obj)} {σ : St} {H : Hp} {s : Shared} {fp : List Addr} (I : Inv X pins σ H s) (hf : ∀ b ∈ fp,zd7 X pins H b) (ho : ∀ b ∈ fp,∃ o,s.heap.get? b = some o /\ ∀ v,o.data ≠ .cell v) : Inv X (pins ++ zbO fp s.heap) σ H s :=
 I.pins_of fun p hp => (List.mem_append.mp hp).elim (fun z => I.pin p (List.mem_append_right _ z)) fun z => by
  obtain ⟨hb,e⟩ := zfu z
  obtain ⟨f0,f1,f2,_⟩ := hf p.1 hb
  obtain ⟨o,e',d⟩ := ho p.1 hb
  rw [e] at e'; cases e'
  exact ⟨e,f0,f1,f2,d⟩
theorem Inv.unpinned {pins pl : List (Addr × Obj)} {σ : St} {H : Hp} {s : Shared} (I : Inv X (pins ++ pl) σ H s) : Inv X pins σ H s := I.pins_of fun p hp => I.pin p (List.mem_append_right _ (List.mem_append_left _ hp))
theorem ps_for {iter : Expr} {body : List Stmt} {wi : TI} {g : TG} {tb : TS} {pos : Pos} (hp : PassesOwn (model X.prog X.w) X.A X.env X.xe) (hc : X.calm = true) (hi : PI X tg iter wi) (hg : PG X tg g) (hb : PSs X body tb)
  (hs : autoParam (∀ x,foldedSetIterable iter X.env x = pure x) AutoP.a2._auto_1) : PS X (.For tg iter body [] pos) (tFor wi g tb) := by
 intro pins s σ H D I h
 refine wpAny_For (thn (hi pins s σ H _ I h) fun v s1 h1 => thn h1 fun itv s2 h2 => ?_) hs
 obtain ⟨it,fp,tn,J,H2,e,I2,T,st2,f2,W,⟨m0,w0⟩,turn⟩ := h2
 subst e
 have stat : ∀ {H' : Hp},(∀ b ∈ fp,H' b = none) -> ∀ b ∈ fp,zd7 X pins H' b := fun hn b hb => ⟨hn b hb,(f2 b hb).2⟩
 refine codeAny_forLoop_any (fun n s' => ∃ i σ' H',Inv X pins σ' H' s' /\ tn i s'.heap /\ (∀ b ∈ fp,H' b = none) /\ W i n σ' H') ?_ m0 ⟨0,σ,H2,I2,st2,fun b hb => (f2 b hb).1,w0⟩
 rintro n s3 ⟨i,σ3,H3,I3,st3,fr3,w3⟩
 rcases turn i n σ3 H3 w3 with ⟨stop,qn⟩ | ⟨go,N,hN,step⟩
 ·refine wpAny_passesOwn hp (thn (T.done X rfl rfl rfl hc i pins s3 σ3 H3 X.xe I3 (stat fr3) st3 stop) fun r s4 ⟨hr,I4⟩ => ?_)
  subst hr
  exact wpAny_execs_nil ⟨σ3,H3,I4,qn⟩
 ·refine wpAny_passesOwn hp (thn (T.item X rfl rfl rfl hc i pins s3 σ3 H3 X.xe I3 (stat fr3) st3 go) fun r s4 ⟨u,hr,h4⟩ => ?_)
  subst hr
  refine wpAny_passesOwn hp (thn h4 fun _ s5 ⟨x,H5,I5,r5,y5,st5,fr5⟩ => ?_)
  have I5' := I5.pinned (stat fr5) (T.obj _ _ st5)
  refine wpAny_passesOwn hp (thn (hg _ s5 σ3 H5 x u _ I5' r5 (step x H5 y5)) fun _ s6 ⟨σ6,H6,I6,q6⟩ => ?_)
  refine wpAny_passesOwn hp (thn (hb _ s6 σ6 H6 _ I6 q6) fun f s7 q7 => ?_)
  have again : ∀ {σ7 : St} {H7 : Hp},Inv X (pins ++ zbO fp s5.heap) σ7 H7 s7 -> N σ7 H7 -> ∃ m,m < n /\ ∃ i σ' H',Inv X pins σ' H' s7 /\ tn i s7.heap /\ (∀ b ∈ fp,H' b = none) /\ W i m σ' H' := fun {σ7 H7} I7 n7 => by
   obtain ⟨m',hm,w7⟩ := hN σ7 H7 n7
   refine ⟨m',hm,i + 1,σ7,H7,I7.unpinned,T.keep _ _ _ st5 fun b hb o e => (I7.pin (b,o) (List.mem_append_right _ (List.mem_append_right _ (zbM hb e)))).1,fun b hb => ?_,w7⟩
   obtain ⟨o,e,d⟩ := T.obj _ _ st5 b hb
   exact (I7.pin (b,o) (List.mem_append_right _ (List.mem_append_right _ (zbM hb e)))).2.1
  cases f with
  | next => obtain ⟨σ7,H7,I7,n7⟩ := q7; exact again I7 n7
  | cont => obtain ⟨σ7,H7,I7,n7⟩ := q7; exact again I7 n7
  | brk => obtain ⟨σ7,H7,I7,q7⟩ := q7; exact ⟨σ7,H7,I7.unpinned,q7⟩
  | ret v => obtain ⟨x7,σ7,H7,I7,r7,q7⟩ := q7; exact ⟨x7,σ7,H7,I7.unpinned,r7,q7⟩
end
abbrev R2 := V -> V -> Hp -> VK -> Prop
def OpR (X : Cx) (f : Value -> Value -> Sem Value) (r : R2) : Prop :=
 ∀ (pins : List (Addr × Obj)) (s : Shared) (σ : St) (H : Hp) (x y : V) (v u : Value) (Q : VK),Inv X pins σ H s -> RelV x v -> RelV y u -> r x y H Q →
  wpAny (model X.prog X.w) X.A (f v u) (EP X pins σ Q) X.xe s
def UnR (X : Cx) (f : Value -> Sem Value) (r : V -> Hp -> VK -> Prop) : Prop :=
 ∀ (pins : List (Addr × Obj)) (s : Shared) (σ : St) (H : Hp) (x : V) (v : Value) (Q : VK),Inv X pins σ H s -> RelV x v -> r x H Q →
  wpAny (model X.prog X.w) X.A (f v) (EP X pins σ Q) X.xe s
def CallR (X : Cx) (f : Value) (r : List V -> Hp -> VK -> Prop) : Prop :=
 ∀ (pins : List (Addr × Obj)) (s : Shared) (σ : St) (H : Hp) (xs : List V) (us : List Value) (Q : VK),Inv X pins σ H s -> Vals xs us -> r xs H Q →
  wpAny (model X.prog X.w) X.A (call f us) (EP X pins σ Q) X.xe s
def tOp (r : R2) (ta tb : TE) : TE := fun σ H Q => ta σ H fun x H1 => tb σ H1 fun y H2 => r x y H2 Q
def tUn (r : V -> Hp -> VK -> Prop) (ta : TE) : TE := fun σ H Q => ta σ H fun x H1 => r x H1 Q
def rI (C : Int -> Int -> Prop) (g : Int -> Int -> V) : R2 := fun x y H Q => ∃ i j,x = .int i /\ y = .int j /\ C i j /\ Q (g i j) H
def rI0 (g : Int -> Int -> V) : R2 := fun x y H Q => ∃ i j,x = .int i /\ y = .int j /\ Q (g i j) H
def rU (g : Int -> V) : V -> Hp -> VK -> Prop := fun x H Q => ∃ i,x = .int i /\ Q (g i) H
section
variable {X : Cx} {a b c : Expr} {ta tb tc : TE} {pos : Pos}
theorem binT (ha : PE X a ta) (hb : PE X b tb) {pins : List (Addr × Obj)} {s : Shared} {σ : St} {H : Hp} {R : V -> V -> Hp -> Prop} (I : Inv X pins σ H s)
  (h : ta σ H fun x H1 => tb σ H1 fun y H2 => R x y H2) {Q : Value -> Shared -> Prop} {f : Value -> Value -> Sem Value}
  (hf : ∀ v u s2 x y H2,Inv X pins σ H2 s2 -> RelV x v -> RelV y u -> R x y H2 -> wpAny (model X.prog X.w) X.A (f v u) Q X.xe s2) :
  wpAny (model X.prog X.w) X.A (eval a X.env) (fun v s₁ => wpAny (model X.prog X.w) X.A (eval b X.env) (fun u s₂ => wpAny (model X.prog X.w) X.A (f v u) Q X.xe s₂) X.xe s₁) X.xe s := by
 refine thn (ha pins s σ H _ I h) fun v s1 ⟨x,H1,I1,r1,q1⟩ => ?_
 refine thn (hb pins s1 σ H1 _ I1 q1) fun u s2 ⟨y,H2,I2,r2,q2⟩ => ?_
 exact hf v u s2 x y H2 I2 r1 r2 q2
theorem pe_op {op : Operator} {r : R2} (ho : OpR X (binaryOp op) r) (ha : PE X a ta) (hb : PE X b tb) : PE X (.BinOp a op b pos) (tOp r ta tb) := by
 intro pins s σ H Q I h
 exact wpAny_BinOp (binT ha hb I h fun v u s2 x y H2 I2 rx ry q => ho pins s2 σ H2 x y v u Q I2 rx ry q)
theorem pe_un {op : UnaryOp} {r : V -> Hp -> VK -> Prop} (ho : UnR X (unaryOp op) r) (ha : PE X a ta) : PE X (.UnaryOp op a pos) (tUn r ta) := by
 intro pins s σ H Q I h
 exact UnaryOp_ (thn (ha pins s σ H _ I h) fun v s1 ⟨x,H1,I1,r1,q1⟩ => ho pins s1 σ H1 x v Q I1 r1 q1)
theorem opI {f : Value -> Value -> Sem Value} {C : Int -> Int -> Prop} {g : Int -> Int -> Int}
  (rule : ∀ (i j : Int) (t u : Tok) (s : Shared) (Q : Value -> Shared -> Prop) (E : Value -> Shared -> Prop),C i j -> Q (.int (g i j) s.toks) { s with toks := s.toks + 1 } -> wpAny (model X.prog X.w) X.A (f (.int i t) (.int j u)) Q E s) :
  OpR X f (rI C fun i j => .int (g i j)) := by
 intro pins s σ H x y v u Q I rx ry h
 obtain ⟨i,j,rfl,rfl,hc,q⟩ := h
 obtain ⟨t,rfl⟩ := rx
 obtain ⟨t',rfl⟩ := ry
 exact rule i j t t' s _ _ hc ⟨.int (g i j),H,I.tok _,⟨_,rfl⟩,q⟩
theorem opI0 {f : Value -> Value -> Sem Value} {g : Int -> Int -> Int}
  (rule : ∀ (i j : Int) (t u : Tok) (s : Shared) (Q : Value -> Shared -> Prop) (E : Value -> Shared -> Prop),Q (.int (g i j) s.toks) { s with toks := s.toks + 1 } -> wpAny (model X.prog X.w) X.A (f (.int i t) (.int j u)) Q E s) :
  OpR X f (rI0 fun i j => .int (g i j)) := by
 intro pins s σ H x y v u Q I rx ry h
 obtain ⟨i,j,rfl,rfl,q⟩ := h
 obtain ⟨t,rfl⟩ := rx
 obtain ⟨t',rfl⟩ := ry
 exact rule i j t t' s _ _ ⟨.int (g i j),H,I.tok _,⟨_,rfl⟩,q⟩
theorem opB0 {f : Value -> Value -> Sem Value} {g : Int -> Int -> Bool}
  (rule : ∀ (i j : Int) (t u : Tok) (s : Shared) (Q : Value -> Shared -> Prop) (E : Value -> Shared -> Prop),Q (.bool (g i j)) s -> wpAny (model X.prog X.w) X.A (f (.int i t) (.int j u)) Q E s) :
  OpR X f (rI0 fun i j => .bl (g i j)) := by
 intro pins s σ H x y v u Q I rx ry h
 obtain ⟨i,j,rfl,rfl,q⟩ := h
 obtain ⟨t,rfl⟩ := rx
 obtain ⟨t',rfl⟩ := ry
 exact rule i j t t' s _ _ ⟨.bl (g i j),H,I,rfl,q⟩
def CPow (i j : Int) : Prop := 0 <= j /\ j <= 1000000 /\ i.natAbs < 2 ^ 64
def CMul (i j : Int) : Prop := (-(2 ^ 64) < i /\ i < 2 ^ 64) ∨ (-(2 ^ 64) < j /\ j < 2 ^ 64)
theorem CMul.ok {i j : Int} (h : CMul i j) : IntMulOk i j := by
 rcases h with ⟨h1,h2⟩ | ⟨h1,h2⟩
 ·exact .of_left (intBits_le_64 h1 h2)
 ·exact .of_right (intBits_le_64 h1 h2)
theorem op_add : OpR X (binaryOp .Add) (rI0 fun i j => .int (i + j)) := opI0 fun _ _ _ _ _ _ _ q => add_int q
theorem zbQ : OpR X (binaryOp .Sub) (rI0 fun i j => .int (i - j)) := opI0 fun _ _ _ _ _ _ _ q => sub_int q
theorem op_mul : OpR X (binaryOp .Mult) (rI CMul fun i j => .int (i * j)) := opI fun _ _ _ _ _ _ _ hc q => mul_int q hc.ok
theorem zbd : OpR X (binaryOp .Mod) (rI (fun _ j => 0 < j) fun i j => .int (i % j)) := opI fun i j _ _ _ _ _ hc q => by
 have h1 : (0 : Int) < j := hc
 exact mod_int' (by omega) (by rw [Int.fmod_eq_emod_of_nonneg i (by omega)]; exact q)
theorem zeu : OpR X (binaryOp .Pow) (rI CPow fun i j => .int (i ^ j.toNat)) := opI fun _ _ _ _ _ _ _ hc q => pow_int_small hc.1 hc.2.1 hc.2.2 q
theorem zcK : OpR X (binaryOp .LShift) (rI CPow fun i j => .int (i * 2 ^ j.toNat)) := opI fun _ _ _ _ _ _ _ hc q => lshift_int_small hc.1 hc.2.1 hc.2.2 q
theorem unI {f : Value -> Sem Value} {g : Int -> Int}
  (rule : ∀ (i : Int) (t : Tok) (s : Shared) (Q : Value -> Shared -> Prop) (E : Value -> Shared -> Prop),Q (.int (g i) s.toks) { s with toks := s.toks + 1 } -> wpAny (model X.prog X.w) X.A (f (.int i t)) Q E s) :
  UnR X f (rU fun i => .int (g i)) := by
 intro pins s σ H x v Q I rx h
 obtain ⟨i,rfl,q⟩ := h
 obtain ⟨t,rfl⟩ := rx
 exact rule i t s _ _ ⟨.int (g i),H,I.tok _,⟨_,rfl⟩,q⟩
theorem zo1 : UnR X (unaryOp .USub) (rU fun i => .int (-i)) := unI fun _ _ _ _ _ q => neg_int q
end
def scal : V -> V -> Bool
 | .non,.non => true | .non,.int _ => true | .int _,.non => true | .non,.bl _ => true | .bl _,.non => true | .non,.str _ => true | .str _,.non => true
 | .int _,.int _ => true | .bl _,.bl _ => true | .str _,.str _ => true | .byt _,.byt _ => true
 | .int _,.str _ => true | .str _,.int _ => true | .bl _,.str _ => true | .str _,.bl _ => true
 | _,_ => false
def rEq : R2 := fun x y H Q => scal x y = true /\ Q (.bl (decide (x = y))) H
def rNe : R2 := fun x y H Q => scal x y = true /\ Q (.bl (!decide (x = y))) H
theorem znA {i j : Int} : decide (V.int i = V.int j) = (i == j) := by
 rw [Bool.eq_iff_iff]
 simp
theorem zpw {i j : Bool} : decide (V.bl i = V.bl j) = (i == j) := by
 rw [Bool.eq_iff_iff]
 simp
theorem znz {i j : Str} : decide (V.str i = V.str j) = (i == j) := by
 rw [Bool.eq_iff_iff]
 simp
theorem znB {i j : Array UInt8} : decide (V.byt i = V.byt j) = (i.toList == j.toList) := by
 rw [Bool.eq_iff_iff]
 cases i
 cases j
 simp
section
variable {X : Cx} {a b c : Expr} {ta tb tc : TE} {pos : Pos}
theorem zaI {pins : List (Addr × Obj)} {σ : St} {H : Hp} {s : Shared} {Q : VK} {k k' : Bool} (I : Inv X pins σ H s) (q : Q (.bl k) H) (e : k = k') : EP X pins σ Q (.bool k') s := by
 subst e
 exact ⟨.bl k,H,I,rfl,q⟩
theorem op_eq : OpR X (compareOp .Eq) rEq := by
 intro pins s σ H x y v u Q I rx ry h
 obtain ⟨hs,q⟩ := h
 cases x with
 | non =>
  cases rx
  cases y with
  | non => cases ry; exact PySem.EqNone.eq_none_none (zaI I q (by simp))
  | bl j => cases ry; exact PySem.EqNone.eq_none_bool (zaI I q (by simp))
  | int j => obtain ⟨t',rfl⟩ := ry; exact PySem.EqNone.eq_none_int (zaI I q (by simp))
  | str j => obtain ⟨t',rfl⟩ := ry; exact PySem.EqNone.eq_none_str (zaI I q (by simp))
  | _ => exact absurd (show false = true from hs) Bool.false_ne_true
 | bl i =>
  cases rx
  cases y with
  | non => cases ry; exact PySem.EqNone.eq_bool_none (zaI I q (by simp))
  | bl j => cases ry; exact eq_bool (zaI I q zpw)
  | str j => obtain ⟨t',rfl⟩ := ry; exact PySem.EqMixed.eq_bool_str (zaI I q (by simp))
  | _ => exact absurd (show false = true from hs) Bool.false_ne_true
 | int i =>
  obtain ⟨t,rfl⟩ := rx
  cases y with
  | non => cases ry; exact PySem.EqNone.eq_int_none (zaI I q (by simp))
  | int j => obtain ⟨t',rfl⟩ := ry; exact eq_int (zaI I q znA)
  | str j => obtain ⟨t',rfl⟩ := ry; exact PySem.EqMixed.eq_int_str (zaI I q (by simp))
  | _ => exact absurd (show false = true from hs) Bool.false_ne_true
 | str i =>
  obtain ⟨t,rfl⟩ := rx
  cases y with
  | non => cases ry; exact PySem.EqNone.eq_str_none (zaI I q (by simp))
  | bl j => cases ry; exact PySem.EqMixed.eq_str_bool (zaI I q (by simp))
  | int j => obtain ⟨t',rfl⟩ := ry; exact PySem.EqMixed.eq_str_int (zaI I q (by simp))
  | str j => obtain ⟨t',rfl⟩ := ry; exact eq_str (zaI I q znz)
  | _ => exact absurd (show false = true from hs) Bool.false_ne_true
 | byt i =>
  obtain ⟨t,rfl⟩ := rx
  cases y with
  | byt j => obtain ⟨t',rfl⟩ := ry; exact PySem.W.eq_bytes (zaI I q znB)
  | _ => exact absurd (show false = true from hs) Bool.false_ne_true
 | _ => cases y <;> exact absurd (show false = true from hs) Bool.false_ne_true
theorem op_ne : OpR X (compareOp .NotEq) rNe := by
 intro pins s σ H x y v u Q I rx ry h
 obtain ⟨hs,q⟩ := h
 cases x with
 | non =>
  cases rx
  cases y with
  | non => cases ry; exact PySem.EqNone.ne_none_none (zaI I q (by simp))
  | bl j => cases ry; exact PySem.EqNone.ne_none_bool (zaI I q (by simp))
  | int j => obtain ⟨t',rfl⟩ := ry; exact PySem.EqNone.ne_none_int (zaI I q (by simp))
  | str j => obtain ⟨t',rfl⟩ := ry; exact PySem.EqNone.ne_none_str (zaI I q (by simp))
  | _ => exact absurd (show false = true from hs) Bool.false_ne_true
 | bl i =>
  cases rx
  cases y with
  | non => cases ry; exact PySem.EqNone.ne_bool_none (zaI I q (by simp))
  | bl j => cases ry; exact ne_bool (zaI I q (congrArg not zpw))
  | str j => obtain ⟨t',rfl⟩ := ry; exact PySem.EqMixed.ne_bool_str (zaI I q (by simp))
  | _ => exact absurd (show false = true from hs) Bool.false_ne_true
 | int i =>
  obtain ⟨t,rfl⟩ := rx
  cases y with
  | non => cases ry; exact PySem.EqNone.ne_int_none (zaI I q (by simp))
  | int j => obtain ⟨t',rfl⟩ := ry; exact ne_int (zaI I q (congrArg not znA))
  | str j => obtain ⟨t',rfl⟩ := ry; exact PySem.EqMixed.ne_int_str (zaI I q (by simp))
  | _ => exact absurd (show false = true from hs) Bool.false_ne_true
 | str i =>
  obtain ⟨t,rfl⟩ := rx
  cases y with
  | non => cases ry; exact PySem.EqNone.ne_str_none (zaI I q (by simp))
  | bl j => cases ry; exact PySem.EqMixed.ne_str_bool (zaI I q (by simp))
  | int j => obtain ⟨t',rfl⟩ := ry; exact PySem.EqMixed.ne_str_int (zaI I q (by simp))
  | str j => obtain ⟨t',rfl⟩ := ry; exact ne_str (zaI I q (congrArg not znz))
  | _ => exact absurd (show false = true from hs) Bool.false_ne_true
 | byt i =>
  obtain ⟨t,rfl⟩ := rx
  cases y with
  | byt j => obtain ⟨t',rfl⟩ := ry; exact PySem.W.ne_bytes (zaI I q (congrArg not znB))
  | _ => exact absurd (show false = true from hs) Bool.false_ne_true
 | _ => cases y <;> exact absurd (show false = true from hs) Bool.false_ne_true
theorem op_lt : OpR X (compareOp .Lt) (rI0 fun i j => .bl (decide (i < j))) := opB0 fun _ _ _ _ _ _ _ q => lt_int q
theorem zqF : OpR X (compareOp .Gt) (rI0 fun i j => .bl (decide (j < i))) := opB0 fun _ _ _ _ _ _ _ q => gt_int q
theorem zqG : OpR X (compareOp .GtE) (rI0 fun i j => .bl (decide (j <= i))) := opB0 fun _ _ _ _ _ _ _ q => ge_int q
theorem zmo : OpR X (compareOp .Lt) (fun x y H Q => ∃ i j,x = .str i /\ y = .str j /\ Q (.bl (decide (i.cps.toList < j.cps.toList))) H) := by
 intro pins s σ H x y v u Q I rx ry h
 obtain ⟨i,j,rfl,rfl,q⟩ := h
 obtain ⟨t,rfl⟩ := rx
 obtain ⟨t',rfl⟩ := ry
 exact lt_str (zaI I q rfl)
theorem zmp : OpR X (compareOp .In) (fun x y H Q => ∃ i j,x = .str i /\ y = .str j /\ Q (.bl (!(Builtin.Str.occurrences j i 0 j.length 1).isEmpty)) H) := by
 intro pins s σ H x y v u Q I rx ry h
 obtain ⟨i,j,rfl,rfl,q⟩ := h
 obtain ⟨t,rfl⟩ := rx
 obtain ⟨t',rfl⟩ := ry
 exact in_str (zaI I q rfl)
theorem op_isN : OpR X (compareOp .Is) (fun x y H Q => y = .non /\ Q (.bl (decide (x = .non))) H) := by
 intro pins s σ H x y v u Q I rx ry h
 obtain ⟨rfl,q⟩ := h
 cases ry
 refine is_none_gen (zaI I q ?_)
 cases x <;> first
  | (cases rx; rfl)
  | (obtain ⟨t,rfl⟩ := rx; rfl)
theorem zqD : OpR X (compareOp .IsNot) (fun x y H Q => y = .non /\ Q (.bl (!decide (x = .non))) H) := by
 intro pins s σ H x y v u Q I rx ry h
 obtain ⟨rfl,q⟩ := h
 cases ry
 refine isnot_none_gen (zaI I q ?_)
 cases x <;> first
  | (cases rx; rfl)
  | (obtain ⟨t,rfl⟩ := rx; rfl)
theorem zhU : OpR X (compareOp .NotIn) (fun x y H Q => ∃ i j,x = .str i /\ y = .str j /\ Q (.bl (!(!(Builtin.Str.occurrences j i 0 j.length 1).isEmpty))) H) := by
 intro pins s σ H x y v u Q I rx ry h
 obtain ⟨i,j,rfl,rfl,q⟩ := h
 obtain ⟨t,rfl⟩ := rx
 obtain ⟨t',rfl⟩ := ry
 exact notIn_str (zaI I q rfl)
theorem OpR.or {f : Value -> Value -> Sem Value} {r r' : R2} (h : OpR X f r) (h' : OpR X f r') : OpR X f (fun x y H Q => r x y H Q ∨ r' x y H Q) := by
 intro pins s σ H x y v u Q I rx ry q
 rcases q with q | q
 ·exact h pins s σ H x y v u Q I rx ry q
 ·exact h' pins s σ H x y v u Q I rx ry q
theorem zat (b : Expr) {op : CmpOp} (h : autoParam (op ≠ .In) AutoP.a1._auto_1) (h2 : autoParam (op ≠ .NotIn) AutoP.a1._auto_1) : behindInMarks op b = false := by
 have e1 : (op == CmpOp.In) = false := by cases op <;> first | rfl | exact absurd rfl h
 have e2 : (op == CmpOp.NotIn) = false := by cases op <;> first | rfl | exact absurd rfl h2
 cases b <;> simp [behindInMarks,e1,e2]
theorem zqy {op : CmpOp} {r : R2} (ho : OpR X (compareOp op) r) (ha : PE X a ta) (hb : PE X b tb) (hm : behindInMarks op b = false) : PE X (.Compare a [op] [b] pos) (tOp r ta tb) := by
 intro pins s σ H Q I h
 exact wpAny_Compare1 (binT ha hb I h fun v u s2 x y H2 I2 rx ry q => ho pins s2 σ H2 x y v u Q I2 rx ry q) hm
def tTest (t : TE) : TT := fun σ H Q => t σ H fun x H' => ∃ k,x = .bl k /\ Q k H'
theorem zp7 {op : CmpOp} {r : R2} (ho : OpR X (compareOp op) r) (ha : PE X a ta) (hb : PE X b tb) (hm : behindInMarks op b = false) : PT X (.Compare a [op] [b] pos) (tTest (tOp r ta tb)) := by
 intro pins s σ H Q I h
 refine wpAny_isTrue_Compare1 (thn (ha pins s σ H _ I h) fun v s1 ⟨x,H1,I1,r1,q1⟩ => thn (hb pins s1 σ H1 _ I1 q1) fun u s2 ⟨y,H2,I2,r2,q2⟩ =>
  thn (ho pins s2 σ H2 x y v u _ I2 r1 r2 q2) fun c s3 ⟨z,H3,I3,r3,k,e,q3⟩ => ?_) hm
 subst e
 cases r3
 exact wpAny_truthy_bool ⟨H3,I3,q3⟩
theorem zgq : (sizeLine : Nat) < 2 ^ 63 := by rw [sizeLine_eq]; decide
theorem zkW : OpR X (binaryOp .Add) (fun x y H Q => ∃ i j,x = .str i /\ y = .str j /\ i.length + j.length <= sizeLine /\ Q (.str (i ++ j)) H) := by
 intro pins s σ H x y v u Q I rx ry h
 obtain ⟨i,j,rfl,rfl,hz,q⟩ := h
 obtain ⟨t,rfl⟩ := rx
 obtain ⟨t',rfl⟩ := ry
 exact add_str (fun t' tk => ⟨.str (i ++ j),H,I.tok _,⟨_,rfl⟩,q⟩) hz
theorem zb3 {x : V} {us : List Value} (r : Vals [x] us) : ∃ u,us = [u] /\ RelV x u := by
 cases r with
 | cons r1 r2 => cases r2; exact ⟨_,rfl,r1⟩
theorem zhv {x y : V} {us : List Value} (r : Vals [x,y] us) : ∃ u w',us = [u,w'] /\ RelV x u /\ RelV y w' := by
 cases r with
 | cons r1 r2 =>
  cases r2 with
  | cons r3 r4 => cases r4; exact ⟨_,_,rfl,r1,r3⟩
theorem zkz : CallR X (.builtin "abs") (fun xs H Q => ∃ i,xs = [.int i] /\ Q (.int (if i < 0 then -i else i)) H) := by
 intro pins s σ H xs us Q I r h
 obtain ⟨i,rfl,q⟩ := h
 obtain ⟨u,rfl,t,rfl⟩ := zb3 r
 exact call_abs_int fun u tk => ⟨.int (if i < 0 then -i else i),H,I.tok _,⟨_,rfl⟩,q⟩
theorem ziE (hc : X.calm = true) : CallR X (.builtin "max") (fun xs H Q => ∃ i j,xs = [.int i,.int j] /\ Q (.int (if j > i then j else i)) H) := by
 intro pins s σ H xs us Q I r h
 obtain ⟨i,j,rfl,q⟩ := h
 obtain ⟨u,w',rfl,⟨t,rfl⟩,⟨t',rfl⟩⟩ := zhv r
 refine max_two_ints (I.ok.hd hc) fun h' tk k => ⟨_,H,I.kept k,?_,q⟩
 by_cases hj : j > i
 ·rw [if_pos hj,if_pos hj]; exact ⟨_,rfl⟩
 ·rw [if_neg hj,if_neg hj]; exact ⟨_,rfl⟩
theorem znJ (hc : X.calm = true) : CallR X (.builtin "min") (fun xs H Q => ∃ i j,xs = [.int i,.int j] /\ Q (.int (if j < i then j else i)) H) := by
 intro pins s σ H xs us Q I r h
 obtain ⟨i,j,rfl,q⟩ := h
 obtain ⟨u,w',rfl,⟨t,rfl⟩,⟨t',rfl⟩⟩ := zhv r
 refine min_two_ints (I.ok.hd hc) fun h' tk k => ⟨_,H,I.kept k,?_,q⟩
 by_cases hj : j < i
 ·rw [if_pos hj,if_pos hj]; exact ⟨_,rfl⟩
 ·rw [if_neg hj,if_neg hj]; exact ⟨_,rfl⟩
theorem znN : CallR X (.type "int") (fun xs H Q => (∃ i,xs = [.int i] /\ Q (.int i) H) ∨ ∃ k,xs = [.bl k] /\ Q (.int (if k then 1 else 0)) H) := by
 intro pins s σ H xs us Q I r h
 rcases h with ⟨i,rfl,q⟩ | ⟨k,rfl,q⟩
 ·obtain ⟨u,rfl,t,rfl⟩ := zb3 r
  exact call_int_int ⟨.int i,H,I,⟨_,rfl⟩,q⟩
 ·obtain ⟨u,rfl,r1⟩ := zb3 r
  cases r1
  exact call_int_bool ⟨.int (if k then 1 else 0),H,I.tok _,⟨_,rfl⟩,q⟩
theorem ziC : CallR X (.type "str") (fun xs H Q => ∃ i,xs = [.int i] /\ i.natAbs.log2 < 1920 /\ Q (.str (toString i)) H) := by
 intro pins s σ H xs us Q I r h
 obtain ⟨i,rfl,hz,q⟩ := h
 obtain ⟨u,rfl,t,rfl⟩ := zb3 r
 exact PySem.P.str_of_int hz ⟨.str _,H,I.tok _,⟨_,rfl⟩,q⟩
end
structure ObjM (h : Heap) (x dx C : Addr) (mA : Str -> Option Value) : Prop where
 obj : h.get? x = some (PySem.W.instObj C dx)
 ns : h.Ns1 dx mA
 ne : dx ≠ x
theorem zmS {h : Heap} {dx : Addr} {mA : Str -> Option Value} (n : h.Ns1 dx mA) : ∃ od,h.get? dx = some od /\ ∀ name,PySem.W.lookIn name od = some (mA name) := by
 obtain ⟨o,es,ep,ho,hd,hk,_,hm⟩ := n
 refine ⟨o,ho,fun name => ?_⟩
 have e := hm name
 unfold nsFind findBy at e
 rw [<- Array.find?_toList] at e
 unfold PySem.W.lookIn
 rw [hd]
 dsimp only
 split
 ·rename_i y q
  rw [q] at e
  exact congrArg some e
 ·rename_i q
  rw [q] at e
  have a : es.toList.any (·.refKey) = false := by
   rw [List.any_eq_false]
   intro y hy
   obtain ⟨z,t,hkey⟩ := hk y (Array.mem_toList_iff.mp hy)
   simp [DictEntry.refKey,hkey]
  have a' : ¬ es.toList.any (·.refKey) = true := by rw [a]; exact Bool.false_ne_true
  rw [if_neg a']
  exact congrArg some e
theorem ObjM.look {h : Heap} {x dx C : Addr} {mA : Str -> Option Value} (I : ObjM h x dx C mA) : ∃ od,PySem.W.InstAt h x (PySem.W.instObj C dx) C (some od) /\ ∀ name,PySem.W.lookIn name od = some (mA name) :=
 let ⟨od,ho,hl⟩ := zmS I.ns
 ⟨od,⟨I.obj,rfl,rfl,ho⟩,hl⟩
section
variable {prog : Program} {w : World} {A : Around} {E : Value -> Shared -> Prop} {s : Shared} {K : PySem.W.Frag} {x dx C f : Addr} {mA : Str -> Option Value} {name : Str} {v : Value}
theorem zq9 {expr : Bool} {Q : Value -> Shared -> Prop} (X : K.In s.heap) (I : ObjM s.heap x dx C mA) (hg : PySem.W.plainGet K C name = true) (hh : PySem.W.hasDictIn K C = true)
  (ha : PySem.W.findIn K (.ref C) name = some none) (hv : mA name = some v) (hv' : PySem.W.handedIn v = true) (h : Q v { s with toks := s.toks + 1 }) :
  wpAny (model prog w) A (getAttr (.ref x) name expr) Q E s := by
 obtain ⟨od,J,hl⟩ := I.look
 exact PySem.W.get_value X J (PySem.W.plainGet_of hg).1 (PySem.W.findObj_own hh ha rfl (by rw [hl,hv])) hv' h
theorem zoN {pl : Sem Bool} {Q : Value × List Value -> Shared -> Prop} (X : K.In s.heap) (I : ObjM s.heap x dx C mA) (hg : PySem.W.plainGet K C name = true)
  (hf : PySem.W.findIn K (.ref C) name = some (some (.ref f))) (ht : PySem.W.isFn K (.ref f) = true) (hv : mA name = none) (h : Q (.ref f,[.ref x]) s) :
  wpAny (model prog w) A (getMethod (.ref x) name pl) Q E s := by
 obtain ⟨od,J,hl⟩ := I.look
 exact PySem.W.method_fn X J (PySem.W.plainGet_of hg).1 (PySem.W.plainGet_of hg).2 hf (beq_iff_eq.mp ht) (by show (PySem.W.lookIn name od).map (·.isSome) = some false; rw [hl,hv]; rfl) h
theorem zpQ {ns : List Str} {Q : Unit -> Shared -> Prop} (X : K.In s.heap) (I : ObjM s.heap x dx C mA)
  (hs : PySem.W.findIn K (.ref C) "__setattr__" = some (some (.builtin "object.__setattr__"))) (hp : PySem.W.plainOver K C = true) (ht : PySem.W.takerIn K C name = some none) (hh : PySem.W.hasDictIn K C = true)
  (hw : PySem.Within mA ns) (hsz : ns.length <= sizeLine)
  (h : ∀ h',ObjM h' x dx C (fun y => if y = name then some v else mA y) -> Heap.SameBut dx s.heap h' -> Q () { s with heap := h',toks := s.toks + 2 }) :
  wpAny (model prog w) A (setAttr (.ref x) name v) Q E s := by
 obtain ⟨od,J,hl⟩ := I.look
 refine PySem.W.set_plain X J hs (PySem.W.osa_open (s := { s with toks := s.toks + 1 }) (r := none) X J hp ht fun b => ?_)
 obtain ⟨cd,hc,hd'⟩ := PySem.W.any_some hh
 have hx : s.heap.get? x = some ⟨.ref C,some dx,.plain,#[]⟩ := I.obj
 refine wpAny_bind (wpAny_pure (wpAny_bind (wpAny_bind (wpAny_loadPart hx (wpAny_bind (PySem.W.Looks.here (s := { s with toks := s.toks + 1 }) (PySem.W.looks_clsIn X hc) ?_))))))
 rw [hd']
 refine wpAny_pure (a := some dx) (wpAny_bind (wpAny_pure (wpAny_bind ?_)))
 refine wpAny_nsSet1 (s := { s with toks := s.toks + 1 }) I.ns fun h' hn2 hs2 => ?_
 obtain ⟨oD,esD,epD,hoD,hdD,hcD⟩ := hn2.count (PySem.Within.cons name v hw)
 refine wpAny_bind (wpAny_lookBehind hoD (by rw [hdD]; exact pastItsLine_dict (Nat.le_trans hcD (by rw [List.length_cons]; omega))) ?_)
 exact wpAny_pure (h _ ⟨(hs2.2 _ (Ne.symm I.ne)).trans I.obj,hn2,I.ne⟩ hs2)
theorem zoE {R : Result -> Shared -> Prop} {vs : List Value} {kw : List (Str × Value)} (X : K.In s.heap) (hm : PySem.W.makesIn K C = true)
  (hi : PySem.W.findIn K (.ref C) "__init__" = some (some (.ref f))) (hf : PySem.W.typeIn K (.ref f) = some (.type "function"))
  (h : codeAny (model prog w) (A.under (.builtin "type.__call__" ⟨.ref C :: vs,kw⟩)) (.call (.ref f) ⟨.ref (s.heap.objs.size + 1) :: vs,kw⟩) (PySem.W.InitBack (s.heap.objs.size + 1) R)
   { s with heap := (s.heap.push PySem.W.emptyDict).push (PySem.W.instObj C s.heap.objs.size) }) :
  codeAny (model prog w) A (.call (.ref C) ⟨vs,kw⟩) R s := by
 obtain ⟨hh,g,d,t,os⟩ := s
 exact PySem.W.make_core (PySem.W.makes_of X hm) (PySem.W.looks_findIn X hi) (fun self => PySem.W.bind_fn X self hf) (.inl rfl) h
end
def zf4 (f : Str) (v : V) : List (Str × V) -> List (Str × V)
 | [] => [(f,v)]
 | (g,x) :: r => if g = f then (g,v) :: r else (g,x) :: zf4 f v r
theorem zfB (f g : Str) (v : V) : ∀ fs : List (Str × V),(zf4 f v fs).lookup g = if g = f then some v else fs.lookup g
 | [] => by
  show List.lookup g [(f,v)] = _
  by_cases h : g = f
  ·have hb : (g == f) = true := beq_iff_eq.mpr h
   simp only [List.lookup,hb,if_pos h]
  ·have hb : (g == f) = false := beq_eq_false_iff_ne.mpr h
   simp only [List.lookup,hb,if_neg h]
 | (k,x) :: r => by
  have ih := zfB f g v r
  rw [show zf4 f v ((k,x) :: r) = (if k = f then (k,v) :: r else (k,x) :: zf4 f v r) from rfl]
  by_cases hk : k = f
  ·rw [if_pos hk]
   by_cases h : g = k
   ·have hb : (g == k) = true := beq_iff_eq.mpr h
    simp only [List.lookup,hb,if_pos (h.trans hk)]
   ·have hb : (g == k) = false := beq_eq_false_iff_ne.mpr h
    simp only [List.lookup,hb,if_neg (fun e : g = f => h (e.trans hk.symm))]
  ·rw [if_neg hk]
   by_cases h : g = k
   ·have hb : (g == k) = true := beq_iff_eq.mpr h
    simp only [List.lookup,hb,if_neg (fun e : g = f => hk (h.symm.trans e))]
   ·have hb : (g == k) = false := beq_eq_false_iff_ne.mpr h
    simp only [List.lookup,hb]
    exact ih
theorem zfE (f : Str) (v : V) : ∀ fs : List (Str × V),f ∈ (zf4 f v fs).map (·.1) /\ ∀ g,g ∈ fs.map (·.1) -> g ∈ (zf4 f v fs).map (·.1)
 | [] => ⟨by simp [zf4],fun g h => by simp at h⟩
 | (k,x) :: r => by
  obtain ⟨i1,i2⟩ := zfE f v r
  rw [show zf4 f v ((k,x) :: r) = (if k = f then (k,v) :: r else (k,x) :: zf4 f v r) from rfl]
  by_cases hk : k = f
  ·rw [if_pos hk]
   subst hk
   exact ⟨by simp,fun g h => by simpa using h⟩
  ·rw [if_neg hk]
   refine ⟨?_,fun g h => ?_⟩
   ·rw [List.map_cons]
    exact List.mem_cons_of_mem _ i1
   ·rw [List.map_cons] at h ⊢
    rcases List.mem_cons.mp h with e | e
    ·exact List.mem_cons.mpr (.inl e)
    ·exact List.mem_cons_of_mem _ (i2 g e)
theorem zfC (f : Str) (v : V) : ∀ fs : List (Str × V),(zf4 f v fs).length <= fs.length + 1
 | [] => by simp [zf4]
 | (k,x) :: r => by
  have ih := zfC f v r
  rw [show zf4 f v ((k,x) :: r) = (if k = f then (k,v) :: r else (k,x) :: zf4 f v r) from rfl]
  by_cases hk : k = f
  ·rw [if_pos hk,List.length_cons,List.length_cons]; omega
  ·rw [if_neg hk,List.length_cons,List.length_cons]; omega
theorem RelO.some_of {v : V} {o : Option Value} (r : RelO (some v) o) : ∃ u,o = some u /\ RelV v u := by
 cases o with
 | none => exact (show False from r).elim
 | some u => exact ⟨u,rfl,r⟩
theorem RelO.none_of {o : Option Value} (r : RelO none o) : o = none := by
 cases o with
 | none => rfl
 | some u => exact (show False from r).elim
theorem zni {v : V} {u : Value} (r : RelV v u) : PySem.W.handedIn u = true := by
 cases v with
 | non => cases (show u = Value.none from r); rfl
 | bl b => cases (show u = Value.bool b from r); rfl
 | int i => obtain ⟨t,e⟩ := (show ∃ t,u = Value.int i t from r); cases e; rfl
 | str x => obtain ⟨t,e⟩ := (show ∃ t,u = Value.str x t from r); cases e; rfl
 | byt b => obtain ⟨t,e⟩ := (show ∃ t,u = Value.bytes b t from r); cases e; rfl
 | flt b => obtain ⟨t,e⟩ := (show ∃ t,u = Value.float b t from r); cases e; rfl
 | ref a => cases (show u = Value.ref a from r); rfl
 | ty n => cases (show u = Value.type n from r); rfl
section
variable {P : Program} {w : World} {H H' : Hp} {h h' : Heap} {a C dx : Addr} {fs fs' : List (Str × V)}
theorem zhl (hok : HOk P w H h) (e : H a = some (.ins C dx fs)) : ∃ mA,ObjM h a dx C mA /\ (∀ f,RelO (fs.lookup f) (mA f)) /\ PySem.Within mA (fs.map (·.1)) /\ fs.length <= 1000 /\ H dx = some (.own a) := by
 obtain ⟨d,z,ne,ob,mA,n,r,q⟩ := (show ObjOk P w H h a (.ins C dx fs) from hok a _ e)
 exact ⟨mA,⟨ob,n,ne⟩,r,q,z,d⟩
end
structure Cls (K : PySem.W.Frag) (C : Addr) : Prop where
 pg : PySem.W.plainGet K C Str.empty = true
 hd : PySem.W.hasDictIn K C = true
 po : PySem.W.plainOver K C = true
 sa : PySem.W.findIn K (.ref C) "__setattr__" = some (some (.builtin "object.__setattr__"))
theorem Cls.get {K : PySem.W.Frag} {C : Addr} (c : Cls K C) (f : Str) : PySem.W.plainGet K C f = true := c.pg
def NoAttr (K : PySem.W.Frag) (C : Addr) (f : Str) : Prop := PySem.W.findIn K (.ref C) f = some none
theorem NoAttr.taker {K : PySem.W.Frag} {C : Addr} {f : Str} (n : NoAttr K C f) : PySem.W.takerIn K C f = some none := by
 unfold PySem.W.takerIn
 rw [show PySem.W.findIn K (.ref C) f = some none from n]
 rfl
structure Meth (K : PySem.W.Frag) (C : Addr) (m : Str) (f : Addr) : Prop where
 at_ : PySem.W.findIn K (.ref C) m = some (some (.ref f))
 fn : PySem.W.isFn K (.ref f) = true
 kp : PySem.W.keepIn K (.ref f) = true
section
variable {X : Cx} {pins : List (Addr × Obj)} {σ : St} {H : Hp} {s : Shared} {a C dx : Addr} {fs : List (Str × V)} {f : Str} {v : V} {A : Around} {E : Value -> Shared -> Prop}
theorem zlh {b : Bool} {Q : Value -> Shared -> Prop} (I : Inv X pins σ H s) (e : H a = some (.ins C dx fs)) (c : Cls X.K C) (n : NoAttr X.K C f) (l : fs.lookup f = some v)
  (h : ∀ u s',Inv X pins σ H s' -> RelV v u -> Q u s') : wpAny (model X.prog X.w) A (getAttr (.ref a) f b) Q E s := by
 obtain ⟨mA,O,r,_,_,_⟩ := zhl I.hok e
 obtain ⟨u,hu,ru⟩ := RelO.some_of (v := v) (o := mA f) (by rw [<- l]; exact r f)
 exact zq9 I.kIn O (c.get f) c.hd n hu (zni ru) (h u _ (I.tok _) ru)
theorem zgs {m : Str} {g : Addr} {pl : Sem Bool} {Q : Value × List Value -> Shared -> Prop} (I : Inv X pins σ H s) (e : H a = some (.ins C dx fs)) (c : Cls X.K C) (k : Meth X.K C m g) (l : fs.lookup m = none)
  (h : Q (.ref g,[.ref a]) s) : wpAny (model X.prog X.w) A (getMethod (.ref a) m pl) Q E s := by
 obtain ⟨mA,O,r,_,_,_⟩ := zhl I.hok e
 have hn : mA m = none := RelO.none_of (by rw [<- l]; exact r m)
 exact zoN I.kIn O (c.get m) k.at_ k.fn hn h
theorem zkN {y : V} {u : Value} {Q : Unit -> Shared -> Prop} (I : Inv X pins σ H s) (e : H a = some (.ins C dx fs)) (c : Cls X.K C) (n : NoAttr X.K C f) (hl : fs.length < 1000) (ry : RelV y u)
  (h : ∀ s',Inv X pins σ (upd H a (.ins C dx (zf4 f y fs))) s' -> Q () s') : wpAny (model X.prog X.w) A (setAttr (.ref a) f u) Q E s := by
 obtain ⟨mA,O,r,wi,_,ho⟩ := zhl I.hok e
 have hz : (fs.map (·.1)).length <= sizeLine := by rw [List.length_map,sizeLine_eq]; omega
 refine zpQ I.kIn O c.sa c.po n.taker c.hd wi hz fun h' O' sb => h _ ?_
 have hd : ∃ o,h'.get? dx = some o := let ⟨o,_,_,e',_⟩ := O'.ns; ⟨o,e'⟩
 refine I.write (x := a) (e := dx) (by rw [e]; exact True.intro) (.inr ho) (fun b q hb z => (sb.2 b hb).trans z) hd ?_
 refine ⟨by rw [zao O.ne]; exact ho,?_,O.ne,O'.obj,_,O'.ns,fun g => ?_,fun g hg => ?_⟩
 ·have := zfC f y fs; omega
 ·show RelO ((zf4 f y fs).lookup g) (if g = f then some u else mA g)
  rw [zfB]
  by_cases q : g = f
  ·rw [if_pos q,if_pos q]; exact ry
  ·rw [if_neg q,if_neg q]; exact r g
 ·by_cases q : g = f
  ·rw [q]; exact (zfE f y fs).1
  ·refine (zfE f y fs).2 g (wi g fun z => hg ?_)
   show (if g = f then some u else mA g) = none
   rw [if_neg q]; exact z
theorem Inv.made (I : Inv X pins σ H s) : Inv X pins σ (upd (upd H s.heap.objs.size (.own (s.heap.objs.size + 1))) (s.heap.objs.size + 1) (.ins C s.heap.objs.size []))
  { s with heap := (s.heap.push PySem.W.emptyDict).push (PySem.W.instObj C s.heap.objs.size) } := by
 have e1 : (s.heap.push PySem.W.emptyDict).get? s.heap.objs.size = some PySem.W.emptyDict := Heap.get?_push_size s.heap rfl
 have e2 : ((s.heap.push PySem.W.emptyDict).push (PySem.W.instObj C s.heap.objs.size)).get? (s.heap.objs.size + 1) = some (PySem.W.instObj C s.heap.objs.size) := by
  have := Heap.get?_push_size (s.heap.push PySem.W.emptyDict) (o := PySem.W.instObj C s.heap.objs.size) rfl
  rwa [Heap.size_push] at this
 have e3 : (s.heap.push PySem.W.emptyDict).Ns s.heap.objs.size (fun _ => none) := ⟨PySem.W.emptyDict,#[],_,e1,rfl,(fun e he => absurd he (by simp)),fun _ => rfl⟩
 have I1 := I.laid (a := s.heap.objs.size) (o := .own (s.heap.objs.size + 1)) (h' := s.heap.push PySem.W.emptyDict) (t' := s.toks) (fun b u q => Heap.get?_push_of_some _ q) (Nat.le_refl _) ⟨_,e1⟩
 refine I1.laid (a := s.heap.objs.size + 1) (o := .ins C s.heap.objs.size []) (t' := s.toks) (fun b u q => Heap.get?_push_of_some _ q) (Nat.le_of_eq (Heap.size_push _ _)) ?_
 have ne : s.heap.objs.size ≠ s.heap.objs.size + 1 := Nat.ne_of_lt (Nat.lt_succ_self _)
 refine ⟨by rw [zao ne,zax],Nat.zero_le _,ne,e2,fun _ => none,(Heap.Ns1.of_empty e3).at fun o q => Heap.get?_push_of_some _ q,fun _ => True.intro,fun y hy => absurd rfl hy⟩
theorem zrm {prog : Program} {w : World} {env : Env} {e : Expr} {f : Str} {pos : Pos} {s : Shared} {Q : Value -> Shared -> Prop} (hb : attributeBase e f env (eval e env) = eval e env)
  (h : wpAny (model prog w) A (eval e env) (fun o s₁ => wpAny (model prog w) A (getAttr o f true) Q E s₁) E s) : wpAny (model prog w) A (eval (.Attribute e f pos) env) Q E s :=
 Attribute_any_ h (by rw [arm_eval_Attribute,hb])
end
def tFld (K : PySem.W.Frag) (ta : TE) (f : Str) : TE := fun σ H Q => ta σ H fun x H1 => ∃ a C dx fs v,x = .ref a /\ H1 a = some (.ins C dx fs) /\ Cls K C /\ NoAttr K C f /\ fs.lookup f = some v /\ Q v H1
def sFld (K : PySem.W.Frag) (ta tv : TE) (f : Str) : TS := fun D σ H => tv σ H fun y H1 => ta σ H1 fun x H2 => ∃ a C dx fs,x = .ref a /\ H2 a = some (.ins C dx fs) /\ Cls K C /\ NoAttr K C f /\ fs.length < 1000 ∧
 D.nx σ (upd H2 a (.ins C dx (zf4 f y fs)))
section
variable {X : Cx} {o e value : Expr} {f : Str} {pos pos' tpos : Pos} {ta tv : TE}
theorem pe_fld (he : PE X e ta) (hb : attributeBase e f X.env (eval e X.env) = eval e X.env) : PE X (.Attribute e f pos) (tFld X.K ta f) := by
 intro pins s σ H Q I h
 refine zrm hb (thn (he pins s σ H _ I h) fun u s1 ⟨x,H1,I1,rx,a,C,dx,fs,v,ex,ea,c,n,l,q⟩ => ?_)
 subst ex
 obtain rfl : u = Value.ref a := rx
 exact zlh I1 ea c n l fun u' s2 I2 ru => ⟨v,H1,I2,ru,q⟩
theorem ps_fld (ha : PE X o ta) (hv : PE X value tv) (hs : swapsWith value (some (.Attribute o f pos')) pos.line X.env = pure false) : PS X (.Assign [.Attribute o f pos'] value pos) (sFld X.K ta tv f) := by
 intro pins s σ H D I h
 refine plainObj_wpAny_Assign_Attribute (thn (hv pins s σ H _ I h) fun u s1 ⟨y,H1,I1,ry,q⟩ => thn (ha pins s1 σ H1 _ I1 q) fun ov s2 ⟨x,H2,I2,rx,a,C,dx,fs,ex,ea,c,n,l,q2⟩ => ?_) hs
 subst ex
 obtain rfl : ov = Value.ref a := rx
 exact zkN I2 ea c n l ry fun s3 I3 => ⟨σ,_,I3,q2⟩
end
section
variable {X : Cx} {pins : List (Addr × Obj)} {σ : St} {H : Hp} {s : Shared} {A : Around} {E : Value -> Shared -> Prop} {Q : Value -> Shared -> Prop} {c : Value} {b : Bool}
inductive TyOf (K : PySem.W.Frag) (H : Hp) : V -> Value -> Prop where
 | non : TyOf K H .non (.type "NoneType")
 | bl (x : Bool) : TyOf K H (.bl x) (.type "bool")
 | int (i : Int) : TyOf K H (.int i) (.type "int")
 | str (x : Str) : TyOf K H (.str x) (.type "str")
 | flt (x : UInt64) : TyOf K H (.flt x) (.type "float")
 | lst {a : Addr} {xs : List V} (e : H a = some (.lst xs)) : TyOf K H (.ref a) (.type "list")
 | frz {a : Addr} {o : Obj} {xs : List V} (e : H a = some (.frz o (.lst xs))) : TyOf K H (.ref a) (.type "list")
 | tup {a : Addr} {xs : List V} (e : H a = some (.tup xs)) : TyOf K H (.ref a) (.type "tuple")
 | dK {a : Addr} {kvs : List (Key × V)} (e : H a = some (.dK kvs)) : TyOf K H (.ref a) (.type "dict")
 | dT {a : Addr} {kvs : List (List Key × V)} (e : H a = some (.dT kvs)) : TyOf K H (.ref a) (.type "dict")
 | ins {a C dx : Addr} {fs : List (Str × V)} (e : H a = some (.ins C dx fs)) (cl : Cls K C) (ha : PySem.W.findIn K (.ref C) "__class__" = some (some (.builtin "object.__class__")))
   (hn : PySem.W.specialIn K (.builtin "object.__class__") "__get__" = some (some (.builtin "getset_descriptor.__get__"))) (htk : PySem.W.takesIn K (.builtin "object.__class__") = some true)
   (hm : PySem.W.mroIn K C (.type "object") = some true) : TyOf K H (.ref a) (.ref C)
theorem zm9 {x : V} {u t : Value} (I : Inv X pins σ H s) (rx : RelV x u) (ty : TyOf X.K H x t) (e : PySem.W.kitOne X.K t c = some b) (h : ∀ tk,Q (.bool b) { s with toks := tk }) :
  wpAny (model X.prog X.w) A (call (.builtin "isinstance") [u,c]) Q E s := by
 cases ty with
 | non => cases (show u = Value.none from rx); exact PySem.W.kia_one PySem.W.kitx_none I.kIn True.intro e (fun z => nomatch z) h
 | bl y => cases (show u = Value.bool y from rx); exact PySem.W.kia_one PySem.W.kitx_bool I.kIn True.intro e (fun z => nomatch z) h
 | int i => obtain ⟨t,q⟩ := (show ∃ t,u = Value.int i t from rx); cases q; exact PySem.W.kia_one PySem.W.kitx_int I.kIn True.intro e (fun z => nomatch z) h
 | str y => obtain ⟨t,q⟩ := (show ∃ t,u = Value.str y t from rx); cases q; exact PySem.W.kia_one PySem.W.kitx_str I.kIn True.intro e (fun z => nomatch z) h
 | flt y => obtain ⟨t,q⟩ := (show ∃ t,u = Value.float y t from rx); cases q; exact PySem.W.kia_one PySem.W.kitx_float I.kIn True.intro e (fun z => nomatch z) h
 | @lst a xs ea =>
  cases (show u = Value.ref a from rx)
  obtain ⟨_,_,n,_,h1⟩ := (show ObjOk X.prog X.w H s.heap a (.lst xs) from I.hok a _ ea)
  exact PySem.W.kia_one PySem.W.kitx_list I.kIn ⟨_,h1,rfl⟩ e (fun z => nomatch z) h
 | @frz a ob xs ea =>
  cases (show u = Value.ref a from rx)
  obtain ⟨_,_,_,n,_,h1⟩ := (show ObjOk X.prog X.w H s.heap a (.frz ob (.lst xs)) from I.hok a _ ea)
  exact PySem.W.kia_one PySem.W.kitx_list I.kIn ⟨_,h1,rfl⟩ e (fun z => nomatch z) h
 | @tup a xs ea =>
  cases (show u = Value.ref a from rx)
  obtain ⟨_,_,_,p,_⟩ := (show ObjOk X.prog X.w H s.heap a (.tup xs) from I.hok a _ ea)
  obtain ⟨o,h1,h2,_⟩ := p
  exact PySem.W.kia_one PySem.W.kitx_tuple I.kIn ⟨o,h1,h2⟩ e (fun z => nomatch z) h
 | @dK a kvs ea =>
  cases (show u = Value.ref a from rx)
  obtain ⟨_,_,vs,_,p⟩ := (show ObjOk X.prog X.w H s.heap a (.dK kvs) from I.hok a _ ea)
  obtain ⟨o,es,ep,h1,h2,_⟩ := p
  exact PySem.W.kia_one PySem.W.kitx_dict I.kIn ⟨o,h1,h2.1⟩ e (fun z => nomatch z) h
 | @dT a kvs ea =>
  cases (show u = Value.ref a from rx)
  obtain ⟨_,_,xs,_,o,es,ep,h1,h2,_⟩ := (show ObjOk X.prog X.w H s.heap a (.dT kvs) from I.hok a _ ea)
  exact PySem.W.kia_one PySem.W.kitx_dict I.kIn ⟨o,h1,h2.1⟩ e (fun z => nomatch z) h
 | @ins a C dx fs ea cl ha hn htk hm =>
  cases (show u = Value.ref a from rx)
  obtain ⟨mA,O,_⟩ := zhl I.hok ea
  obtain ⟨od,J,_⟩ := O.look
  exact PySem.W.kia_one (PySem.W.kitx_own (cl.get _) cl.hd ha hn htk hm) I.kIn J e (fun z => nomatch z) h
end
structure Room (k : Nat) (A : Around) : Prop where
 hd : A.handled = none
 dp : A.depth + 3 * k + 5 < recursionLimit
 un : A.units + 16 * k + 200 < cLine
 gd : A.guards = some []
theorem Room.mono {j k : Nat} {A : Around} (r : Room k A) (h : j <= k) : Room j A := ⟨r.hd,by have := r.dp; omega,by have := r.un; omega,r.gd⟩
theorem Room.deeper {k : Nat} {A : Around} (r : Room (k + 1) A) (env : Env) : Room k (A.deeper env) :=
 ⟨r.hd,by have := r.dp; show A.depth + 1 + 3 * k + 5 < _; omega,by have := r.un; show A.units + 3 + 16 * k + 200 < _; omega,r.gd⟩
theorem zlc {A : Around} {C : Addr} {us : List Value} {kw : List (Str × Value)} : (A.under (.builtin "type.__call__" ⟨.ref C :: us,kw⟩)).depth = A.depth + 1 := by
 first | rfl | simp [Around.under,Code.weight,Code.isCreation,Code.isGuard,Code.isCaller,Code.frames,Code.isFrame,guardIds]
theorem zlb {A : Around} {C : Addr} {us : List Value} {kw : List (Str × Value)} : (A.under (.builtin "type.__call__" ⟨.ref C :: us,kw⟩)).units = A.units + 1 := by
 first | rfl | simp [Around.under,Code.cUnits,Code.frames,Code.isFrame]
theorem Room.make {k : Nat} {A : Around} (r : Room (k + 1) A) (C : Addr) (us : List Value) (kw : List (Str × Value)) : Room k (A.under (.builtin "type.__call__" ⟨.ref C :: us,kw⟩)) :=
 ⟨r.hd,by have := r.dp; rw [zlc]; omega,by have := r.un; rw [zlb]; omega,r.gd⟩
theorem Room.depth {k : Nat} {A : Around} (r : Room k A) : A.depth < recursionLimit := by have := r.dp; omega
theorem Room.units {k : Nat} {A : Around} (r : Room k A) : A.units + 64 < cLine := by have := r.un; omega
def tNil : TA := fun _ H Q => Q [] H
def tCons (ta : TE) (tr : TA) : TA := fun σ H Q => ta σ H fun x H1 => tr σ H1 fun xs H2 => Q (x :: xs) H2
section
variable {X : Cx} {e : Expr} {es : List Expr} {te : TE} {t : TA} {pos : Pos}
theorem zet : PA X [] tNil := fun _ _ _ _ H Q I h => Calls.spliced_nil ⟨[],H,I,.nil,h⟩
theorem zbP (ha : PE X e te) (hr : PA X es t) (hs : autoParam (starEach (e :: es) X.env = (false,eval e X.env) :: starEach es X.env) AutoP.a3._auto_1) : PA X (e :: es) (tCons te t) := by
 intro pos pins s σ H Q I h
 rw [hs]
 show wpAny _ _ (spliced ((false,eval e X.env) :: backTo pos (starEach es X.env))) _ _ s
 refine Calls.spliced_cons (thn (ha pins s σ H _ I h) fun u s1 ⟨x,H1,I1,r1,q1⟩ => ?_)
 exact thn (hr pos pins s1 σ H1 _ I1 q1) fun us s2 ⟨xs,H2,I2,r2,q2⟩ => ⟨x :: xs,H2,I2,.cons r1 r2,q2⟩
def tTup (t : TA) : TE := fun σ H Q => t σ H fun xs H1 => xs.length <= sizeLine /\ ∀ p,H1 p = none -> Q (.ref p) (upd H1 p (.tup xs))
def tLst (t : TA) : TE := fun σ H Q => t σ H fun xs H1 => xs.length <= sizeLine /\ ∀ p,H1 p = none -> Q (.ref p) (upd H1 p (.lst xs))
theorem pe_tup {x1} (h : PA X es t) : PE X (.Tuple es x1 pos) (tTup t) := by
 intro pins s σ H Q I hq
 refine wpAny_Tuple_spliced (thn (h pos pins s σ H _ I hq) fun us s1 ⟨xs,H1,I1,r,z,q⟩ => ⟨by rw [<- r.length]; exact z,?_⟩)
 have hf : H1 s1.heap.objs.size = none := I1.hok.fresh (Nat.le_refl _)
 refine ⟨.ref s1.heap.objs.size,upd H1 s1.heap.objs.size (.tup xs),I1.laid (t' := s1.toks) (fun b u e => Heap.get?_push_of_some _ e) (Nat.le_refl _) ?_,rfl,q _ hf⟩
 exact ⟨z,us,r,⟨_,Heap.get?_push_size _ rfl,rfl,_,rfl⟩,_,Heap.get?_push_size _ rfl,rfl⟩
theorem zpe (h : PA X es t) : PE X (.List es pos) (tLst t) := by
 intro pins s σ H Q I hq
 refine wpAny_List_spliced (thn (h pos pins s σ H _ I hq) fun us s1 ⟨xs,H1,I1,r,z,q⟩ => ⟨by rw [<- r.length]; exact z,?_⟩)
 have hf : H1 s1.heap.objs.size = none := I1.hok.fresh (Nat.le_refl _)
 refine ⟨.ref s1.heap.objs.size,upd H1 s1.heap.objs.size (.lst xs),I1.laid (t' := s1.toks) (fun b u e => Heap.get?_push_of_some _ e) (Nat.le_refl _) ?_,rfl,q _ hf⟩
 exact ⟨z,us,0,r,Heap.get?_push_size _ rfl⟩
end
abbrev Sp := List V -> Hp -> VK -> XK -> Prop
abbrev CXT := List Env -> Hp -> Shared -> XK -> Value -> Shared -> Prop
structure Env0 (P : Program) (w : World) (K : PySem.W.Frag) (mg : Str -> Option Value) (base : Heap) (A : Around) (outer : List Env) (s : Shared) (H : Hp) : Prop where
 frames : A.frames = some outer
 mod : Mod K mg base
 bs : ∀ b o,base.get? b = some o -> s.heap.get? b = some o /\ H b = none
 bsz : base.objs.size <= s.heap.objs.size
 funs : s.heap.FunFrames base outer
 frf : ∀ b ∈ frs outer,H b = none
 hok : HOk P w H s.heap
 bare : AllBare s.gens
def CE (outer : List Env) (P : Program) (w : World) (H : Hp) (s : Shared) (Q : VK) (u : Value) (s' : Shared) : Prop :=
 ∃ v H',s'.os = s.os /\ AllBare s'.gens /\ Un (frs outer) [] H H' s.heap s'.heap /\ HOk P w H' s'.heap /\ RelV v u /\ Q v H'
def CR (CX : CXT) (outer : List Env) (P : Program) (w : World) (H : Hp) (s : Shared) (Q : VK) (E : XK) (r : Result) (s' : Shared) : Prop :=
 match r with
 | .ok (.ret u) => CE outer P w H s Q u s'
 | .ok _ => False
 | .error e => CX outer H s E e s'
structure FnOk (P : Program) (w : World) (K : PySem.W.Frag) (mg : Str -> Option Value) (base : Heap) (CX : CXT) (k : Nat) (f : Addr) (fd : FuncData) (ps : List Str) (sp : Sp) : Prop where
 len : ∀ vs H Q E,sp vs H Q E -> vs.length = ps.length
 run : ∀ (A : Around) (outer : List Env) (s : Shared) (H : Hp) (args : Args) (us : List Value) (vs : List V) (Q : VK) (E : XK),Room k A -> Env0 P w K mg base A outer s H -> BindsTo s fd args (ps.zip us) -> Vals vs us -> sp vs H Q E →
  codeAny (model P w) A (.call (.ref f) args) (CR CX outer P w H s Q E) s
theorem FnOk.imp {P : Program} {w : World} {K : PySem.W.Frag} {mg : Str -> Option Value} {base : Heap} {CX : CXT} {k : Nat} {f : Addr} {fd : FuncData} {ps : List Str} {sp sp' : Sp} (F : FnOk P w K mg base CX k f fd ps sp)
  (h : ∀ vs H Q E,sp' vs H Q E -> sp vs H Q E) : FnOk P w K mg base CX k f fd ps sp' :=
 ⟨fun vs H Q E q => F.len vs H Q E (h _ _ _ _ q),fun A outer s H args us vs Q E hr he hb hv hs => F.run A outer s H args us vs Q E hr he hb hv (h _ _ _ _ hs)⟩
theorem Env0.make {P : Program} {w : World} {K : PySem.W.Frag} {mg : Str -> Option Value} {base : Heap} {A : Around} {outer : List Env} {s : Shared} {H : Hp} (e : Env0 P w K mg base A outer s H) (C : Addr) (us : List Value) (kw : List (Str × Value)) :
  Env0 P w K mg base (A.under (.builtin "type.__call__" ⟨.ref C :: us,kw⟩)) outer s H := ⟨by first | exact e.frames | (simpa [Around.under,Code.envs,Code.isFrame,pushEnvs] using e.frames),e.mod,e.bs,e.bsz,e.funs,e.frf,e.hok,e.bare⟩
section
variable {X : Cx} {pins : List (Addr × Obj)} {σ : St} {H : Hp} {s s' : Shared}
theorem Inv.env0 (I : Inv X pins σ H s) : Env0 X.prog X.w X.K X.mg X.base X.A X.stack s H :=
 ⟨I.ok.frames,I.ok.mod,I.bs,Nat.le_trans I.ok.bsz I.sz,I.stack,I.stkFree,I.hok,I.bare⟩
theorem Inv.after {Q : VK} {u : Value} (I : Inv X pins σ H s) (h : CE X.stack X.prog X.w H s Q u s') : EP X pins σ Q u s' := by
 obtain ⟨v,H',os,bare,un,hok,r,q⟩ := h
 obtain ⟨hh,g,d,t,os'⟩ := s'
 obtain rfl : os' = s.os := os
 exact ⟨v,H',I.call (h' := hh) (g' := g) (d' := d) (t' := t) (ch := []) un hok bare (fun b z => absurd z (by simp)),r,q⟩
end
def tCall (sp : Sp) (dvs : List V) (E : XK) (t : TA) : TE := fun σ H Q => t σ H fun vs H1 => sp (vs ++ dvs) H1 Q E
def tMeth (C : Addr) (m : Str) (sp : Sp) (dvs : List V) (E : XK) (ta : TE) (t : TA) : TE := fun σ H Q => ta σ H fun x H1 => ∃ a dx fs,x = .ref a /\ H1 a = some (.ins C dx fs) /\ fs.lookup m = none ∧
 t σ H1 fun vs H2 => sp (x :: (vs ++ dvs)) H2 Q E
def tMake (C : Addr) (sp : Sp) (dvs : List V) (E : XK) (t : TA) : TE := fun σ H Q => t σ H fun vs H1 => ∀ x dx,H1 x = none -> H1 dx = none -> dx ≠ x →
 sp (.ref x :: (vs ++ dvs)) (upd (upd H1 dx (.own x)) x (.ins C dx [])) (fun v H2 => v = .non /\ Q (.ref x) H2) E
def Binds (K : PySem.W.Frag) (fd : FuncData) (ps : List Str) (ds : List Value) : Prop :=
 ∀ (s : Shared) (us : List Value),K.In s.heap -> (us ++ ds).length = ps.length -> BindsTo s fd ⟨us,[]⟩ (ps.zip (us ++ ds))
theorem Binds.all {K : PySem.W.Frag} {fd : FuncData} {ps : List Str} (h : ∀ us : List Value,us.length = ps.length -> bindArgs fd ⟨us,[]⟩ = pure (ps.zip us)) : Binds K fd ps [] := fun s us _ hl => by
 rw [List.append_nil] at hl ⊢
 exact .of_eq (h us hl)
def zfX (CX : CXT) (X : Cx) (E : XK) : Prop := ∀ (pins : List (Addr × Obj)) (σ : St) (H : Hp) (s : Shared) (e : Value) (s' : Shared),Inv X pins σ H s -> CX X.stack H s E e s' -> X.xe e s'
section
variable {X : Cx} {CX : CXT} {k : Nat} {f C : Addr} {fd : FuncData} {ps : List Str} {sp : Sp} {dvs : List V} {ds : List Value} {E : XK} {x m : Str} {p pos apos : Pos} {e o : Expr} {es : List Expr} {ta : TE} {t : TA}
theorem zlS {pins : List (Addr × Obj)} {σ : St} {H : Hp} {s : Shared} {Q : VK} {us : List Value} {vs : List V} (F : FnOk X.prog X.w X.K X.mg X.base CX k f fd ps sp) (hr : Room k X.A) (hb : Binds X.K fd ps ds) (hd : Vals dvs ds) (hx : zfX CX X E)
  (I : Inv X pins σ H s) (r : Vals vs us) (h : sp (vs ++ dvs) H Q E) : wpAny (model X.prog X.w) X.A (call (.ref f) us) (EP X pins σ Q) X.xe s := by
 have r2 : Vals (vs ++ dvs) (us ++ ds) := r.append hd
 have hl : (us ++ ds).length = ps.length := by rw [<- r2.length]; exact F.len _ _ _ _ h
 refine wpAny_call (codeAny_mono (F.run X.A X.stack s H ⟨us,[]⟩ (us ++ ds) (vs ++ dvs) Q E hr I.env0 (hb s us I.kIn hl) r2 h) fun r s' hq => ?_)
 cases r with
 | error e => exact hx pins σ H s e s' I hq
 | ok fl =>
  cases fl with
  | ret u => exact I.after hq
  | next => exact False.elim hq
  | brk => exact False.elim hq
  | cont => exact False.elim hq
theorem zqz (F : FnOk X.prog X.w X.K X.mg X.base CX k f fd ps sp) (hr : Room k X.A) (hg : Gl X x) (hm : X.mg x = some (.ref f)) (hk : PySem.W.keepIn X.K (.ref f) = true) (hb : Binds X.K fd ps ds) (hd : Vals dvs ds) (hx : zfX CX X E)
  (ha : PA X (e :: es) t) (hdb : autoParam ((x == ("__debug__" : Str)) = false) AutoP.a1._auto_1) (he : autoParam (starEach (e :: es) X.env = (false,eval e X.env) :: starEach es X.env) AutoP.a3._auto_1) (hpl : autoParam ((backTo pos (starEach es X.env)).any (·.1) = false) AutoP.a3._auto_1) :
  PE X (.Call (.Name x p) (e :: es) [] pos) (tCall sp dvs E t) := by
 intro pins s σ H Q I h
 refine wpAny_Call_Name_kw (zmV I hg hm ?_ hdb)
 refine PySem.W.callWith_K (h₀ := X.base) I.ok.mod.kin hk (thn (ha pos pins s σ H _ I h) fun us s1 ⟨vs,H1,I1,r,q⟩ => ⟨I1.kIn,?_⟩) he hpl
 exact zlS F hr hb hd hx I1 r q
theorem zqu {pl : Sem Bool} (he : PE X o ta) (c : Cls X.K C) (hm : Meth X.K C m f) (F : FnOk X.prog X.w X.K X.mg X.base CX k f fd ps sp) (hr : Room k X.A) (hb : Binds X.K fd ps ds) (hd : Vals dvs ds) (hx : zfX CX X E) (ha : PA X (e :: es) t)
  (hst : autoParam (starEach (e :: es) X.env = (false,eval e X.env) :: starEach es X.env) AutoP.a3._auto_1) (hpl : autoParam ((backTo pos (starEach es X.env)).any (·.1) = false) AutoP.a3._auto_1)
  (ht : autoParam (eval (.Call (.Attribute o m apos) (e :: es) [] pos) X.env = (do
   let ov <- eval o X.env
   standAt apos.atName
   let (f,first) <- holding [ov] (getMethod ov m pl)
   callWith pos f first (backTo pos (starEach (e :: es) X.env)) (backToKw pos (keywordEach [] X.env)))) AutoP.a3._auto_1) :
  PE X (.Call (.Attribute o m apos) (e :: es) [] pos) (tMeth C m sp dvs E ta t) := by
 intro pins s σ H Q I h
 refine PySem.W.methodCall_KW (pl := pl) (thn (he pins s σ H _ I h) fun u s1 ⟨x,H1,I1,rx,a,dx,fs,ex,ea,l,q⟩ => ?_) ht
 subst ex
 obtain rfl : u = Value.ref a := rx
 refine zgs I1 ea c hm l ?_
 refine PySem.W.callWith_K (first := [.ref a]) (h₀ := X.base) I.ok.mod.kin hm.kp (thn (ha pos pins s1 σ H1 _ I1 q) fun us s2 ⟨vs,H2,I2,r,q2⟩ => ⟨I2.kIn,?_⟩) hst hpl
 exact zlS (us := .ref a :: us) (vs := .ref a :: vs) F hr hb hd hx I2 (.cons rfl r) q2
theorem zoo {pl : Sem Bool} (he : PE X o ta) (c : Cls X.K C) (hm : Meth X.K C m f) (F : FnOk X.prog X.w X.K X.mg X.base CX k f fd ps sp) (hr : Room k X.A) (hb : Binds X.K fd ps ds) (hd : Vals dvs ds) (hx : zfX CX X E)
  (ht : autoParam (eval (.Call (.Attribute o m apos) [] [] pos) X.env = (do
   let ov <- eval o X.env
   standAt apos.atName
   let (f,first) <- holding [ov] (getMethod ov m pl)
   callWith pos f first (backTo pos (starEach [] X.env)) (backToKw pos (keywordEach [] X.env)))) AutoP.a3._auto_1) :
  PE X (.Call (.Attribute o m apos) [] [] pos) (tMeth C m sp dvs E ta tNil) := by
 intro pins s σ H Q I h
 refine PySem.W.methodCall_KW (pl := pl) (thn (he pins s σ H _ I h) fun u s1 ⟨x,H1,I1,rx,a,dx,fs,ex,ea,l,q⟩ => ?_) ht
 subst ex
 obtain rfl : u = Value.ref a := rx
 refine zgs I1 ea c hm l ?_
 exact PySem.W.callWith_K0 (first := [.ref a]) I1.kIn hm.kp (zlS (us := [.ref a]) (vs := [.ref a]) F hr hb hd hx I1 (.cons rfl .nil) q)
structure Mk (K : PySem.W.Frag) (C f : Addr) : Prop where
 makes : PySem.W.makesIn K C = true
 init : PySem.W.findIn K (.ref C) "__init__" = some (some (.ref f))
 fn : PySem.W.isFn K (.ref f) = true
 kp : PySem.W.keepIn K (.ref C) = true
theorem zn8 {pins : List (Addr × Obj)} {σ : St} {H : Hp} {s : Shared} {Q : VK} {us : List Value} {vs : List V} (M : Mk X.K C f) (F : FnOk X.prog X.w X.K X.mg X.base CX k f fd ps sp) (hr : Room (k + 1) X.A) (hb : Binds X.K fd ps ds) (hd : Vals dvs ds)
  (hx : zfX CX X E) (I : Inv X pins σ H s) (r : Vals vs us)
  (h : ∀ x dx,H x = none -> H dx = none -> dx ≠ x -> sp (.ref x :: (vs ++ dvs)) (upd (upd H dx (.own x)) x (.ins C dx [])) (fun v H2 => v = .non /\ Q (.ref x) H2) E) :
  wpAny (model X.prog X.w) X.A (call (.ref C) us) (EP X pins σ Q) X.xe s := by
 have hq := h (s.heap.objs.size + 1) s.heap.objs.size (I.hok.fresh (Nat.le_succ _)) (I.hok.fresh (Nat.le_refl _)) (Nat.ne_of_lt (Nat.lt_succ_self _))
 have I2 := Inv.made (C := C) I
 have r2 : Vals (V.ref (s.heap.objs.size + 1) :: (vs ++ dvs)) (Value.ref (s.heap.objs.size + 1) :: (us ++ ds)) := .cons rfl (r.append hd)
 have hl : (Value.ref (s.heap.objs.size + 1) :: us ++ ds).length = ps.length := by
  have e := r2.length
  rw [F.len _ _ _ _ hq] at e
  exact e.symm
 refine wpAny_call (zoE (f := f) I.kIn M.makes M.init (beq_iff_eq.mp M.fn) (codeAny_mono (F.run _ X.stack _ _ ⟨Value.ref (s.heap.objs.size + 1) :: us,[]⟩ (Value.ref (s.heap.objs.size + 1) :: (us ++ ds)) _ _ E (hr.make C us [])
  (I2.env0.make C us []) (hb _ (Value.ref (s.heap.objs.size + 1) :: us) I2.kIn hl) r2 hq) fun r s' hq' => ?_))
 cases r with
 | error e => exact hx pins σ _ _ e s' I2 hq'
 | ok fl =>
  cases fl with
  | ret u =>
   obtain ⟨v,H',I3,rv,ev,q3⟩ := I2.after hq'
   subst ev
   exact ⟨rv,⟨V.ref (s.heap.objs.size + 1),H',I3,rfl,q3⟩⟩
  | next => exact False.elim hq'
  | brk => exact False.elim hq'
  | cont => exact False.elim hq'
theorem zqv (M : Mk X.K C f) (F : FnOk X.prog X.w X.K X.mg X.base CX k f fd ps sp) (hr : Room (k + 1) X.A) (hg : Gl X x) (hm : X.mg x = some (.ref C)) (hb : Binds X.K fd ps ds) (hd : Vals dvs ds) (hx : zfX CX X E)
  (ha : PA X (e :: es) t) (hdb : autoParam ((x == ("__debug__" : Str)) = false) AutoP.a1._auto_1) (he : autoParam (starEach (e :: es) X.env = (false,eval e X.env) :: starEach es X.env) AutoP.a3._auto_1) (hpl : autoParam ((backTo pos (starEach es X.env)).any (·.1) = false) AutoP.a3._auto_1) :
  PE X (.Call (.Name x p) (e :: es) [] pos) (tMake C sp dvs E t) := by
 intro pins s σ H Q I h
 refine wpAny_Call_Name_kw (zmV I hg hm ?_ hdb)
 refine PySem.W.callWith_K (h₀ := X.base) I.ok.mod.kin M.kp (thn (ha pos pins s σ H _ I h) fun us s1 ⟨vs,H1,I1,r,q⟩ => ⟨I1.kIn,?_⟩) he hpl
 exact zn8 M F hr hb hd hx I1 r q
end
def PK (X : Cx) (kws : List Keyword) (t : TA) : Prop :=
 ∀ (pos : Pos) (pins : List (Addr × Obj)) (s : Shared) (σ : St) (H : Hp) (Q : List V -> Hp -> Prop),Inv X pins σ H s -> t σ H Q -> wpAny (model X.prog X.w) X.A (evalAll ((backToKw pos (keywordEach kws X.env)).map (·.2))) (AP X pins σ Q) X.xe s
section
variable {X : Cx} {CX : CXT} {k : Nat} {f C : Addr} {fd : FuncData} {ps ks : List Str} {sp : Sp} {E : XK} {x m : Str} {p pos apos kpos : Pos} {e o : Expr} {es : List Expr} {kws : List Keyword} {te ta : TE} {t tk : TA} {nm : Option Str}
theorem pk_nil : PK X [] tNil := fun _ _ _ _ H Q I h => wpAny_evalAll_nil ⟨[],H,I,.nil,h⟩
theorem zqn (ha : PE X e te) (hr : PK X kws t) : PK X (⟨nm,e,kpos⟩ :: kws) (tCons te t) := by
 intro pos pins s σ H Q I h
 show wpAny _ _ (evalAll ((do let v <- eval e X.env; standAt pos; pure v) :: (backToKw pos (keywordEach kws X.env)).map (·.2))) _ _ s
 refine wpAny_evalAll_cons (wpAny_bind (thn (ha pins s σ H _ I h) fun u s1 ⟨x,H1,I1,r1,q1⟩ => wpAny_bind (wpAny_standAt (wpAny_pure ?_))))
 exact thn (hr pos pins s1 σ H1 _ I1 q1) fun us s2 ⟨xs,H2,I2,r2,q2⟩ => ⟨x :: xs,H2,I2,.cons r1 r2,q2⟩
variable {g : List Value -> List Value -> List Value} {gV : List V -> List V -> List V}
end
structure FnScope (N P : List Str) (sc : Scope) : Prop where
 kind : sc.kind = .function
 co : sc.isCoroutine = false
 gen : sc.isGenerator = false
 nd : N.Nodup
 pre : N.take P.length = P
 par : ∀ x ∈ P,sc.names.lookup x = some .local ∨ sc.names.lookup x = some .cell
 nofree : ∀ y ∈ sc.names,y.2 ≠ .free
theorem ziK {kindOf : Str -> Option NameKind} {x : Str} : ∀ {binds : List (Str × Value)} {m : Str -> Option Value},(∀ v,(x,v) ∉ binds) -> bindL kindOf binds m x = m x
 | [],_,_ => rfl
 | (n,v) :: r,m,h => by
  unfold bindL
  rw [ziK fun w hw => h w (List.mem_cons_of_mem _ hw)]
  split
  ·have : x ≠ n := by rintro rfl; exact h v List.mem_cons_self
   simp [this]
  ·rfl
theorem ziM {kindOf : Str -> Option NameKind} {x : Str} : ∀ {binds : List (Str × Value)} {m : Str -> Option Value},(∀ v,(x,v) ∉ binds) -> bindC kindOf binds m x = m x
 | [],_,_ => rfl
 | (n,v) :: r,m,h => by
  unfold bindC
  rw [ziM fun w hw => h w (List.mem_cons_of_mem _ hw)]
  split
  ·rfl
  ·have : x ≠ n := by rintro rfl; exact h v List.mem_cons_self
   simp [this]
theorem ziL {kindOf : Str -> Option NameKind} {x : Str} {v : Value} : ∀ {P : List Str} {vs : List Value} {i : Nat} {m : Str -> Option Value},P.Nodup -> P[i]? = some x -> vs[i]? = some v -> kindOf x = some .local →
  bindL kindOf (P.zip vs) m x = some v
 | [],_,_,_,_,h,_,_ => by simp at h
 | _ :: _,[],_,_,_,_,h,_ => by simp at h
 | p :: P,w :: vs,0,m,nd,h1,h2,hk => by
  simp at h1 h2; subst h1; subst h2
  show bindL kindOf ((p,w) :: P.zip vs) m p = _
  unfold bindL
  rw [ziK fun v hv => (List.nodup_cons.mp nd).1 (List.of_mem_zip hv).1,if_pos hk]
  simp
 | p :: P,w :: vs,i + 1,m,nd,h1,h2,hk => by
  show bindL kindOf ((p,w) :: P.zip vs) m x = _
  unfold bindL
  exact ziL (i := i) (List.nodup_cons.mp nd).2 (by simpa using h1) (by simpa using h2) hk
theorem ziN {kindOf : Str -> Option NameKind} {x : Str} {v : Value} : ∀ {P : List Str} {vs : List Value} {i : Nat} {m : Str -> Option Value},P.Nodup -> P[i]? = some x -> vs[i]? = some v -> kindOf x ≠ some .local →
  bindC kindOf (P.zip vs) m x = some v
 | [],_,_,_,_,h,_,_ => by simp at h
 | _ :: _,[],_,_,_,_,h,_ => by simp at h
 | p :: P,w :: vs,0,m,nd,h1,h2,hk => by
  simp at h1 h2; subst h1; subst h2
  show bindC kindOf ((p,w) :: P.zip vs) m p = _
  unfold bindC
  rw [ziM fun v hv => (List.nodup_cons.mp nd).1 (List.of_mem_zip hv).1,if_neg hk]
  simp
 | p :: P,w :: vs,i + 1,m,nd,h1,h2,hk => by
  show bindC kindOf ((p,w) :: P.zip vs) m x = _
  unfold bindC
  exact ziN (i := i) (List.nodup_cons.mp nd).2 (by simpa using h1) (by simpa using h2) hk
def start (N : List Str) (vs : List V) : St := vs.map some ++ List.replicate (N.length - vs.length) none
def zlu (CX : CXT) (P : Program) (w : World) (K : PySem.W.Frag) (mg : Str -> Option Value) (base : Heap) (N : List Str) (qual : Str) (scope : Scope) (f : Addr) (cd : Value) (A : Around) (outer : List Env) (s : Shared) (H : Hp) (E : XK) : Cx where
 prog := P
 w := w
 K := K
 mg := mg
 base := base
 A := A.deeper (envOfC qual scope s.heap.objs.size f cd)
 N := N
 s₀ := s
 H₀ := H
 env := envOfC qual scope s.heap.objs.size f cd
 outer := outer
 stack := envOfC qual scope s.heap.objs.size f cd :: outer
 ex := []
 calm := true
 fn := fun _ => true
 pn := []
 xe := fun e s' => wpAny (model P w) (A.deeper (envOfC qual scope s.heap.objs.size f cd)) (leaving (envOfC qual scope s.heap.objs.size f cd) e) (fun _ s'' => CX outer H s E e s'') (fun e' s'' => CX outer H s E e' s'') s'
theorem zky {sc : Scope} {n : Nat} {x : Str} (h : sc.names.lookup x = some .cell) : ∃ c,(cellsFrom n sc.names []).lookup x = some c := by
 have q := PySem.W.cellsFrom_some sc.names n [] (.inl h)
 exact Option.isSome_iff_exists.mp q
theorem znc {CX : CXT} {P : Program} {w : World} {K : PySem.W.Frag} {mg : Str -> Option Value} {base : Heap} {N ps : List Str} {qual : Str} {scope : Scope} {f : Addr} {cd : Value} {A : Around} {outer : List Env} {s s1 : Shared} {H : Hp} {E : XK} {us : List Value} {vs : List V}
  (S : FnScope N ps scope) (hd : A.handled = none) (e0 : Env0 P w K mg base A outer s H) (hl : vs.length = ps.length) (r : Vals vs us)
  (x : InCallC s s.heap.objs.size (bindL (envOfC qual scope s.heap.objs.size f cd).kindOf (ps.zip us) fun _ => none) (cellsFrom (s.heap.objs.size + 1) scope.names []) (bindC (envOfC qual scope s.heap.objs.size f cd).kindOf (ps.zip us) fun _ => none) s1) :
  Inv (zlu CX P w K mg base N qual scope f cd A outer s H E) [] (start N vs) H s1 := by
 have hpl : ps.length <= N.length := by have := congrArg List.length S.pre; rw [List.length_take] at this; omega
 obtain ⟨h1,tk,rfl,hk⟩ := x.done
 have noA : ∀ b : Addr,b ∉ (zlu CX P w K mg base N qual scope f cd A outer s H E).ex := fun b z => absurd (show b ∈ ([] : List Addr) from z) (by simp)
 refine ⟨⟨e0.mod,S.kind,rfl,rfl,Nat.le_refl _,fun y z c h1 h2 => ?_,fun y hy => ?_,fun y c _ h => ?_,fun _ => hd,Around.frames_deeper e0.frames,.inr ⟨rfl,rfl⟩,fun b z => absurd z (noA b),e0.bs,e0.bsz,fun b _ _ => noA b,fun b z => absurd z (noA b),e0.funs,e0.frf⟩,
  rfl,e0.bare,Un.kept hk,⟨_,x.toInCall.ns,fun i y v h1 h2 h3 => ?_⟩,fun y c h => ⟨_,x.cell y c h⟩,e0.hok.fresh (Nat.le_refl _),fun y c h => ?_,fun p hp => absurd (show p ∈ ([] : List (Addr × Obj)) from hp) (by simp),e0.hok.kept hk,?_⟩
 ·exact name_of_addr x.apart (PySem.mem_of_lookup h1) (PySem.mem_of_lookup h2)
 ·have hy : scope.names.lookup y = some .cell ∨ scope.names.lookup y = some .free := hy
  rcases hy with hy | hy
  ·exact zky hy
  ·exact absurd rfl (S.nofree _ (PySem.mem_of_lookup hy))
 ·exact Nat.le_of_lt (x.above y c (PySem.mem_of_lookup h))
 ·have hi : i < vs.length := by
   unfold start at h2
   by_cases hi : i < vs.length
   ·exact hi
   ·rw [List.getElem?_append_right (by simpa using hi)] at h2
    rw [List.getElem?_replicate] at h2
    split at h2 <;> cases h2
  have ha : vs[i]? = some v := by
   unfold start at h2
   rw [List.getElem?_append_left (by simpa using hi),List.getElem?_map] at h2
   cases e : vs[i]? with
   | none => rw [e] at h2; cases h2
   | some a => rw [e] at h2; cases h2; rfl
  obtain ⟨u,hu,rv⟩ := r.get ha
  have hp : ps[i]? = some y := by
   rw [<- S.pre,List.getElem?_take_of_lt (by omega)]; exact h1
  have ndP : ps.Nodup := by rw [<- S.pre]; exact S.nd.sublist (List.take_sublist _ _)
  refine ⟨u,rv,?_⟩
  rcases S.par y (List.mem_of_getElem? hp) with k | k
  ·exact .inl ⟨k,ziL ndP hp hu k⟩
  ·obtain ⟨c,e⟩ := zky (n := s.heap.objs.size + 1) k
   refine .inr ⟨.inl k,c,e,?_⟩
   have q := x.cell y c e
   rw [ziN ndP hp hu (by show scope.names.lookup y ≠ _; rw [k]; decide)] at q
   exact q
 ·exact e0.hok.fresh (Nat.le_of_lt (x.above y c (PySem.mem_of_lookup h)))
 ·unfold start
  show _ = N.length
  rw [List.length_append,List.length_map,List.length_replicate]
  omega
theorem fn_of {CX : CXT} {P : Program} {w : World} {K : PySem.W.Frag} {mg : Str -> Option Value} {base : Heap} {k : Nat} {f : Addr} {name qual : Str} {params : Arguments} {body : List Stmt} {scope : Scope} {dV kV doc pm cdv ct oc : Value} {an od : Option Addr}
  {osl : Array (Option Value)} {N ps : List Str} {sp : Sp} (lk : K.lookup f = some ⟨oc,od,.func (PySem.W.fnOf name qual params body scope dV kV doc pm an cdv ct),osl⟩) (hcd : PySem.W.codeIn K cdv qual = true) (S : FnScope N ps scope)
  (len : ∀ vs H Q E,sp vs H Q E -> vs.length = ps.length)
  (hbody : ∀ (A : Around) (outer : List Env) (s : Shared) (H : Hp) (vs : List V) (Q : VK) (E : XK),Room k (A.deeper (envOfC qual scope s.heap.objs.size f cdv)) -> sp vs H Q E →
   ∃ t,PSs (zlu CX P w K mg base N qual scope f cdv A outer s H E) body t /\ t { nx := fun _ H' => Q .non H',rt := Q } (start N vs) H) :
  FnOk P w K mg base CX (k + 1) f (PySem.W.fnOf name qual params body scope dV kV doc pm an cdv ct) ps sp := by
 refine ⟨len,fun A outer s H args us vs Q E hr e0 hb r hsp => ?_⟩
 have hl := len _ _ _ _ hsp
 have KX : K.In s.heap := e0.mod.kin.keeps fun b o e => (e0.bs b o e).1
 have lim : s.heap.NoLimit := e0.mod.nolimit.keeps fun b o e => (e0.bs b o e).1
 have hkind : ∀ y ∈ ps.zip us,scope.names.lookup y.1 = some .local ∨ (scope.names.lookup y.1 = some .cell /\ ((cellsFrom (s.heap.objs.size + 1) scope.names []).lookup y.1).isSome = true) := fun ⟨n,v⟩ hy => by
  rcases S.par n (List.of_mem_zip hy).1 with q | q
  ·exact .inl q
  ·exact .inr ⟨q,PySem.W.cellsFrom_some _ _ _ (.inl q)⟩
 refine codeAny_call_function hr.depth (KX _ _ lk) rfl S.co S.gen rfl (PySem.W.codeRec_of KX hcd) (hb _ _ _ _ ?_)
 refine wpAny_newFunctionEnv_cells S.kind hkind fun env he s1 x => ?_
 subst he
 refine ⟨lim.keeps x.toInCall.keep,codeAny_func ?_⟩
 obtain ⟨t,ht,hq⟩ := hbody A outer s H vs Q E (hr.deeper _) hsp
 have I : Inv (zlu CX P w K mg base N qual scope f cdv A outer s H E) [] (start N vs) H s1 := znc S hr.hd e0 hl r x
 refine wpAny_mono (ht [] s1 (start N vs) H _ I hq) (fun fl s' hs => ?_) fun e s' hs => hs
 have fin : ∀ {σ' : St} {H' : Hp} {v : V} {u : Value},Inv (zlu CX P w K mg base N qual scope f cdv A outer s H E) [] σ' H' s' -> RelV v u -> Q v H' -> CE outer P w H s Q u s' :=
  fun {σ' H' v u} J rv q => ⟨v,H',J.os,J.bare,J.base,J.hok,rv,q⟩
 cases fl with
 | ret u =>
  obtain ⟨v,σ',H',J,rv,q⟩ := hs
  exact fin J rv q
 | next =>
  obtain ⟨σ',H',J,q⟩ := hs
  exact fin (v := V.non) (u := Value.none) J rfl q
 | brk =>
  obtain ⟨_,_,_,q⟩ := hs
  exact False.elim q
 | cont =>
  obtain ⟨_,_,_,q⟩ := hs
  exact False.elim q
section
variable {X : Cx} {x : Str} {p pos : Pos} {e : Expr} {es : List Expr} {t : TA} {id T : String} {r : List V -> Hp -> VK -> Prop}
def tCB (r : List V -> Hp -> VK -> Prop) (t : TA) : TE := fun σ H Q => t σ H fun vs H1 => r vs H1 Q
theorem zj5 (hc : CallR X (.builtin id) r) (hg : Gl X x) (hm : X.mg x = none) (hv : bootBuiltins x = some (.builtin id)) (ha : PA X (e :: es) t) (hn : autoParam (x ≠ "__name__") AutoP.a1._auto_1) (hdb : autoParam ((x == ("__debug__" : Str)) = false) AutoP.a1._auto_1)
  (he : autoParam (starEach (e :: es) X.env = (false,eval e X.env) :: starEach es X.env) AutoP.a3._auto_1) (hpl : autoParam ((backTo pos (starEach es X.env)).any (·.1) = false) AutoP.a3._auto_1) : PE X (.Call (.Name x p) (e :: es) [] pos) (tCB r t) := by
 intro pins s σ H Q I h
 refine wpAny_Call_Name_kw (zdT I hg hm hv ?_ hn hdb)
 exact PyProof.Rows.callWith_builtin1 (thn (ha pos pins s σ H _ I h) fun us s1 ⟨vs,H1,I1,r1,q1⟩ => hc pins s1 σ H1 vs us Q I1 r1 q1) he hpl
theorem zfq (hc : CallR X (.type T) r) (hg : Gl X x) (hm : X.mg x = none) (hv : bootBuiltins x = some (.type T)) (ha : PA X (e :: es) t) (hn : autoParam (x ≠ "__name__") AutoP.a1._auto_1) (hdb : autoParam ((x == ("__debug__" : Str)) = false) AutoP.a1._auto_1)
  (he : autoParam (starEach (e :: es) X.env = (false,eval e X.env) :: starEach es X.env) AutoP.a3._auto_1) (hpl : autoParam ((backTo pos (starEach es X.env)).any (·.1) = false) AutoP.a3._auto_1) : PE X (.Call (.Name x p) (e :: es) [] pos) (tCB r t) := by
 intro pins s σ H Q I h
 refine wpAny_Call_Name_kw (zdT I hg hm hv ?_ hn hdb)
 exact PyProof.Rows.callWith_type1 (thn (ha pos pins s σ H _ I h) fun us s1 ⟨vs,H1,I1,r1,q1⟩ => hc pins s1 σ H1 vs us Q I1 r1 q1) he hpl
end
end L2
namespace HT
open PySem PyProof.Rows
section
open PySem.SeqAt
open PySem.AutoSeq1 (wpAny_loadPart')
open PySem.MeetsSeq PySem.MeetsSeq2 PySem.MeetsSeq3
end
section
variable {prog : Program} {w : World} {A : Around} {E : Value -> Shared -> Prop} {s : Shared}
theorem cat_tup {t b : Addr} {vs ws : List Value} {Q : Value -> Shared -> Prop} (ht : IsTup s.heap t vs.toArray) (hb : IsTup s.heap b ws.toArray) (hv : vs ≠ [])
  (h1 : ws = [] -> Q (.ref t) s) (h2 : ws ≠ [] -> Q (.ref s.heap.objs.size) { s with heap := s.heap.push { cls := .type "tuple", data := .seq (vs ++ ws).toArray } })
  (hsz : vs.length + ws.length <= sizeLine) : wpAny (model prog w) A (binaryOp .Add (.ref t) (.ref b)) Q E s := by
 obtain ⟨⟨cls,dd,data,sl⟩,ho,hc,n,hd⟩ := id ht
 obtain ⟨⟨cls2,dd2,data2,sl2⟩,ho2,hc2,n2,hd2⟩ := id hb
 simp only at hc hd hc2 hd2
 subst hc hd hc2 hd2
 have e : vs.toArray ++ ws.toArray = (vs ++ ws).toArray := by simp
 by_cases hw : ws = []
 ·exact concat_meets ⟨_,ho,rfl⟩ ⟨_,ho2,rfl⟩ noFill_tuple_add seq_tuple_add PySem.F.slot_tuple_add PySem.F.entry_tuple_add (PySem.F.args_tuple_add_2 _ _)
   (tuple_addW1 t b vs.toArray ws.toArray n n2 dd dd2 sl sl2 (by simpa using hv) (by simp [hw])) ⟨ho,ho2,h1 hw⟩
 ·refine concat_meets ⟨_,ho,rfl⟩ ⟨_,ho2,rfl⟩ noFill_tuple_add seq_tuple_add PySem.F.slot_tuple_add PySem.F.entry_tuple_add (PySem.F.args_tuple_add_2 _ _)
   (tuple_addW2 t b vs.toArray ws.toArray n n2 dd dd2 sl sl2 (by simpa using hv) (by simpa using hw) (by rw [List.size_toArray,List.size_toArray]; exact hsz)) ⟨ho,ho2,?_⟩
  rw [e]
  exact h2 hw
def sIx (n d : Nat) : Option Int -> Nat
 | none => d
 | some v => if v < 0 then (v + (n : Int)).toNat else min v.toNat n
theorem sIx_none (n d : Nat) : sIx n d none = d := rfl
theorem sIx_nat (n d k : Nat) : sIx n d (some (k : Int)) = min k n := by
 show (if (k : Int) < 0 then ((k : Int) + (n : Int)).toNat else min (k : Int).toNat n) = min k n
 rw [if_neg (by omega),Int.toNat_natCast]
theorem sIx_le (n d : Nat) (hd : d <= n) (o : Option Int) : sIx n d o <= n := by
 cases o with
 | none => exact hd
 | some v =>
  show (if v < 0 then (v + (n : Int)).toNat else min v.toNat n) <= n
  by_cases hv : v < 0
  ·rw [if_pos hv]; omega
  ·rw [if_neg hv]; exact Nat.min_le_right _ _
theorem znH (v : Int) (n d : Nat) : (if v < 0 then max (v + (n : Int)) 0 else min v (n : Int)) = ((sIx n d (some v) : Nat) : Int) := by
 show (if v < 0 then max (v + (n : Int)) 0 else min v (n : Int)) = (((if v < 0 then (v + (n : Int)).toNat else min v.toNat n) : Nat) : Int)
 by_cases hv : v < 0
 ·simp only [if_pos hv]; omega
 ·simp only [if_neg hv]; omega
theorem zlp (lo hi : Option Int) (n : Nat) : Builtin.Slice.sliceAdjust lo hi 1 (n : Int) = (((sIx n 0 lo : Nat) : Int),((sIx n n hi : Nat) : Int)) := by
 have h1 : ¬ ((1 : Int) < 0) := by omega
 unfold Builtin.Slice.sliceAdjust
 simp only [h1,if_false]
 refine Prod.ext ?_ ?_
 ·cases lo with
  | none => rfl
  | some v => exact znH v n 0
 ·cases hi with
  | none => rfl
  | some v => exact znH v n n
theorem zkT (i j : Nat) : Builtin.Slice.slicePlaces (i : Int) (j : Int) 1 = j - i := by
 unfold Builtin.Slice.slicePlaces
 have h1 : (1 : Int) > 0 := by omega
 simp only [h1,if_true,Int.ediv_one]
 split <;> omega
theorem zgj {v : Value} {o : Option Int} {Q : Option Int -> Shared -> Prop} (p : IsPart v o) (h : Q o s) : wpAny (model prog w) A (Builtin.Slice.slicePartIndex v) Q E s := by
 cases p with
 | none => exact slicePart_none h
 | int i t => exact slicePart_int h
theorem zeM {sl : Addr} {vl vu : Value} {lo hi : Option Int} {n : Nat} {Q : Int × Int × Nat -> Shared -> Prop} (hs : s.heap.IsSliceOf sl vl vu .none) (pl : IsPart vl lo) (pu : IsPart vu hi)
  (h : Q (((sIx n 0 lo : Nat) : Int),1,sIx n n hi - sIx n 0 lo) s) : wpAny (model prog w) A (Builtin.Slice.sliceApplied (.ref sl) (pure (n : Int))) Q E s := by
 obtain ⟨os,hos,hcs,hds⟩ := id hs
 unfold Builtin.Slice.sliceApplied Builtin.Slice.sliceFields
 refine wpAny_bind (wpAny_bind (wpAny_field hos hds (x := vl) rfl (wpAny_bind (wpAny_field hos hds (x := vu) rfl (wpAny_bind (wpAny_field hos hds (x := .none) rfl (wpAny_pure ?_)))))))
 refine wpAny_bind (slicePart_none ?_)
 show wpAny _ _ (if ((1 : Int) == 0) = true then _ else _) _ _ s
 rw [if_neg (by decide)]
 refine wpAny_bind (zgj pl (wpAny_bind (zgj pu (wpAny_bind (wpAny_pure ?_)))))
 show wpAny _ _ (match Builtin.Slice.sliceAdjust lo hi 1 (n : Int) with | (lo,hi) => pure (lo,(1 : Int),Builtin.Slice.slicePlaces lo hi 1)) _ _ s
 rw [zlp lo hi n]
 show wpAny _ _ (pure (((sIx n 0 lo : Nat) : Int),(1 : Int),Builtin.Slice.slicePlaces ((sIx n 0 lo : Nat) : Int) ((sIx n n hi : Nat) : Int) 1)) _ _ s
 rw [zkT]
 exact wpAny_pure h
theorem zol (xs : Array Value) (i k : Nat) : ((List.range k).filterMap fun (m : Nat) => xs[((i : Int) + (m : Int) * 1).toNat]?).toArray = ((xs.toList.drop i).take k).toArray := by
 have e : (fun (m : Nat) => xs[((i : Int) + (m : Int) * 1).toNat]?) = fun m => xs[i + m]? := by
  funext m
  have : ((i : Int) + (m : Int) * 1).toNat = i + m := by omega
  rw [this]
 rw [e]
 have := pick_run xs i k
 rw [List.filterMap_map] at this
 have e2 : ((fun x => xs[x]?) ∘ fun x => i + x) = fun m => xs[i + m]? := rfl
 rw [e2] at this
 rw [this]
theorem getItem_tuple_cut {t sl : Addr} {items : Array Value} {vl vu : Value} {lo hi : Option Int} {Q : Value -> Shared -> Prop} (ht : IsTup s.heap t items) (hs : s.heap.IsSliceOf sl vl vu .none) (pl : IsPart vl lo) (pu : IsPart vu hi)
  (hw : ¬ (sIx items.size 0 lo = 0 /\ sIx items.size items.size hi = items.size))
  (h : Q (.ref s.heap.objs.size) { s with heap := s.heap.push { cls := .type "tuple", data := .seq ((items.toList.drop (sIx items.size 0 lo)).take (sIx items.size items.size hi - sIx items.size 0 lo)).toArray } })
  (hsz : items.size <= sizeLine) : wpAny (model prog w) A (getItem (.ref t) (.ref sl)) Q E s := by
 have htake : sizeOk (.seq ((items.toList.drop (sIx items.size 0 lo)).take (sIx items.size items.size hi - sIx items.size 0 lo)).toArray) := by
  show ((items.toList.drop (sIx items.size 0 lo)).take (sIx items.size items.size hi - sIx items.size 0 lo)).toArray.size <= sizeLine
  rw [List.size_toArray,List.length_take,List.length_drop,Array.length_toList]
  omega
 have hj : sIx items.size items.size hi <= items.size := sIx_le _ _ (Nat.le_refl _) hi
 obtain ⟨os,hos,hcs,hds⟩ := id hs
 have hTs : s.TypeIs (.ref sl) "slice" := ⟨os,hos,hcs⟩
 unfold getItem
 try with_reducible refine wpAny_holding ?_
 first | refine wpAny_bind (wpAny_pure ?_) | skip
 refine wpAny_bind (wpAny_sequenceKey ht.typeIs (by decide) ?_)
 refine wpAny_bind (wpAny_callSpecial?_slot (name := Str.ofString "__getitem__") ht.typeIs PyProof.Rows.slot_tuple_getitem
  (wpAny_call_entry PyProof.Rows.slot_tuple_getitem ht.typeIs entry_tuple_getitem ?_ (args_tuple_getitem _ _)))
 show wpAny _ _ (Builtin.Tuple.tupleItemsOf (.ref t) >>= _) _ _ s
 refine wpAny_bind (tupleItemsOf_ ht ?_)
 refine wpAny_bind (wpAny_typeOf hTs ?_)
 rw [if_pos (by decide)]
 refine wpAny_bind (zeM hs pl pu ?_)
 have hno : ¬ ((((sIx items.size 0 lo : Nat) : Int) == 0 && (1 : Int) == 1 && (sIx items.size items.size hi - sIx items.size 0 lo) == items.size) = true) := by
  intro q
  rw [Bool.and_eq_true,Bool.and_eq_true] at q
  have q1 : ((sIx items.size 0 lo : Nat) : Int) = 0 := eq_of_beq q.1.1
  have q2 : sIx items.size items.size hi - sIx items.size 0 lo = items.size := eq_of_beq q.2
  exact hw ⟨by omega,by omega⟩
 show wpAny _ _ (if (((sIx items.size 0 lo : Nat) : Int) == 0 && (1 : Int) == 1 && (sIx items.size items.size hi - sIx items.size 0 lo) == items.size) = true then _ else _) _ _ s
 rw [if_neg hno,zol]
 first
  | exact wpAny_bind (m := Builtin.Tuple.tupleExact _) (wpAny_newObj_type (wpAny_pure ⟨_,rfl,wpAny_pure h⟩) htake)
  | exact wpAny_bind (m := Builtin.Tuple.tupleExact _) (wpAny_newObj_type (wpAny_bind (wpAny_pure (wpAny_pure ⟨_,rfl,wpAny_pure h⟩))) htake)
  | exact wpAny_bind (wpAny_bind (m := Builtin.Tuple.tupleExact _) (wpAny_newObj_type (wpAny_pure (wpAny_pure ⟨_,rfl,wpAny_pure h⟩)) htake))
  | exact wpAny_bind (wpAny_bind (m := Builtin.Tuple.tupleExact _) (wpAny_newObj_type (wpAny_pure ⟨_,rfl,wpAny_pure h⟩) htake))
end
end HT
namespace L2
open PySem PySem.Spec PyProof.Rows
abbrev TO := St -> Hp -> (Option Int -> Hp -> Prop) -> Prop
def PO (X : Cx) (e : Option Expr) (t : TO) : Prop :=
 ∀ (pins : List (Addr × Obj)) (s : Shared) (σ : St) (H : Hp) (Q : Option Int -> Hp -> Prop),Inv X pins σ H s -> t σ H Q →
  wpAny (model X.prog X.w) X.A (evalPart e X.env) (fun u s' => ∃ o H',Inv X pins σ H' s' /\ IsPart u o /\ Q o H') X.xe s
def zpG : TO := fun _ H Q => Q none H
def tPart (t : TE) : TO := fun σ H Q => t σ H fun x H1 => ∃ i,x = .int i /\ Q (some i) H1
section
variable {X : Cx} {e : Expr} {te : TE} {lo hi : Option Expr} {tl th : TO} {pos p2 : Pos}
theorem zqj : PO X none zpG := by
 intro pins s σ H Q I h
 rw [evalPart_none]
 exact wpAny_pure ⟨none,H,I,.none,h⟩
theorem zqi (h : PE X e te) : PO X (some e) (tPart te) := by
 intro pins s σ H Q I hw
 rw [evalPart_some]
 refine thn (h pins s σ H _ I hw) fun u s1 ⟨x,H1,I1,r1,q1⟩ => ?_
 obtain ⟨i,rfl,q⟩ := q1
 obtain ⟨t,rfl⟩ := r1
 exact ⟨some i,H1,I1,.int i t,q⟩
def SlR (X : Cx) (r : V -> Option Int -> Option Int -> Hp -> VK -> Prop) : Prop :=
 ∀ (pins : List (Addr × Obj)) (s : Shared) (σ : St) (H : Hp) (x : V) (v vl vu : Value) (lo hi : Option Int) (sl : Addr) (Q : VK),Inv X pins σ H s -> RelV x v -> s.heap.IsSliceOf sl vl vu .none -> IsPart vl lo -> IsPart vu hi -> r x lo hi H Q →
  ∃ T id,typeLookup (.type T) "__getitem__" = pure (some (.builtin id)) /\ s.TypeIs v T /\ wpAny (model X.prog X.w) X.A (getItem v (.ref sl)) (EP X pins σ Q) X.xe s
theorem SlR.or {r r' : V -> Option Int -> Option Int -> Hp -> VK -> Prop} (h : SlR X r) (h' : SlR X r') : SlR X (fun x lo hi H Q => r x lo hi H Q ∨ r' x lo hi H Q) := by
 intro pins s σ H x v vl vu lo hi sl Q I rx hs pl pu q
 rcases q with q | q
 ·exact h pins s σ H x v vl vu lo hi sl Q I rx hs pl pu q
 ·exact h' pins s σ H x v vl vu lo hi sl Q I rx hs pl pu q
def tSl (r : V -> Option Int -> Option Int -> Hp -> VK -> Prop) (te : TE) (tl th : TO) : TE := fun σ H Q => te σ H fun x H1 => tl σ H1 fun l H2 => th σ H2 fun u H3 => r x l u H3 Q
theorem zon {r : V -> Option Int -> Option Int -> Hp -> VK -> Prop} (hr : SlR X r) (he : PE X e te) (hl : PO X lo tl) (hu : PO X hi th) : PE X (.Subscript e (.Slice lo hi none p2) pos) (tSl r te tl th) := by
 intro pins s σ H Q I h
 refine Subscript_ (thn (he pins s σ H _ I h) fun v s1 ⟨x,H1,I1,r1,q1⟩ => ?_)
 refine wpAny_Slice (thn (hl pins s1 σ H1 _ I1 q1) fun vl s2 ⟨l,H2,I2,pl,q2⟩ => thn (hu pins s2 σ H2 _ I2 q2) fun vu s3 ⟨u,H3,I3,pu,q3⟩ => ?_)
 rw [evalPart_none]
 refine wpAny_pure ?_
 have I4 : Inv X pins σ H3 { s3 with heap := s3.heap.push { cls := .type "slice", data := .fields #[vl,vu,.none] } } := I3.kept (t' := s3.toks) fun b ob q => Heap.get?_push_of_some _ q
 obtain ⟨T,id,hT,ht,hg⟩ := hr pins { s3 with heap := s3.heap.push { cls := .type "slice", data := .fields #[vl,vu,.none] } } σ H3 x v vl vu l u s3.heap.objs.size Q I4 r1 (Heap.IsSliceOf.new ..) pl pu q3
 show wpAny (model X.prog X.w) X.A (subscriptTail e (.Slice lo hi none p2) v (.ref s3.heap.objs.size)) (EP X pins σ Q) X.xe { s3 with heap := s3.heap.push { cls := .type "slice", data := .fields #[vl,vu,.none] } }
 exact tail_any (ops := [.ref s3.heap.objs.size,v]) ht hT hg (by with_unfolding_all rfl)
def zpx (xs : List V) (lo hi : Option Int) : List V := (xs.drop (HT.sIx xs.length 0 lo)).take (HT.sIx xs.length xs.length hi - HT.sIx xs.length 0 lo)
theorem zfT (xs : List V) (lo hi : Option Int) : (zpx xs lo hi).length <= xs.length := by
 unfold zpx
 rw [List.length_take,List.length_drop]
 omega
def rSlT (K : PySem.W.Frag) : V -> Option Int -> Option Int -> Hp -> VK -> Prop := fun x lo hi H Q => ∃ a xs,x = .ref a /\ SqT K H a xs ∧
 ¬ (HT.sIx xs.length 0 lo = 0 /\ HT.sIx xs.length xs.length hi = xs.length) /\ ∀ p,H p = none -> Q (.ref p) (upd H p (.tup (zpx xs lo hi)))
theorem sl_tup : SlR X (rSlT X.K) := by
 intro pins s σ H x v vl vu lo hi sl Q I rx hs pl pu h
 obtain ⟨a,xs,rfl,hx,hw,q⟩ := h
 cases rx
 obtain ⟨its,r,ht,hz⟩ := I.tuple hx
 have hlen : its.toArray.size = xs.length := by rw [List.size_toArray]; exact r.length.symm
 refine ⟨"tuple", _,PyProof.Rows.slot_tuple_getitem.lookup,ht.typeIs,?_⟩
 refine HT.getItem_tuple_cut ht hs pl pu (by rw [hlen]; exact hw) ?_ (by rw [hlen]; exact hz)
 rw [hlen]
 refine ⟨.ref s.heap.objs.size,_,I.laid (t' := s.toks) (o := .tup (zpx xs lo hi)) (fun b ob q => Heap.get?_push_of_some _ q) (Nat.le_refl _) ?_,rfl,q _ (I.hok.fresh (Nat.le_refl _))⟩
 exact ⟨Nat.le_trans (zfT xs lo hi) hz,_,(r.drop (HT.sIx xs.length 0 lo)).take (HT.sIx xs.length xs.length hi - HT.sIx xs.length 0 lo),IsTup.new _ _,_,Heap.get?_push_size _ rfl,rfl⟩
def rCatT (K : PySem.W.Frag) : R2 := fun x y H Q => ∃ a b xs ys,x = .ref a /\ y = .ref b /\ SqT K H a xs /\ SqT K H b ys /\ xs ≠ [] /\ xs.length + ys.length <= sizeLine ∧
 (ys = [] -> Q (.ref a) H) /\ (ys ≠ [] -> ∀ p,H p = none -> Q (.ref p) (upd H p (.tup (xs ++ ys))))
theorem Vals.nil_iff {xs : List V} {us : List Value} (r : Vals xs us) : us = [] ↔ xs = [] := by
 cases r with
 | nil => simp
 | cons _ _ => simp
theorem zqH : OpR X (binaryOp .Add) (rCatT X.K) := by
 intro pins s σ H x y v u Q I rx ry h
 obtain ⟨a,b,xs,ys,rfl,rfl,ha,hb,hx,hz,q1,q2⟩ := h
 cases rx
 cases ry
 obtain ⟨its,r1,p1,_⟩ := I.tuple ha
 obtain ⟨its2,r2,p2,_⟩ := I.tuple hb
 refine HT.cat_tup p1 p2 (fun z => hx (r1.nil_iff.mp z)) (fun z => ⟨.ref a,H,I,rfl,q1 (r2.nil_iff.mp z)⟩) (fun z => ?_) (by rw [<- r1.length,<- r2.length]; exact hz)
 refine ⟨.ref s.heap.objs.size,_,I.laid (t' := s.toks) (o := .tup (xs ++ ys)) (fun b ob q => Heap.get?_push_of_some _ q) (Nat.le_refl _) ?_,rfl,q2 (fun w => z (r2.nil_iff.mpr w)) _ (I.hok.fresh (Nat.le_refl _))⟩
 exact ⟨by rw [List.length_append]; exact hz,_,r1.append r2,IsTup.new _ _,_,Heap.get?_push_size _ rfl,rfl⟩
end
def ixN (n : Nat) (i : Int) : Option Nat := if 0 <= i then (if i < n then some i.toNat else none) else if -(n : Int) <= i then some (i + n).toNat else none
def atI {α : Type} (xs : List α) (i : Int) : Option α := (ixN xs.length i).bind fun j => xs[j]?
theorem zm8 {n : Nat} {i : Int} {j : Nat} (h : ixN n i = some j) : seqIndex? i n = some j /\ j < n /\ -(n : Int) <= i /\ i < n := by
 unfold ixN at h
 by_cases h0 : 0 <= i
 ·rw [if_pos h0] at h
  by_cases h1 : i < n
  ·rw [if_pos h1] at h
   have e : i.toNat = j := Option.some.inj h
   exact ⟨by rw [seqIndex_of h0 h1,e],by omega,by omega,h1⟩
  ·rw [if_neg h1] at h; cases h
 ·rw [if_neg h0] at h
  by_cases h1 : -(n : Int) <= i
  ·rw [if_pos h1] at h
   have e : (i + n).toNat = j := Option.some.inj h
   exact ⟨by rw [seqIndex_neg (by omega) h1,e],by omega,h1,by omega⟩
  ·rw [if_neg h1] at h; cases h
theorem zjz {α : Type} {xs : List α} {i : Int} {v : α} (h : atI xs i = some v) : ∃ j,seqIndex? i xs.length = some j /\ xs[j]? = some v /\ j < xs.length /\ -(xs.length : Int) <= i /\ i < xs.length := by
 unfold atI at h
 cases e : ixN xs.length i with
 | none => rw [e] at h; cases h
 | some j =>
  rw [e] at h
  obtain ⟨h1,h2,h3,h4⟩ := zm8 e
  exact ⟨j,h1,h,h2,h3,h4⟩
def zjB (b : Expr) : Prop := ∀ o i,subscripted b false o i = operate [o,i] (getItem o i)
def IxR (X : Cx) (r : R2) : Prop :=
 ∀ (value slice : Expr) (pins : List (Addr × Obj)) (s : Shared) (σ : St) (H : Hp) (x y : V) (v u : Value) (Q : VK),Inv X pins σ H s -> RelV x v -> RelV y u -> r x y H Q →
  subscripted slice false v u = operate [v,u] (getItem v u) -> wpAny (model X.prog X.w) X.A (subscriptTail value slice v u) (EP X pins σ Q) X.xe s
def MtR (X : Cx) (id : String) (r : V -> List V -> Hp -> VK -> Prop) : Prop :=
 ∀ (pins : List (Addr × Obj)) (s : Shared) (σ : St) (H : Hp) (x : V) (xs : List V) (v : Value) (us : List Value) (Q : VK),Inv X pins σ H s -> RelV x v -> Vals xs us -> r x xs H Q →
  wpAny (model X.prog X.w) X.A (call (.builtin id) (v :: us)) (EP X pins σ Q) X.xe s
section
variable {X : Cx} {a b : Expr} {ta tb : TE} {pos : Pos}
theorem IxR.or {r r' : R2} (h : IxR X r) (h' : IxR X r') : IxR X (fun x y H Q => r x y H Q ∨ r' x y H Q) := by
 intro value slice pins s σ H x y v u Q I rx ry q hs
 rcases q with q | q
 ·exact h value slice pins s σ H x y v u Q I rx ry q hs
 ·exact h' value slice pins s σ H x y v u Q I rx ry q hs
theorem pe_ix {r : R2} (hr : IxR X r) (ha : PE X a ta) (hb : PE X b tb) (hs : zjB b) : PE X (.Subscript a b pos) (tOp r ta tb) := by
 intro pins s σ H Q I h
 exact Subscript_ (binT ha hb I h fun v u s2 x y H2 I2 rx ry q => hr a b pins s2 σ H2 x y v u Q I2 rx ry q (hs _ _))
def rIxL (K : PySem.W.Frag) : R2 := fun x y H Q => ∃ p xs i v,x = .ref p /\ y = .int i /\ SqL K H p xs /\ atI xs i = some v /\ Q v H
def rIxT (K : PySem.W.Frag) : R2 := fun x y H Q => ∃ p xs i v,x = .ref p /\ y = .int i /\ SqT K H p xs /\ atI xs i = some v /\ Q v H
def rIxS : R2 := fun x y H Q => ∃ z i c,x = .str z /\ y = .int i /\ z.length <= sizeLine /\ atI z.cps.toList i = some c /\ Q (.str ⟨#[c]⟩) H
theorem ix_list : IxR X (rIxL X.K) := by
 intro value slice pins s σ H x y v u Q I rx ry h hs
 obtain ⟨p,xs,i,z,rfl,rfl,hq,he,q⟩ := h
 cases rx
 obtain ⟨t,rfl⟩ := ry
 obtain ⟨its,r,pl,hz⟩ := I.list hq
 obtain ⟨j,h1,h2,h3,h4,h5⟩ := zjz he
 obtain ⟨w,ew,rw'⟩ := r.get h2
 have hl := r.length
 have hn := zgq
 have fin : EP X pins σ Q w s := ⟨z,H,I,rw',q⟩
 by_cases h0 : 0 <= i
 ·have hj : i.toNat = j := by
   rw [seqIndex_of h0 h5] at h1
   exact Option.some.inj h1
  exact item_listR pl.isList h0 (by omega) (by rw [hj]; simpa using ew) fin hs
 ·have hj : (i + (its.toArray.size : Int)).toNat = j := by
   rw [seqIndex_neg (by omega) h4] at h1
   rw [List.size_toArray,<- hl]
   exact Option.some.inj h1
  exact subscriptTail_builtinR (x := w) pl.isList.typeIs slot_list_getitem.lookup
   (wpAny_getItem_list_neg (Q := fun r s' => r = w /\ EP X pins σ Q r s') pl.isList (by omega) (by rw [List.size_toArray] <;> omega) (by omega) (by rw [hj]; simpa using ew) ⟨rfl,fin⟩) hs
theorem ix_tup : IxR X (rIxT X.K) := by
 intro value slice pins s σ H x y v u Q I rx ry h hs
 obtain ⟨p,xs,i,z,rfl,rfl,hq,he,q⟩ := h
 cases rx
 obtain ⟨t,rfl⟩ := ry
 obtain ⟨its,r,pl,hz⟩ := I.tuple hq
 obtain ⟨j,h1,h2,h3,h4,h5⟩ := zjz he
 obtain ⟨w,ew,rw'⟩ := r.get h2
 have hl := r.length
 have hn := zgq
 have fin : EP X pins σ Q w s := ⟨z,H,I,rw',q⟩
 exact subscriptTail_builtinR (x := w) pl.typeIs slot_tuple_getitem.lookup
  (getItem_tuple (j := j) (Q := fun r s' => r = w /\ EP X pins σ Q r s') pl (by omega) (by omega) (by rw [List.size_toArray,<- hl]; exact h1) (by simpa using ew) ⟨rfl,fin⟩) hs
theorem ix_str : IxR X rIxS := by
 intro value slice pins s σ H x y v u Q I rx ry h hs
 obtain ⟨z,i,c,rfl,rfl,hz,he,q⟩ := h
 obtain ⟨t,rfl⟩ := rx
 obtain ⟨t',rfl⟩ := ry
 obtain ⟨j,h1,h2,h3,h4,h5⟩ := zjz he
 have hl : z.cps.toList.length = z.length := by simp [Str.length]
 rw [hl] at h1 h4 h5
 have hn := zgq
 exact tail_any (typeIs_str s z t) slot_str_getitem.lookup (getItem_str (c := c) (by
  have e1 : decide (i < -(2 ^ 63 : Int)) = false := decide_eq_false (by omega)
  have e2 : decide (i ≥ 2 ^ 63) = false := decide_eq_false (by omega)
  rw [e1,e2,Bool.or_false]) (by rw [h1]; simpa using h2) ⟨.str ⟨#[c]⟩,H,I.tok _,⟨_,rfl⟩,q⟩) hs
def rIx (K : PySem.W.Frag) : R2 := fun x y H Q => rIxL K x y H Q ∨ rIxT K x y H Q ∨ rIxS x y H Q
theorem ix_seq : IxR X (rIx X.K) := ix_list.or (ix_tup.or ix_str)
theorem zla (its : List Value) (n j : Nat) (u : Value) : Obj.mapSeq (·.setIfInBounds j u) { cls := .type "list", data := .seq its.toArray n } = { cls := .type "list", data := .seq (its.set j u).toArray n } := by
 simp [Obj.mapSeq]
theorem Inv.lst {pins : List (Addr × Obj)} {σ : St} {H : Hp} {s : Shared} {p : Addr} {xs : List V} (I : Inv X pins σ H s) (h : H p = some (.lst xs)) :
  ∃ (its : List Value) (n : Nat),Vals xs its /\ s.heap.get? p = some { cls := .type "list", data := .seq its.toArray n } /\ xs.length <= sizeLine := by
 obtain ⟨z,its,n,r,e⟩ := I.hok p _ h
 exact ⟨its,n,r,e,z⟩
theorem Inv.lstUpd {pins : List (Addr × Obj)} {σ : St} {H : Hp} {s : Shared} {p : Addr} {xs ys : List V} {its its' : List Value} {n n' : Nat} {f : Obj -> Obj} (I : Inv X pins σ H s) (h : H p = some (.lst xs))
  (ho : s.heap.get? p = some { cls := .type "list", data := .seq its.toArray n }) (hf : f { cls := .type "list", data := .seq its.toArray n } = { cls := .type "list", data := .seq its'.toArray n' }) (r : Vals ys its') (hz : ys.length <= sizeLine) (t : Nat) :
  Inv X pins σ (upd H p (.lst ys)) { s with heap := s.heap.update p f,toks := t } := by
 have e : (s.heap.update p f).get? p = some { cls := .type "list", data := .seq its'.toArray n' } := by
  rw [Heap.get?_update_self f ho (by rw [hf] <;> rfl),hf]
 refine I.write (x := p) (e := p) (by rw [h]; trivial) (.inl rfl) (fun b u hb q => (Heap.get?_update_other _ _ (Ne.symm hb)).trans q) ⟨_,e⟩ ?_
 exact ⟨hz,its',n',r,e⟩
def rSetL : V -> V -> V -> Hp -> (Hp -> Prop) -> Prop := fun o i v H Q => ∃ p xs k j,o = .ref p /\ i = .int k /\ H p = some (.lst xs) /\ ixN xs.length k = some j /\ Q (upd H p (.lst (xs.set j v)))
theorem znZ : PSet X rSetL := by
 intro pins s σ H o i v ov iv u Q I ro ri rv h
 obtain ⟨p,xs,k,j,rfl,rfl,hp,hj,q⟩ := h
 cases ro
 obtain ⟨t,rfl⟩ := ri
 obtain ⟨its,n,r,ho,hz⟩ := I.lst hp
 obtain ⟨h1,h2,h3,h4⟩ := zm8 hj
 have hl := r.length
 have hn := zgq
 have I' : Inv X pins σ (upd H p (.lst (xs.set j v))) { s with heap := s.heap.update p (Obj.mapSeq (·.setIfInBounds j u)) } :=
  I.lstUpd hp ho (zla its n j u) (r.set rv j) (by rw [List.length_set]; exact hz) s.toks
 by_cases h0 : 0 <= k
 ·have hk : k.toNat = j := by
   rw [seqIndex_of h0 h4] at h1
   exact Option.some.inj h1
  exact PySem.W.ki_setAt ho h0 (by omega) (by rw [List.size_toArray,<- hl]; exact h4) (by rw [hk]; exact ⟨_,I',q⟩)
 ·have hk : (k + (its.toArray.size : Int)).toNat = j := by
   rw [seqIndex_neg (by omega) h3] at h1
   rw [List.size_toArray,<- hl]
   exact Option.some.inj h1
  exact PySem.W.ki_setBack ho (by omega) (by rw [List.size_toArray,<- hl]; exact h3) (by omega) (by rw [hk]; exact ⟨_,I',q⟩)
theorem zhC (lo hi : Option Int) (n : Nat) : (sliceBounds lo hi none n).1 = ((HT.sIx n 0 lo : Nat) : Int) /\ (sliceBounds lo hi none n).2.1 = ((HT.sIx n n hi : Nat) : Int) /\ (sliceBounds lo hi none n).2.2 = 1 := by
 refine ⟨?_,?_,rfl⟩
 ·cases lo with
  | none => simp [sliceBounds,HT.sIx]
  | some i =>
   simp only [sliceBounds,HT.sIx,Option.getD_none,show (1 : Int) > 0 by decide,if_true]
   by_cases h : i < 0
   ·simp only [h,if_true] <;> omega
   ·simp only [h,if_false] <;> omega
 ·cases hi with
  | none => simp [sliceBounds,HT.sIx]
  | some i =>
   simp only [sliceBounds,HT.sIx,Option.getD_none,show (1 : Int) > 0 by decide,if_true]
   by_cases h : i < 0
   ·simp only [h,if_true] <;> omega
   ·simp only [h,if_false] <;> omega
theorem zgP (its : List Value) (lo hi : Option Int) : slicePick its.toArray lo hi none = ((its.drop (HT.sIx its.length 0 lo)).take (HT.sIx its.length its.length hi - HT.sIx its.length 0 lo)).toArray := by
 obtain ⟨h1,h2,h3⟩ := zhC lo hi its.toArray.size
 unfold slicePick
 rw [h1,h2,h3]
 simp only [sliceRange_one,pick_run,List.size_toArray] <;> rfl
def rSlL (K : PySem.W.Frag) : V -> Option Int -> Option Int -> Hp -> VK -> Prop := fun x lo hi H Q => ∃ a xs,x = .ref a /\ SqL K H a xs /\ ∀ p,H p = none -> Q (.ref p) (upd H p (.lst (zpx xs lo hi)))
theorem zpP : SlR X (rSlL X.K) := by
 intro pins s σ H x v vl vu lo hi sl Q I rx hs pl pu h
 obtain ⟨a,xs,rfl,hx,q⟩ := h
 cases rx
 obtain ⟨its,r,ht,hz⟩ := I.list hx
 have hlen := r.length
 refine ⟨"list", _,slot_list_getitem.lookup,ht.isList.typeIs,?_⟩
 refine wpAny_getItem_list_slice ht.isList hs pl pu .none (by simp) ?_ (by rw [List.size_toArray] <;> omega)
 rw [zgP,<- hlen]
 refine ⟨.ref s.heap.objs.size,_,I.laid (t' := s.toks) (o := .lst (zpx xs lo hi)) (fun b ob q => Heap.get?_push_of_some _ q) (Nat.le_refl _) ?_,rfl,q _ (I.hok.fresh (Nat.le_refl _))⟩
 exact ⟨Nat.le_trans (zfT xs lo hi) hz,_,0,(r.drop (HT.sIx xs.length 0 lo)).take (HT.sIx xs.length xs.length hi - HT.sIx xs.length 0 lo),Heap.get?_push_size _ rfl⟩
def ziu : V -> Bool
 | .non => true
 | .bl _ => true
 | .int _ => true
 | .str _ => true
 | _ => false
def eqV : V -> V -> Bool
 | .non,.non => true
 | .bl a,.bl b => a == b
 | .bl a,.int b => (if a then 1 else 0) == b
 | .int a,.bl b => a == (if b then 1 else 0)
 | .int a,.int b => a == b
 | .str a,.str b => a == b
 | _,_ => false
theorem eqAt_V {A : Around} {s : Shared} {y x : V} {u v : Value} (ry : RelV y u) (rx : RelV x v) (fy : ziu y = true) (fx : ziu x = true) : SeqAt.EqAt A s u v (eqV y x) := by
 cases y with
 | non =>
  cases ry
  cases x with
  | non => cases rx; exact SeqAt.EqAt.same _
  | bl b => cases rx; exact SeqAt.EqAt.none_bool b
  | int b => obtain ⟨t,rfl⟩ := rx; exact SeqAt.EqAt.none_int b t
  | str b => obtain ⟨t,rfl⟩ := rx; exact SeqAt.EqAt.none_str b t
  | _ => exact absurd (show false = true from fx) Bool.false_ne_true
 | bl a =>
  cases ry
  cases x with
  | non => cases rx; exact SeqAt.EqAt.bool_none a
  | bl b => cases rx; exact SeqAt.EqAt.bool_bool a b
  | int b => obtain ⟨t,rfl⟩ := rx; exact SeqAt.EqAt.bool_int a b t
  | str b => obtain ⟨t,rfl⟩ := rx; exact SeqAt.EqAt.bool_str a b t
  | _ => exact absurd (show false = true from fx) Bool.false_ne_true
 | int a =>
  obtain ⟨t',rfl⟩ := ry
  cases x with
  | non => cases rx; exact SeqAt.EqAt.int_none a t'
  | bl b => cases rx; exact SeqAt.EqAt.int_bool a t' b
  | int b => obtain ⟨t,rfl⟩ := rx; exact SeqAt.EqAt.int_int a t' b t
  | str b => obtain ⟨t,rfl⟩ := rx; exact SeqAt.EqAt.int_str a t' b t
  | _ => exact absurd (show false = true from fx) Bool.false_ne_true
 | str a =>
  obtain ⟨t',rfl⟩ := ry
  cases x with
  | non => cases rx; exact SeqAt.EqAt.str_none a t'
  | bl b => cases rx; exact SeqAt.EqAt.str_bool a t' b
  | int b => obtain ⟨t,rfl⟩ := rx; exact SeqAt.EqAt.str_int a t' b t
  | str b => obtain ⟨t,rfl⟩ := rx; exact SeqAt.EqAt.str_str a t' b t
  | _ => exact absurd (show false = true from fx) Bool.false_ne_true
 | _ => exact absurd (show false = true from fy) Bool.false_ne_true
def eqU (x : V) (u : Value) : Bool := match u with
 | .none => eqV .non x
 | .bool b => eqV (.bl b) x
 | .int i _ => eqV (.int i) x
 | .str z _ => eqV (.str z) x
 | _ => false
theorem eqU_of {x y : V} {u : Value} (r : RelV y u) (f : ziu y = true) : eqU x u = eqV y x := by
 cases y with
 | non => cases r; rfl
 | bl b => cases r; rfl
 | int i => obtain ⟨t,rfl⟩ := r; rfl
 | str z => obtain ⟨t,rfl⟩ := r; rfl
 | _ => exact absurd (show false = true from f) Bool.false_ne_true
theorem zka {A : Around} {s : Shared} {x : V} {v : Value} (rx : RelV x v) (fx : ziu x = true) : ∀ {xs : List V} {us : List Value},Vals xs us -> xs.all ziu = true -> ∀ u ∈ us,SeqAt.EqAt A s u v (eqU x u)
 | _,_,.nil,_ => fun u hu => by cases hu
 | y :: xs,u :: us,.cons r t,f => fun u' hu => by
  rw [List.all_cons,Bool.and_eq_true] at f
  rcases List.mem_cons.mp hu with rfl | hu
  ·rw [eqU_of r f.1]; exact eqAt_V r rx f.1 fx
  ·exact zka rx fx t f.2 u' hu
theorem ziG : CallR X (.builtin "len") (fun xs H Q => ∃ p ys,xs = [.ref p] /\ (SqL X.K H p ys ∨ SqT X.K H p ys) /\ Q (.int ys.length) H) := by
 intro pins s σ H xs us Q I r h
 obtain ⟨p,ys,rfl,hq,q⟩ := h
 obtain ⟨u,rfl,rx⟩ := zb3 r
 cases rx
 have hn := zgq
 rcases hq with hq | hq
 ·obtain ⟨its,r',pl,hz⟩ := I.list hq
  have hlen := r'.length
  exact Calls.call_len_list pl.isList (by simp only [List.size_toArray] <;> omega) ⟨.int ys.length,H,I.tok _,⟨s.toks + 1,by rw [List.size_toArray,hlen]⟩,q⟩
 ·obtain ⟨its,r',pl,hz⟩ := I.tuple hq
  have hlen := r'.length
  exact len_tuple pl (by simp only [List.size_toArray] <;> omega) ⟨.int ys.length,H,I.tok _,⟨s.toks + 1,by rw [List.size_toArray,hlen]⟩,q⟩
theorem ziF : CallR X (.builtin "len") (fun xs H Q => ∃ z,xs = [.str z] /\ z.length <= sizeLine /\ Q (.int z.length) H) := by
 intro pins s σ H xs us Q I r h
 obtain ⟨z,rfl,hz,q⟩ := h
 obtain ⟨u,rfl,t,rfl⟩ := zb3 r
 have hn := zgq
 exact len_str (by omega) ⟨.int z.length,H,I.tok _,⟨_,rfl⟩,q⟩
theorem CallR.or {f : Value} {r r' : List V -> Hp -> VK -> Prop} (h : CallR X f r) (h' : CallR X f r') : CallR X f (fun xs H Q => r xs H Q ∨ r' xs H Q) := by
 intro pins s σ H xs us Q I rs q
 rcases q with q | q
 ·exact h pins s σ H xs us Q I rs q
 ·exact h' pins s σ H xs us Q I rs q
theorem zhs : CallR X (.type "tuple") (fun xs H Q => ∃ p ys,xs = [.ref p] /\ ((SqL X.K H p ys /\ ∀ l,H l = none -> Q (.ref l) (upd H l (.tup ys))) ∨ (SqT X.K H p ys /\ Q (.ref p) H))) := by
 intro pins s σ H xs us Q I r h
 obtain ⟨p,ys,rfl,h⟩ := h
 obtain ⟨u,rfl,rx⟩ := zb3 r
 cases rx
 rcases h with ⟨hq,q⟩ | ⟨hq,q⟩
 ·obtain ⟨its,r',pl,hz⟩ := I.list hq
  have hlen := r'.length
  refine call_tuple_list pl.isList (fun h' kp => ?_) (by simp only [List.size_toArray] <;> omega)
  have I1 : Inv X pins σ H { s with heap := h' } := I.kept (t' := s.toks) kp
  have I2 : Inv X pins σ (upd H h'.objs.size (.tup ys)) { s with heap := h'.push { cls := .type "tuple", data := .seq its.toArray } } :=
   I1.laid (t' := s.toks) (fun b o e => Heap.get?_push_of_some _ e) (Nat.le_refl _) (show ObjOk X.prog X.w _ _ _ (.tup ys) from ⟨hz,its,r',IsTup.new _ _,_,Heap.get?_push_size _ rfl,rfl⟩)
  exact ⟨.ref h'.objs.size,_,I2,rfl,q _ (I1.hok.fresh (Nat.le_refl _))⟩
 ·obtain ⟨its,r',pl,hz⟩ := I.tuple hq
  exact call_tuple_same pl ⟨.ref p,H,I,rfl,q⟩
def tyV (K : PySem.W.Frag) (T : String) (x : V) (H : Hp) : Prop := match x with
 | .str _ => T = "str"
 | .int _ => T = "int"
 | .ref p => (T = "list" /\ ∃ xs,SqL K H p xs) ∨ (T = "tuple" /\ ∃ o,K.lookup p = some o /\ o.cls = .type "tuple" /\ o.dict = none) ∨
   (T = "dict" /\ ((∃ kvs,H p = some (.dK kvs)) ∨ ∃ kvs,H p = some (.dT kvs))) ∨ (T = "set" /\ ∃ S n,H p = some (.set S n))
 | _ => False
theorem tyV_is {pins : List (Addr × Obj)} {σ : St} {H : Hp} {s : Shared} {T : String} {x : V} {v : Value} (I : Inv X pins σ H s) (r : RelV x v) (ty : tyV X.K T x H) :
  s.TypeIs v T /\ ∀ a,v = .ref a -> ∃ ob,s.heap.get? a = some ob /\ ob.dict = none := by
 cases x with
 | str z =>
  obtain ⟨t,rfl⟩ := r
  cases (show T = "str" from ty)
  exact ⟨typeIs_str s z t,fun _ e => nomatch e⟩
 | int i =>
  obtain ⟨t,rfl⟩ := r
  cases (show T = "int" from ty)
  exact ⟨typeIs_int s i t,fun _ e => nomatch e⟩
 | ref p =>
  cases r
  rcases ty with ⟨rfl,xs,hq⟩ | ⟨rfl,o,hk,hc,hd⟩ | ⟨rfl,hk⟩ | ⟨rfl,S,n,hk⟩
  ·obtain ⟨its,_,pl,_⟩ := I.list hq
   refine ⟨pl.isList.typeIs,fun a e => ?_⟩
   cases e
   obtain ⟨o,n,e,c,hd,_⟩ := pl
   exact ⟨o,e,hd⟩
  ·refine ⟨⟨o,I.kIn p o hk,hc⟩,fun a e => ?_⟩
   cases e
   exact ⟨o,I.kIn _ o hk,hd⟩
  ·have z : ∃ o,s.heap.get? p = some o /\ o.ExactDict := by
    rcases hk with ⟨kvs,hk⟩ | ⟨kvs,hk⟩
    ·obtain ⟨_,_,_,_,o,_,_,e,ex,_⟩ := I.hok p _ hk
     exact ⟨o,e,ex⟩
    ·obtain ⟨_,_,_,_,o,_,_,e,ex,_⟩ := I.hok p _ hk
     exact ⟨o,e,ex⟩
   obtain ⟨o,e,ex⟩ := z
   refine ⟨⟨o,e,ex.1⟩,fun a e2 => ?_⟩
   cases e2
   exact ⟨o,e,ex.2.1⟩
  ·obtain ⟨o,_,_,_,e,ex,_⟩ := I.hok p _ hk
   refine ⟨⟨o,e,ex.1⟩,fun a e2 => ?_⟩
   cases e2
   exact ⟨o,e,ex.2.1⟩
 | _ => exact False.elim ty
def tBM (K : PySem.W.Frag) (T : String) (r : V -> List V -> Hp -> VK -> Prop) (to : TE) (t : TA) : TE := fun σ H Q => to σ H fun x H1 => tyV K T x H1 /\ t σ H1 fun xs H2 => r x xs H2 Q
variable {o e : Expr} {es : List Expr} {to : TE} {t : TA} {name : Str} {apos cpos : Pos} {T id : String} {r : V -> List V -> Hp -> VK -> Prop}
theorem pe_bm (pa : PlainAttrs T) (slot : Slot T name id) (hty : typeOf (.builtin id) = pure (.type "method_descriptor")) (hm : MtR X id r) (ho : PE X o to) (ha : PA X (e :: es) t)
  (hbase : autoParam (attributeBase o name X.env (eval o X.env) = eval o X.env) AutoP.a3._auto_1)
  (hfew : autoParam (((backTo cpos (starEach (e :: es) X.env)).all (fun x => !x.1) && (backToKw cpos (keywordEach [] X.env)).all (fun x => x.1.isSome)
   && decide ((e :: es).length + ([] : List Keyword).length + (if ([] : List Keyword).isEmpty then 0 else 1) < 30)) = true) AutoP.a3._auto_1)
  (hline : autoParam ((apos.endLine == cpos.line) = true) AutoP.a3._auto_1) (hs : autoParam (starEach (e :: es) X.env = (false,eval e X.env) :: starEach es X.env) AutoP.a3._auto_1) (hplain : autoParam ((backTo cpos (starEach es X.env)).any (·.1) = false) AutoP.a3._auto_1) :
  PE X (.Call (.Attribute o name apos) (e :: es) [] cpos) (tBM X.K T r to t) := by
 intro pins s σ H Q I h
 refine wpAny_Call_method_late hbase hfew hline rfl (thn (ho pins s σ H _ I h) fun v s1 ⟨x,H1,I1,r1,ty,q1⟩ => ?_)
 obtain ⟨h1,h2⟩ := tyV_is I1 r1 ty
 refine ⟨T,id,pa,slot,hty,h1,h2,?_⟩
 have hA := ha cpos pins s1 σ H1 _ I1 q1
 rw [hs] at hA ⊢
 refine Calls.callWith_builtin (by show (false || (backTo cpos (starEach es X.env)).any (·.1)) = false; rw [hplain] <;> rfl) (Calls.evalArgs_plain ?_)
 exact thn hA fun us s2 ⟨vs,H2,I2,r2,q2⟩ => hm pins s2 σ H2 x vs v us Q I2 r1 r2 q2
end
def MtM (X : Cx) (id : String) (r : V -> List V -> Hp -> VK -> Prop) : Prop :=
 ∀ (pins : List (Addr × Obj)) (s : Shared) (σ : St) (H : Hp) (x : V) (xs : List V) (v : Value) (us : List Value) (Q : VK),Inv X pins σ H s -> RelV x v -> Vals xs us -> r x xs H Q →
  wpAny (model X.prog X.w) X.A (call (.builtin id) (v :: us)) (EP X pins σ Q) X.xe s
theorem Vals.one : ∀ {x : V} {us : List Value},Vals [x] us -> ∃ u,us = [u] /\ RelV x u
 | _,_,.cons r .nil => ⟨_,rfl,r⟩
theorem Vals.eraseIdx : ∀ {xs : List V} {us : List Value} (i : Nat),Vals xs us -> Vals (xs.eraseIdx i) (us.eraseIdx i)
 | _,_,_,.nil => .nil
 | _,_,0,.cons _ t => t
 | _,_,i + 1,.cons r t => .cons r (Vals.eraseIdx i t)
theorem zh9 {α : Type} : ∀ (l : List α) (i : Nat),(l.eraseIdx i).length <= l.length
 | [],_ => Nat.le_refl _
 | _ :: _,0 => Nat.le_succ _
 | _ :: r,i + 1 => Nat.succ_le_succ (zh9 r i)
section
variable {X : Cx} {pins : List (Addr × Obj)} {σ : St} {H : Hp} {s : Shared} {l b : Addr} {xs ys zs : List V}
theorem Inv.lset {its its' : List Value} {n : Nat} {f : Array Value -> Array Value} {t' : Nat} (I : Inv X pins σ H s) (hH : H l = some (.lst xs))
  (e : s.heap.get? l = some { cls := .type "list", data := .seq its.toArray n }) (hf : f its.toArray = its'.toArray) (hv : Vals ys its') (hz : ys.length <= sizeLine) :
  Inv X pins σ (upd H l (.lst ys)) { s with heap := s.heap.update l (Obj.mapSeq f),toks := t' } := by
 have q := PySem.IsL.update e f
 rw [hf] at q
 refine I.write (x := l) (e := l) (by rw [hH]; exact trivial) (.inl rfl) (fun b' u hb hu => (Heap.get?_update_other s.heap (Obj.mapSeq f) (Ne.symm hb)).trans hu) ⟨_,q⟩ ?_
 exact ⟨hz,its',_,hv,q⟩
theorem Inv.lnew {its : List Value} {t' : Nat} (I : Inv X pins σ H s) (hv : Vals ys its) (hz : ys.length <= sizeLine) :
  Inv X pins σ (upd H s.heap.objs.size (.lst ys)) { s with heap := s.heap.push { cls := .type "list", data := .seq its.toArray },toks := t' } :=
 I.laid (fun _ _ q => Heap.get?_push_of_some _ q) (Nat.le_refl _) ⟨hz,its,0,hv,Heap.get?_push_size _ rfl⟩
theorem Inv.fresh (I : Inv X pins σ H s) : H s.heap.objs.size = none := I.hok.fresh (Nat.le_refl _)
theorem Inv.lstM (I : Inv X pins σ H s) (hH : H l = some (.lst xs)) : xs.length <= sizeLine /\ ∃ (its : List Value) (n : Nat),Vals xs its /\ xs.length = its.length /\ s.heap.get? l = some { cls := .type "list", data := .seq its.toArray n } := by
 obtain ⟨z,its,n,r,e⟩ := I.hok l _ hH
 exact ⟨z,its,n,r,r.length,e⟩
end
section
variable {X : Cx}
def zl0 : V -> List V -> Hp -> VK -> Prop := fun x vs H Q => ∃ l xs y,x = .ref l /\ vs = [y] /\ H l = some (.lst xs) /\ xs.length < sizeLine /\ Q .non (upd H l (.lst (xs ++ [y])))
theorem zdQ : MtM X "list.append" zl0 := by
 intro pins s σ H x vs v us Q I rx rv h
 obtain ⟨l,xs,y,rfl,rfl,hH,hz,q⟩ := h
 cases rx
 obtain ⟨u,rfl,ru⟩ := rv.one
 obtain ⟨z,its,n,r,hl,e⟩ := I.lstM hH
 refine call_meets F.slot_list_append ⟨_,e,rfl⟩ F.entry_list_append (F.args_list_append_2 _ _) (PySem.list_append l its.toArray n u (by rw [List.size_toArray]; omega)) ⟨e,?_⟩
 refine ⟨.non,_,I.lset (its' := its ++ [u]) hH e (by simp) (r.append (.cons ru .nil)) ?_,rfl,q⟩
 rw [List.length_append,List.length_singleton]
 omega
def zpb : V -> List V -> Hp -> VK -> Prop := fun x vs H Q => ∃ l xs i k y,x = .ref l /\ vs = [.int i] /\ H l = some (.lst xs) /\ -(2 ^ 63) <= i /\ i < 2 ^ 63 /\ seqIndex? i xs.length = some k /\ xs[k]? = some y /\ Q y (upd H l (.lst (xs.eraseIdx k)))
theorem zoB : MtM X "list.pop" zpb := by
 intro pins s σ H x vs v us Q I rx rv h
 obtain ⟨l,xs,i,k,y,rfl,rfl,hH,h1,h2,hk,hy,q⟩ := h
 cases rx
 obtain ⟨u,rfl,ru⟩ := rv.one
 obtain ⟨t,rfl⟩ := ru
 obtain ⟨z,its,n,r,hl,e⟩ := I.lstM hH
 obtain ⟨w,hw,rw'⟩ := r.get hy
 refine call_meets F.slot_list_pop ⟨_,e,rfl⟩ F.entry_list_pop (F.args_list_pop_2 _ _)
  (MeetsSeq.list_pop_at l its.toArray n i t k w (fitsIndex_both h1 h2) (by rw [List.size_toArray,<- hl]; exact hk) (by rw [<- Array.getElem?_toList]; exact hw) (by rw [List.size_toArray]; omega)) ⟨e,?_⟩
 refine ⟨y,_,I.lset (its' := its.eraseIdx k) hH e ?_ (r.eraseIdx k) ?_,rw',q⟩
 ·show its.toArray.eraseIdxIfInBounds k = (its.eraseIdx k).toArray
  rw [List.eraseIdxIfInBounds_toArray]
 ·have := zh9 xs k
  omega
end
end L2
namespace Att
open PySem PySem.W PySem.Calls PyProof.Rows
theorem zfH {P : Params} {h : Heap} : ∀ (ns : List Int) (vs : List Value),WellAll P h vs (ns.map WData.int) -> IntsAre vs ns := by
 intro ns
 induction ns with
 | nil =>
  intro vs w
  rw [List.map_nil] at w
  cases w
  exact .nil
 | cons n ns ih =>
  intro vs w
  rw [List.map_cons] at w
  cases w with
  | cons a b =>
   cases a
   exact .cons _ _ (ih _ b)
theorem zlN {l : OpenLaw} {n : Nat} (hn : l.most = some n) {P : Params} {h : Heap} {args : List WData} {vals : List Value}
  (hpre : l.row.toRowW.claim.pre args = true) (hwl : WellAll P h vals args) :
  ∃ a vs ns,vals = [Value.ref a] /\ args = [WData.list (ns.map WData.int)] /\ h.get? a = some { cls := .type "list", data := .seq vs.toArray } /\ IntsAre vs ns /\ ns.length <= n := by
 have hsh : WShape.hasAll [] args [.list .int] = true := (pre_splitW hpre).1
 have hc : l.pre.holds [] { args := args } = true := (pre_splitW hpre).2
 obtain ⟨d,r,rfl,h1,h2⟩ := hasAllW_cons hsh
 obtain rfl := hasAllW_nil h2
 obtain ⟨xs,rfl,h3⟩ := hasW_list h1
 obtain ⟨ns,rfl⟩ := items_int h3
 have hlen : ns.length <= n := by
  unfold OpenLaw.pre at hc
  have h4 : (WTm.not (.lt (.lit (.int (n : Int))) (.len (.arg 0)))).holds [] { args := [.list (ns.map .int)] } = true := by
   have h4 := (holds_andW hc).1
   rw [hn] at h4
   exact h4
  have h5 := condW_of h4 (w_not (w_lt w_lit (w_len_list (w_arg rfl))))
  rw [List.length_map] at h5
  refine Nat.le_of_not_lt fun q => ?_
  have q' : (n : Int) < ((ns.length : Nat) : Int) := by omega
  first
   | (rw [decide_eq_true q'] at h5; exact absurd h5 (by decide))
   | (simp at h5; omega)
 cases hwl with
 | cons w1 w2 =>
  cases w2
  cases w1 with
  | list ho hall => exact ⟨_,_,ns,rfl,rfl,ho,zfH ns _ hall,hlen⟩
theorem zl7 (l : OpenLaw) (args : List WData) : l.row.toRowW.claim.post args (.bool true) args = true :=
 postW_of (r := l.row.toRowW) (X := (true == true))
  (show WShape.has [] (.bool true) .bool = true by first | rfl | decide | simp [WShape.has,WShape.arms,WShape.armsAll])
  (show (WTm.eq .res (.lit (.bool true))).value [] { args := args,res := some (.bool true),after := args } = some (.bool (true == true)) from w_eq_bool (w_res rfl) w_lit) rfl
theorem attach_call {l : OpenLaw} {n : Nat} {q : Program} {loose : List Str} {XP : (Str -> Option Value) -> Heap -> Prop} {YP : World -> Heap -> Prop} {d : DefRec}
  (hn : l.most = some n) (hdf : d.params.defaults = [])
  (call : ∀ (w : World) (s₀ s₁ : Shared) (mg mb : Str -> Option Value) (fa : Addr) (o : Obj) (pm cd doc : Value) (a : Addr) (vs : List Value) (ns : List Int),
   Ground q loose [] XP w s₀ mg mb s₁.heap -> YP w s₁.heap →
   s₁.heap.get? fa = some o -> o.data = .func (docDef d.name d.params d.body d.scope pm cd doc) -> s₁.heap.CodeRec cd d.name -> mg d.name = some (.ref fa) →
   s₁.heap.get? a = some { cls := .type "list", data := .seq vs.toArray } -> IntsAre vs ns -> ns.length <= n -> s₁.gens = #[] →
   codeAny (model l.prog w) callerA (.call (.ref fa) ⟨[.ref a],[]⟩) (fun r s' => r = .ok (.ret (.bool true)) /\ OldK s₁.heap s'.heap /\ s'.os = s₁.os /\ AllBare s'.gens) s₁) :
  WalkO q loose XP YP l.row.toRowW d [] (fun f vs => PySem.call f vs) := by
 intro w s₀ s₁ mg mb G Y fa o pm cd doc dV kV ho hd hcd hD hmg hg args vals as hpre hlay hrd hwl hlo
 obtain rfl : dV = .none := Dflts.none hD hdf
 obtain rfl : kV = .none := Dflts.noKw hD
 obtain ⟨a,vs,ns,rfl,rfl,hobj,hints,hlen⟩ := zlN hn hpre hwl
 refine enter_call (codeAny_mono (call w s₀ s₁ mg mb fa o pm cd doc a vs ns G Y ho (fd_plain hd) hcd hmg hobj hints hlen hg) fun r s' hq => ?_)
 obtain ⟨rfl,h2,h3,h4⟩ := hq
 exact ⟨.inl ⟨.bool true,.bool true,[],rfl,fun _ => rfl,.bool true,zl7 l _,fun _ => ⟨List.Pairwise.nil,fun _ hm => (nomatch hm)⟩⟩,h2,h3,h4⟩
section
variable {prog : Program} {w : World} {A : Around} {E : Value -> Shared -> Prop} {s : Shared} {K : Frag}
end
end Att
namespace L2
open PySem PySem.Spec PyProof.Rows
theorem zfe : ∀ {vs : List Value} {ns : List Int},IntsAre vs ns -> Vals (ns.map V.int) vs
 | _,_,.nil => .nil
 | _,_,.cons n t h => .cons ⟨t,rfl⟩ (zfe h)
def Only (H : Hp) : Prop := ∀ b,H b = none ∨ ∃ o xs,H b = some (.frz o (.lst xs))
theorem zoH {P : Program} {w : World} {K : PySem.W.Frag} {mg mb : Str -> Option Value} {CX : CXT} {k : Nat} {fa a : Addr} {fd : FuncData} {x : Str} {sp : Sp} {s₁ : Shared} {vs : List Value} {ns : List Int}
  (KX : K.In s₁.heap) (hns : s₁.heap.Ns mainGlobals mg) (hb : s₁.heap.Ns builtinsNs mb) (hbb : ∀ x : Str,x ≠ "__name__" -> mb x = bootBuiltins x) (hlim : s₁.heap.NoLimit) (hg : s₁.gens = #[])
  (ha : s₁.heap.get? a = some { cls := .type "list", data := .seq vs.toArray }) (hi : IntsAre vs ns) (hl : ns.length <= sizeLine) (hr : Room k callerA)
  (F : ∀ base : Heap,K.In base -> base.Ns mainGlobals mg -> FnOk P w K mg base CX k fa fd [x] sp) (hbind : ∀ (s : Shared) (u : Value),BindsTo s fd ⟨[u],[]⟩ [(x,u)])
  (hsp : ∀ H : Hp,Only H -> SqL K H a (ns.map V.int) -> sp [.ref a] H (fun v _ => v = .bl true) fun _ _ _ => False)
  (hCX : ∀ H e s',CX [] H s₁ (fun _ _ _ => False) e s' -> False) :
  codeAny (model P w) callerA (.call (.ref fa) ⟨[.ref a],[]⟩) (fun r s' => r = .ok (.ret (.bool true)) /\ OldK s₁.heap s'.heap /\ s'.os = s₁.os /\ AllBare s'.gens) s₁ := by
 have rv := zfe hi
 have lenV := hi.length
 have core : ∀ H : Hp,Only H -> SqL K H a (ns.map V.int) -> HOk P w H s₁.heap -> (∀ b,H b ≠ none -> b = a) -> (H a ≠ none -> K.lookup a = none) →
   codeAny (model P w) callerA (.call (.ref fa) ⟨[.ref a],[]⟩) (fun r s' => r = .ok (.ret (.bool true)) /\ OldK s₁.heap s'.heap /\ s'.os = s₁.os /\ AllBare s'.gens) s₁ := by
  intro H hO hS hok hA hK
  have base_of : ∀ {b : Addr} {o : Obj},s₁.heap.get? b = some o -> H b = none -> (zoM s₁.heap H).get? b = some o := fun e n => zoL e n
  have noA : ∀ {b : Addr} {o : Obj} {es : Array DictEntry} {ep : Nat},s₁.heap.get? b = some o -> o.data = .dict es ep -> H b = none := fun {b o es ep} e d => by
   cases q : H b with
   | none => rfl
   | some u =>
    have e' : b = a := hA b (by rw [q]; simp)
    subst e'
    rw [ha] at e; cases e
    have d' : Data.seq vs.toArray _ = Data.dict es ep := d
    cases d'
  have nsK : ∀ {b : Addr} {m : Str -> Option Value},s₁.heap.Ns b m -> (zoM s₁.heap H).Ns b m := fun {b m} ⟨o,es,ep,e,d,r⟩ => ⟨o,es,ep,base_of e (noA e d),d,r⟩
  have hKb : K.In (zoM s₁.heap H) := fun b o e => base_of (KX b o e) (by
   cases q : H b with
   | none => rfl
   | some u =>
    have e' : b = a := hA b (by rw [q]; simp)
    subst e'
    rw [hK (by rw [q]; simp)] at e; cases e)
  have hM : Mod K mg (zoM s₁.heap H) := ⟨hKb,nsK hns,⟨mb,nsK hb,hbb⟩,let ⟨mc,h1,h2⟩ := hlim; ⟨mc,nsK h1,h2⟩⟩
  have e0 : Env0 P w K mg (zoM s₁.heap H) callerA [] s₁ H := ⟨rfl,hM,fun b o e => zqL e,Nat.le_of_eq (znh _ _),trivial,fun b hb => absurd (show b ∈ ([] : List Addr) from hb) (by simp),hok,.of_eq hg⟩
  refine codeAny_mono ((F _ hKb (nsK hns)).run callerA [] s₁ H ⟨[.ref a],[]⟩ [.ref a] [.ref a] _ _ hr e0 (hbind s₁ (.ref a)) (.cons rfl .nil) (hsp H hO hS)) fun r s' h => ?_
  cases r with
  | error e => exact (hCX H e s' h).elim
  | ok fl =>
   cases fl with
   | next => exact False.elim h
   | brk => exact False.elim h
   | cont => exact False.elim h
   | ret u =>
    obtain ⟨v,H',os,bare,un,hok',r',q⟩ := h
    have q' : v = .bl true := q
    subst q'
    obtain rfl : u = Value.bool true := r'
    refine ⟨rfl,OldK.of_keep fun b o e => ?_,os,bare⟩
    cases q : H b with
    | none => exact un.keep b o e q (by intro z; exact absurd (show b ∈ ([] : List Addr) from z) (by simp)) (by simp)
    | some u =>
     rcases hO b with z | ⟨ob,xs,z⟩
     ·rw [q] at z; cases z
     ·have z2 := un.frzs b ob _ z
      obtain ⟨e1,_⟩ := hok b _ z
      obtain ⟨e2,_⟩ := hok' b _ z2
      rw [e] at e1; cases e1
      exact e2
 cases hk : K.lookup a with
 | some o =>
  have e := KX a o hk
  rw [ha] at e
  cases e
  refine core (fun _ => none) (fun _ => .inl rfl) (.inr ⟨_,vs.toArray,_,hk,rfl,rfl,rfl,by rw [List.size_toArray,lenV]; exact hl,by simpa using rv⟩) (fun b u z => by have z' : (none : Option HO) = some u := z; cases z') (fun b z => absurd rfl z) fun z => absurd rfl z
 | none =>
  refine core (fun b => if b = a then some (.frz { cls := .type "list", data := .seq vs.toArray } (.lst (ns.map V.int))) else none) (fun b => ?_) (.inl (.inr ⟨{ cls := .type "list", data := .seq vs.toArray },if_pos rfl⟩)) (fun b u z => ?_) (fun b z => ?_) fun _ => hk
  ·by_cases hb : b = a
   ·exact .inr ⟨_,_,if_pos hb⟩
   ·exact .inl (if_neg hb)
  ·by_cases hb : b = a
   ·have z' := (if_pos hb).symm.trans z
    cases z'
    subst hb
    exact ⟨ha,by rw [List.length_map]; exact hl,vs,_,rv,ha⟩
   ·have z' := (if_neg hb).symm.trans z
    cases z'
  ·by_cases hb : b = a
   ·exact hb
   ·exact absurd (if_neg hb) z
theorem zpB {l : PySem.W.OpenLaw} {n k : Nat} {q : Program} {loose : List Str} {XP : (Str -> Option Value) -> Heap -> Prop} {YP : World -> Heap -> Prop} {d : DefRec} {K : Params -> PySem.W.Frag} {CX : World -> CXT} {sp : World -> Sp} {x : Str}
  (hn : l.most = some n) (hn2 : n <= sizeLine) (hdf : d.params.defaults = []) (hr : Room k callerA)
  (hY : ∀ (w : World) (h : Heap),YP w h -> (K w.params).In h)
  (F : ∀ (w : World) (mg : Str -> Option Value) (fa : Addr) (h : Heap),(K w.params).In h -> h.Ns mainGlobals mg -> mg d.name = some (.ref fa) →
   ∃ fd : FuncData,(∀ (s : Shared) (u : Value),BindsTo s fd ⟨[u],[]⟩ [(x,u)]) ∧
    ∀ base : Heap,(K w.params).In base -> base.Ns mainGlobals mg -> FnOk l.prog w (K w.params) mg base (CX w) k fa fd [x] (sp w))
  (hsp : ∀ (w : World) (H : Hp) (a : Addr) (ns : List Int),ns.length <= n -> Only H -> SqL (K w.params) H a (ns.map V.int) -> sp w [.ref a] H (fun v _ => v = .bl true) fun _ _ _ => False)
  (hCX : ∀ (w : World) (H : Hp) (s : Shared) (e : Value) (s' : Shared),CX w [] H s (fun _ _ _ => False) e s' -> False) :
  PySem.W.WalkO q loose XP YP l.row.toRowW d [] (fun f vs => PySem.call f vs) := by
 refine Att.attach_call hn hdf fun w s₀ s₁ mg mb fa o pm cd doc a vs ns G Y ho hd hcd hmg hobj hints hlen hg => ?_
 have KX := hY w _ Y
 obtain ⟨fd,hb,hF⟩ := F w mg fa _ KX G.T.g hmg
 exact zoH KX G.T.g G.T.b G.T.builtins G.T.nolimit hg hobj hints (Nat.le_trans hlen hn2) hr hF hb (fun H hO hS => hsp w H a ns hlen hO hS) fun H e s' => hCX w H s₁ e s'
theorem walk_ofK {l : PySem.W.OpenLaw} {n k : Nat} {q : Program} {loose : List Str} {XP : (Str -> Option Value) -> Heap -> Prop} {YP : World -> Heap -> Prop} {d : DefRec} {K : Params -> PySem.W.Frag} {CX : CXT} {sp : PySem.W.Frag -> Sp} {x : Str}
  (hn : l.most = some n) (hn2 : n <= sizeLine) (hdf : d.params.defaults = []) (hr : Room k callerA)
  (hY : ∀ (w : World) (h : Heap),YP w h -> (K w.params).In h)
  (F : ∀ (w : World) (mg : Str -> Option Value) (fa : Addr) (h : Heap),(K w.params).In h -> h.Ns mainGlobals mg -> mg d.name = some (.ref fa) →
   ∃ fd : FuncData,(∀ (s : Shared) (u : Value),BindsTo s fd ⟨[u],[]⟩ [(x,u)]) ∧
    ∀ base : Heap,(K w.params).In base -> base.Ns mainGlobals mg -> FnOk l.prog w (K w.params) mg base CX k fa fd [x] (sp (K w.params)))
  (hsp : ∀ (K : PySem.W.Frag) (H : Hp) (a : Addr) (ns : List Int),ns.length <= n -> Only H -> SqL K H a (ns.map V.int) -> sp K [.ref a] H (fun v _ => v = .bl true) fun _ _ _ => False)
  (hCX : ∀ (H : Hp) (s : Shared) (e : Value) (s' : Shared),CX [] H s (fun _ _ _ => False) e s' -> False) :
  PySem.W.WalkO q loose XP YP l.row.toRowW d [] (fun f vs => PySem.call f vs) :=
 zpB (K := K) (CX := fun _ => CX) (sp := fun w => sp (K w.params)) hn hn2 hdf hr hY F (fun w H a ns h1 h2 h3 => hsp (K w.params) H a ns h1 h2 h3) fun _ H s e s' => hCX H s e s'
end L2
namespace L2
open PySem PySem.Spec PyProof.Rows
def zb5 (s : Stmt) (j : Nat) : Stmt := match s with
 | .ClassDef _ _ _ body _ _ _ _ _ _ _ => body.getD j (.Pass ⟨0,0,0,0⟩)
 | _ => .Pass ⟨0,0,0,0⟩
def zek (s : Stmt) : Arguments := match s with
 | .FunctionDef _ a _ _ _ _ _ _ _ _ => a
 | _ => { posonlyargs := [],args := [],vararg := none,kwonlyargs := [],kw_defaults := [],kwarg := none,defaults := [] }
def zbA (s : Stmt) : List Stmt := match s with
 | .FunctionDef _ _ b _ _ _ _ _ _ _ => b
 | _ => []
def zai (s : Stmt) : Scope := match s with
 | .FunctionDef _ _ _ _ _ _ sc _ _ _ => sc
 | _ => { kind := .function,names := [],isGenerator := false,isCoroutine := false }
abbrev CX0 : CXT := fun _ _ _ _ _ _ => False
abbrev E0 : XK := fun _ _ _ => False
theorem zot {X : Cx} : zfX CX0 X E0 := fun _ _ _ _ _ _ _ h => h.elim
structure Fun (K : PySem.W.Frag) (x qual : Str) (st : Stmt) (f : Addr) (fd : FuncData) : Prop where
 ex : ∃ (oc : Value) (od : Option Addr) (kV doc pm : Value) (an : Option Addr) (cdv ct : Value) (osl : Array (Option Value)),
  fd = PySem.W.fnOf x qual (zek st) (zbA st) (zai st) .none kV doc pm an cdv ct /\ K.lookup f = some ⟨oc,od,.func fd,osl⟩ /\ PySem.W.codeIn K cdv qual = true
 kp : PySem.W.keepIn K (.ref f) = true
section
variable {P : Program} {w : World} {K : PySem.W.Frag} {mg : Str -> Option Value} {base : Heap}
theorem Fun.ok {x qual : Str} {st : Stmt} {f : Addr} {fd : FuncData} {N ps : List Str} {k : Nat} {sp : Sp} (F : Fun K x qual st f fd) (S : FnScope N ps (zai st)) (len : ∀ vs H Q E,sp vs H Q E -> vs.length = ps.length)
  (hbody : ∀ (cdv : Value) (A : Around) (outer : List Env) (s : Shared) (H : Hp) (vs : List V) (Q : VK) (E : XK),Room k (A.deeper (envOfC qual (zai st) s.heap.objs.size f cdv)) -> sp vs H Q E →
   ∃ t,PSs (zlu CX0 P w K mg base N qual (zai st) f cdv A outer s H E).nox (zbA st) t /\ t { nx := fun _ H' => Q .non H',rt := Q } (start N vs) H) : FnOk P w K mg base CX0 (k + 1) f fd ps sp := by
 obtain ⟨oc,od,kV,doc,pm,an,cdv,ct,osl,rfl,lk,hcd⟩ := F.ex
 refine fn_of lk hcd S len fun A outer s H vs Q E hr hsp => ?_
 obtain ⟨t,h,q⟩ := hbody cdv A outer s H vs Q E hr hsp
 exact ⟨t,h.nox,q⟩
theorem Fun.binds {x qual : Str} {st : Stmt} {f : Addr} {fd : FuncData} {ps : List Str} (F : Fun K x qual st f fd)
  (h : ∀ (kV doc pm : Value) (an : Option Addr) (cdv ct : Value) (us : List Value),us.length = ps.length -> bindArgs (PySem.W.fnOf x qual (zek st) (zbA st) (zai st) .none kV doc pm an cdv ct) ⟨us,[]⟩ = pure (ps.zip us)) : Binds K fd ps [] := by
 obtain ⟨oc,od,kV,doc,pm,an,cdv,ct,osl,rfl,lk,hcd⟩ := F.ex
 exact .all (h kV doc pm an cdv ct)
end
theorem znf {A : Around} {k : Nat} (hr : Room k A) : A.units + 1 < cLine := Nat.lt_of_le_of_lt (Nat.add_le_add_left (by decide : 1 <= 64) _) hr.units
def Same (H H' : Hp) : Prop := ∀ b o,H b = some o -> H' b = some o
theorem Same.refl (H : Hp) : Same H H := fun _ _ h => h
end L2
set_option autoImplicit false
namespace MD
open PySem PySem.Spec PyProof.Rows L2
def Kof (n : Nat) (h : Heap) : PySem.W.Frag := (List.range n).filterMap fun a => (h.get? a).map fun o => (a,o)
abbrev FnT := Option (Str × Str × Arguments × List Stmt × Scope)
def zlz (v : Value) : Bool := match v with
 | .none => true
 | _ => false
def fnV (K : PySem.W.Frag) (f : Addr) : FnT × Bool := match K.lookup f with
 | some ⟨_,_,.func ⟨x,q,ps,.stmts b,sc,gl,[],dv,_,_,_,_,cd,_,bl⟩,_⟩ => (some (x,q,ps,b,sc),Nat.beq gl mainGlobals && Nat.beq bl builtinsNs && zlz dv && PySem.W.codeIn K cd q)
 | _ => (none,false)
def viewOf (keep : List Nat) (p : Program) : Program := { p with main := { p.main with body := keep.filterMap fun i => p.main.body[i]? } }
end MD
set_option autoImplicit false
namespace K38
open PySem PyProof.Rows L2 MD
def top (i : Nat) : Stmt := PySem.Challenge.pw_shorthead_k38_checks_asked.main.body.getD i (.Pass ⟨0,0,0,0⟩)
abbrev ze7 : Stmt := top 2
abbrev zdD : Stmt := top 3
abbrev zcX : Stmt := top 4
abbrev zdA : Stmt := top 5
abbrev zgU : Stmt := top 7
abbrev zdz : Stmt := top 8
abbrev zg0 : Stmt := top 9
abbrev zdK : Stmt := top 11
abbrev zdJ : Stmt := top 12
abbrev zgS : Stmt := top 13
abbrev ze6 : Stmt := top 14
abbrev zeZ : Stmt := top 16
abbrev zgR : Stmt := top 17
abbrev zgT : Stmt := top 18
abbrev zgW : Stmt := top 19
abbrev zcT : Stmt := top 20
abbrev zgZ : Stmt := top 25
abbrev zcV : Stmt := top 26
abbrev zcr : Stmt := top 27
abbrev zco : Stmt := top 28
abbrev zdC : Stmt := top 29
abbrev zgV : Stmt := top 30
abbrev zcU : Stmt := top 32
abbrev zcn : Stmt := zb5 (top 33) 0
abbrev zcl : Stmt := zb5 (top 33) 1
abbrev zcW : Stmt := zb5 (top 33) 3
abbrev zcm : Stmt := zb5 (top 33) 4
abbrev zbZ : Stmt := zb5 (top 33) 5
abbrev zbI : Stmt := zb5 (top 33) 6
abbrev zbB : Stmt := zb5 (top 33) 7
abbrev zb0 : Stmt := zb5 (top 33) 8
abbrev zbr : Stmt := zb5 (top 33) 9
abbrev zck : Stmt := zb5 (top 33) 10
abbrev zgY : Stmt := top 35
abbrev ze2 : Stmt := top 36
abbrev zjT : Stmt := top 37
abbrev zdF : Stmt := top 38
abbrev ze3 : Stmt := top 39
abbrev zdH : Stmt := top 40
abbrev zgX : Stmt := top 41
abbrev ze4 : Stmt := top 42
abbrev ze0 : Stmt := top 43
abbrev ze1 : Stmt := top 44
abbrev zcq : Stmt := top 45
abbrev zb1 : Stmt := top 46
abbrev zjS : Stmt := top 47
abbrev ze5 : Stmt := top 48
abbrev zdE : Stmt := top 49
abbrev zdI : Stmt := top 50
abbrev zcp : Stmt := top 51
abbrev zcY : Stmt := top 52
abbrev zcZ : Stmt := top 53
abbrev zbJ : Stmt := top 54
abbrev zdG : Stmt := top 55
abbrev zpS : Stmt := top 56
def nms : List Str := (["are_bits", "number_of", "numbers_of", "width_for", "rest_of", "windowed", "around", "breadths", "expected", "turned", "check_of", "width_of", "widths", "size_of", "opened", "value_told", "form_at", "sort_width", "check_width", "letter_size", "sort_told", "parted", "those_kept", "_law_box", "_law_next", "_law_of", "_law_value", "_law_kind", "_law_shape", "_law_way"] : List (Str)) ++ (["_law_form", "_law_road", "_law_pact", "_law_any_head", "_law_expected", "_law_on", "_law_bits", "_law_width", "_law_check", "_law_width_of", "_law_pieces", "_law_letter", "_law_plain_pact", "_law_stays", "law", "Reader", "ValueError", "sum", "enumerate", "max", "range", "tuple", "isinstance", "str", "len", "dict", "min", "int", "zip", "sorted"] : List (Str)) ++ (["abs", "list"] : List (Str))
def nmsE : List (Option (Option Value)) := ([some (some (.ref 28)),some (some (.ref 35)),some (some (.ref 42)),some (some (.ref 49)),some (some (.ref 56)),some (some (.ref 63)),some (some (.ref 70)),some (some (.ref 75)),some (some (.ref 82)),some (some (.ref 89)),some (some (.ref 94)),some (some (.ref 101)),some (some (.ref 106)),some (some (.ref 113)),some (some (.ref 120)),some (some (.ref 127)),some (some (.ref 159)),some (some (.ref 166)),some (some (.ref 173)),some (some (.ref 180)),some (some (.ref 187)),some (some (.ref 194)),some (some (.ref 199)),some (some (.ref 295)),some (some (.ref 302)),some (some (.ref 309)),some (some (.ref 316)),some (some (.ref 321)),some (some (.ref 328)),some (some (.ref 335))] : List (Option (Option Value))) ++ ([some (some (.ref 340)),some (some (.ref 347)),some (some (.ref 352)),some (some (.ref 357)),some (some (.ref 364)),some (some (.ref 371)),some (some (.ref 378)),some (some (.ref 385)),some (some (.ref 392)),some (some (.ref 399)),some (some (.ref 406)),some (some (.ref 413)),some (some (.ref 418)),some (some (.ref 425)),some (some (.ref 432)),some (some (.ref 284)),some none,some none,some none,some none,some none,some none,some none,some none,some none,some none,some none,some none,some none,some none] : List (Option (Option Value))) ++ ([some none,some none] : List (Option (Option Value)))
def fnd : List (Addr × Str) := [(284, "__setattr__"),(284, "held"),(284, "highest"),(284, "pact"),(284, "__init__"),(284, "read"),(284, "top"),(284, "kept"),(284, "least"),(284, "is_late"),(284, "nearest"),(284, "is_far"),(284, "head_told"),(284, "rise")]
def fndE : List (Option (Option Value)) := [some (some (.builtin "object.__setattr__")),some none,some none,some none,some (some (.ref 213)),some (some (.ref 220)),some (some (.ref 234)),some (some (.ref 241)),some (some (.ref 248)),some (some (.ref 255)),some (some (.ref 260)),some (some (.ref 267)),some (some (.ref 274)),some (some (.ref 281))]
def fnsa : List Addr := [28,35,42,49,56,63,70,75,82,89]
def fnsb : List Addr := [94,101,106,113,120,127,159,166,173,180]
def fnsc : List Addr := [187,194,199,213,220,234,241,248,255,260]
def fnsd : List Addr := [267,274,281,295,302,309,316,321,328,335]
def fnse : List Addr := [340,347,352,357,364,371,378,385,392,399]
def fnsf : List Addr := [406,413,418,425,432]
def fns : List Addr := fnsa ++ fnsb ++ fnsc ++ fnsd ++ fnse ++ fnsf
def fnE (x q : Str) (st : Stmt) : FnT × Bool := (some (x,q,zek st,zbA st,zai st),true)
def fnsaE : List (FnT × Bool) := [fnE "are_bits" "are_bits" ze7,fnE "number_of" "number_of" zdD,fnE "numbers_of" "numbers_of" zcX,fnE "width_for" "width_for" zdA,fnE "rest_of" "rest_of" zgU,fnE "windowed" "windowed" zdz,fnE "around" "around" zg0,fnE "breadths" "breadths" zdK,fnE "expected" "expected" zdJ,fnE "turned" "turned" zgS]
def fnsbE : List (FnT × Bool) := [fnE "check_of" "check_of" ze6,fnE "width_of" "width_of" zeZ,fnE "widths" "widths" zgR,fnE "size_of" "size_of" zgT,fnE "opened" "opened" zgW,fnE "value_told" "value_told" zcT,fnE "form_at" "form_at" zgZ,fnE "sort_width" "sort_width" zcV,fnE "check_width" "check_width" zcr,fnE "letter_size" "letter_size" zco]
def fnscE : List (FnT × Bool) := [fnE "sort_told" "sort_told" zdC,fnE "parted" "parted" zgV,fnE "those_kept" "those_kept" zcU,fnE "__init__" "Reader.__init__" zcn,fnE "read" "Reader.read" zcl,fnE "top" "Reader.top" zcW,fnE "kept" "Reader.kept" zcm,fnE "least" "Reader.least" zbZ,fnE "is_late" "Reader.is_late" zbI,fnE "nearest" "Reader.nearest" zbB]
def fnsdE : List (FnT × Bool) := [fnE "is_far" "Reader.is_far" zb0,fnE "head_told" "Reader.head_told" zbr,fnE "rise" "Reader.rise" zck,fnE "_law_box" "_law_box" zgY,fnE "_law_next" "_law_next" ze2,fnE "_law_of" "_law_of" zjT,fnE "_law_value" "_law_value" zdF,fnE "_law_kind" "_law_kind" ze3,fnE "_law_shape" "_law_shape" zdH,fnE "_law_way" "_law_way" zgX]
def fnseE : List (FnT × Bool) := [fnE "_law_form" "_law_form" ze4,fnE "_law_road" "_law_road" ze0,fnE "_law_pact" "_law_pact" ze1,fnE "_law_any_head" "_law_any_head" zcq,fnE "_law_expected" "_law_expected" zb1,fnE "_law_on" "_law_on" zjS,fnE "_law_bits" "_law_bits" ze5,fnE "_law_width" "_law_width" zdE,fnE "_law_check" "_law_check" zdI,fnE "_law_width_of" "_law_width_of" zcp]
def fnsfE : List (FnT × Bool) := [fnE "_law_pieces" "_law_pieces" zcY,fnE "_law_letter" "_law_letter" zcZ,fnE "_law_plain_pact" "_law_plain_pact" zbJ,fnE "_law_stays" "_law_stays" zdG,fnE "law" "law" zpS]
def fnsE : List (FnT × Bool) := fnsaE ++ fnsbE ++ fnscE ++ fnsdE ++ fnseE ++ fnsfE
def bls (K : PySem.W.Frag) : List Bool := [PySem.W.plainGet K 284 Str.empty && PySem.W.hasDictIn K 284 && PySem.W.plainOver K 284 && PySem.W.makesIn K 284 && PySem.W.keepIn K (.ref 284),PySem.W.isFn K (.ref 213),PySem.W.isFn K (.ref 220),PySem.W.isFn K (.ref 234),PySem.W.isFn K (.ref 241),PySem.W.isFn K (.ref 248),PySem.W.isFn K (.ref 255),PySem.W.isFn K (.ref 260),PySem.W.isFn K (.ref 267),PySem.W.isFn K (.ref 274),PySem.W.isFn K (.ref 281)]
def blsE : List Bool := List.replicate 11 true
def obs (K : PySem.W.Frag) : List (Option (Option Value)) × List (Option (Option Value)) × List (FnT × Bool) × List Bool := (nms.map (PySem.W.nsIn K mainGlobals),fnd.map (fun p => PySem.W.findIn K (.ref p.1) p.2),fns.map (fnV K),bls K)
def expd : List (Option (Option Value)) × List (Option (Option Value)) × List (FnT × Bool) × List Bool := (nmsE,fndE,fnsE,blsE)
abbrev pw : Program := PySem.Challenge.pw_shorthead_k38_checks_asked
def vw : Program := viewOf (([0,2,3,4,5,7,8,9,11,12,13,14,16,17,18,19,20,22,23,25,26,27,28,29,30,32,33,35,36,37] : List (Nat)) ++ ([38,39,40,41,42,43,44,45,46,47,48,49,50,51,52,53,54,55,56] : List (Nat))) pw
def xt (s : Shared) : Bool := PySem.W.xlAt vw [] s && PySem.W.recOk (PySem.W.RowW.records PySem.Challenge.rw_shorthead_k38_checks_asked.row.toRowW) s
def zO (s : Shared) := PySem.W.openSeen vw [] (importedModules pw.main.body) xt true s
def zG := PySem.W.openGood vw []
def zE (w : World) := PySem.W.openEnds treeTable pw w 5024
def hl0 (w : World) := (zE w).map fun s => (zO s).1.defs.take 24
def hr0 (_ : World) := some (zG.1.defs.take 24)
def hl1 (w : World) := (zE w).map fun s => (zO s).1.defs.drop 24
def hr1 (_ : World) := some (zG.1.defs.drop 24)
def hl2 (w : World) := (zE w).map fun s => (zO s).1.ownsOk
def hr2 (_ : World) := some (zG.1.ownsOk)
def hl3 (w : World) := (zE w).map fun s => (zO s).1.names
def hr3 (_ : World) := some (zG.1.names)
def hl4 (w : World) := (zE w).map fun s => ((zO s).1.globalsOk,(zO s).1.builtinsOk,(zO s).1.noLimit,(zO s).1.gens)
def hr4 (_ : World) := some ((zG.1.globalsOk,zG.1.builtinsOk,zG.1.noLimit,zG.1.gens))
def hl5 (w : World) := (zE w).map fun s => (zO s).2.1
def hr5 (_ : World) := some (zG.2.1)
def hl6 (w : World) := (zE w).map fun s => (zO s).2.2.1
def hr6 (_ : World) := some (zG.2.2.1)
def hl7 (w : World) := (zE w).map fun s => (zO s).2.2.2
def hr7 (_ : World) := some (zG.2.2.2)
def hl8 (w : World) := (zE w).map fun s => nms.map (PySem.W.nsIn (Kof 433 s.heap) mainGlobals)
def hr8 (_ : World) := some (nmsE)
def hl9 (w : World) := (zE w).map fun s => (fnd.map (fun p => PySem.W.findIn (Kof 433 s.heap) (.ref p.1) p.2),bls (Kof 433 s.heap))
def hr9 (_ : World) := some ((fndE,blsE))
def hl10 (w : World) := (zE w).map fun s => fnsa.map (fnV (Kof 433 s.heap))
def hr10 (_ : World) := some (fnsaE)
def hl11 (w : World) := (zE w).map fun s => fnsb.map (fnV (Kof 433 s.heap))
def hr11 (_ : World) := some (fnsbE)
def hl12 (w : World) := (zE w).map fun s => fnsc.map (fnV (Kof 433 s.heap))
def hr12 (_ : World) := some (fnscE)
def hl13 (w : World) := (zE w).map fun s => fnsd.map (fnV (Kof 433 s.heap))
def hr13 (_ : World) := some (fnsdE)
def hl14 (w : World) := (zE w).map fun s => fnse.map (fnV (Kof 433 s.heap))
def hr14 (_ : World) := some (fnseE)
def hl15 (w : World) := (zE w).map fun s => fnsf.map (fnV (Kof 433 s.heap))
def hr15 (_ : World) := some (fnsfE)
end K38
namespace PySem.W.Fast
lay_quick K38.hl0 K38.hr0 K38.hl1 K38.hr1 K38.hl2 K38.hr2 K38.hl3 K38.hr3 K38.hl4 K38.hr4 K38.hl5 K38.hr5 K38.hl6 K38.hr6 K38.hl7 K38.hr7 K38.hl8 K38.hr8 K38.hl9 K38.hr9 K38.hl10 K38.hr10 K38.hl11 K38.hr11 K38.hl12 K38.hr12 K38.hl13 K38.hr13 K38.hl14 K38.hr14 K38.hl15 K38.hr15
end PySem.W.Fast
namespace K38
open PySem PyProof.Rows L2 MD PySem.W.Fast
theorem hlq0 (w : World) : tw5847199091826234260 w = tw3079475793362380749 w := by kernel_rfl
theorem hlq1 (w : World) : tw13355325132288495771 w = tw11637383693910327129 w := by kernel_rfl
theorem hlq2 (w : World) : tw9517266354896431146 w = tw541181949767034506 w := by kernel_rfl
theorem hlq3 (w : World) : tw6425957164479230770 w = tw14544886619532427565 w := by kernel_rfl
theorem hlq4 (w : World) : tw14274010807254230827 w = tw16322297226074489258 w := by kernel_rfl
theorem hlq5 (w : World) : tw11804534420498133922 w = tw12089013163250843557 w := by kernel_rfl
theorem hlq6 (w : World) : tw11857349693986920276 w = tw939743827124893274 w := by kernel_rfl
theorem hlq7 (w : World) : tw6987299409208938272 w = tw8227389618447771603 w := by kernel_rfl
theorem hlq8 (w : World) : tw17990011238813085179 w = tw5268381991309352999 w := by kernel_rfl
theorem hlq9 (w : World) : tw10123680707770861731 w = tw16560098328557538157 w := by kernel_rfl
theorem hlq10 (w : World) : tw6013801448408825684 w = tw15947040301183295840 w := by kernel_rfl
theorem hlq11 (w : World) : tw11785837893849486178 w = tw9602761980673809277 w := by kernel_rfl
theorem hlq12 (w : World) : tw13899913348769129187 w = tw7345430457598521415 w := by kernel_rfl
theorem hlq13 (w : World) : tw17276002591921217612 w = tw10367106753726511473 w := by kernel_rfl
theorem hlq14 (w : World) : tw14065778221193178459 w = tw3595137867954568726 w := by kernel_rfl
theorem hlq15 (w : World) : tw6475098168258110313 w = tw6677011018191701821 w := by kernel_rfl
end K38
namespace L2
open PySem PySem.Spec PyProof.Rows
section
variable {X : Cx}
theorem zkV : OpR X (binaryOp .Mult) (fun x y H Q => ∃ z n,x = .str z /\ y = .int n /\ MulOk z n /\ Q (.str (Txt.mul z n)) H) := by
 intro pins s σ H x y v u Q I rx ry h
 obtain ⟨z,n,rfl,rfl,hz,q⟩ := h
 obtain ⟨t,rfl⟩ := rx
 obtain ⟨t',rfl⟩ := ry
 exact SB.mul hz fun t' tk => ⟨.str _,H,I.tok _,⟨_,rfl⟩,q⟩
theorem ziH : CallR X (.type "int") (fun xs H Q => ∃ z n,xs = [.str z] /\ PySem.intText? z = some n /\ z.length <= 640 /\ Q (.int n) H) := by
 intro pins s σ H xs us Q I r h
 obtain ⟨z,n,rfl,hn,hl,q⟩ := h
 obtain ⟨u,rfl,t,rfl⟩ := zb3 r
 exact PySem.W.KIN.call_text hn hl ⟨.int n,H,I.tok _,⟨_,rfl⟩,q⟩
theorem zg7 : OpR X (binaryOp .FloorDiv) (rI (fun _ j => 0 < j /\ j < 2 ^ 64) fun i j => .int (i / j)) := opI fun i j _ _ _ _ _ hc q => by
 have h1 : (0 : Int) < j := hc.1
 have h2 : j < 2 ^ 64 := hc.2
 refine floordiv_int (by omega) (by rw [Int.fdiv_eq_ediv_of_nonneg i (by omega)]; exact q) (.inl (PyProof.noPylong_of_log2 ?_))
 have h3 : j.natAbs < 2 ^ 64 := by omega
 have h4 : j.natAbs.log2 < 64 := (Nat.log2_lt (by omega)).mpr h3
 omega
end
def clSub : List (Str × Addr) -> List (Str × Addr) -> Prop
 | [],_ => True
 | (n,a) :: r,cells => cells.lookup n = some a /\ clSub r cells
theorem clSub.at : ∀ {cl cells : List (Str × Addr)} {x : Str} {c : Addr},clSub cl cells -> cl.lookup x = some c -> cells.lookup x = some c
 | [],_,_,_,_,e => by simp at e
 | (n,a) :: r,cells,x,c,h,e => by
  rw [List.lookup_cons] at e
  cases hx : x == n with
  | true =>
   rw [hx] at e
   cases e
   have q : x = n := by simpa using hx
   rw [q]
   exact h.1
  | false =>
   rw [hx] at e
   exact clSub.at h.2 e
structure CompOk (X : Cx) (N0 : List Str) (scope : Scope) (xs : List Str) (cl : List (Str × Addr)) : Prop where
 clos : closureFor scope X.env = pure cl
 kind : scope.kind = .function
 nocell : (scope.names.all fun y => decide (y.2 ≠ .cell)) = true
 locs : (scope.names.all fun y => decide (y.2 ≠ .local) || (decide (scope.names.lookup y.1 = some .local) && decide (y.1 ∉ N0))) = true
 sub : clSub cl X.env.cells
 has : (scope.names.all fun y => decide (y.2 ≠ .free) || ((cl.lookup y.1).isSome && (decide (X.env.kindOf y.1 = some .cell) || decide (X.env.kindOf y.1 = some .free)))) = true
 hid : N0 = X.N ∨ (N0.length = X.N.length /\ ((N0.zip X.N).all fun p => decide (p.1 = p.2) || (scope.names.lookup p.1).isNone) = true)
def Cx.comp (X : Cx) (N0 : List Str) (scope : Scope) (xs : List Str) (cl : List (Str × Addr)) (C : Addr) (s : Shared) (H : Hp) (fp : List Addr) : Cx :=
 { X with N := N0 ++ xs,s₀ := s,H₀ := H,env := compEnvC scope cl C X.env,outer := X.stack,stack := X.stack,ex := fp,fn := fun _ => false,pn := [] }
theorem zb9 {env : Env} : ∀ {names : List (Str × NameKind)} {x : Str} {k : NameKind},
  (names.map fun (n,k) => if (k == NameKind.free && env.scope.kind == .function && env.kindOf n == some .cell) then (n,NameKind.cell) else (n,k)).lookup x = some k →
  ∃ k',names.lookup x = some k' /\ (x,k') ∈ names /\ (k' = k ∨ (k' = .free /\ k = .cell))
 | [],_,_,h => by simp at h
 | (n,q) :: r,x,k,h => by
  rw [List.map_cons] at h
  cases hx : x == n with
  | true =>
   have e : x = n := by simpa using hx
   subst e
   refine ⟨q,by simp [List.lookup_cons],List.mem_cons_self,?_⟩
   dsimp only at h
   split at h
   ·rename_i hc
    simp [List.lookup_cons] at h
    have : q = .free := by
     simp at hc
     exact hc.1.1
    exact .inr ⟨this,h.symm⟩
   ·simp [List.lookup_cons] at h
    exact .inl h
  | false =>
   have h' : (r.map fun (n,k) => if (k == NameKind.free && env.scope.kind == .function && env.kindOf n == some .cell) then (n,NameKind.cell) else (n,k)).lookup x = some k := by
    dsimp only at h
    split at h <;> (simp only [List.lookup_cons,hx] at h; exact h)
   obtain ⟨k',e1,e2,e3⟩ := zb9 h'
   exact ⟨k',by simp only [List.lookup_cons,hx]; exact e1,List.mem_cons_of_mem _ e2,e3⟩
section
variable {X : Cx} {N0 : List Str} {scope : Scope} {xs : List Str} {cl : List (Str × Addr)}
theorem CompOk.nc (S : CompOk X N0 scope xs cl) : ∀ y ∈ scope.names,y.2 ≠ .cell := fun y hy => of_decide_eq_true (List.all_eq_true.mp S.nocell y hy)
theorem CompOk.lo (S : CompOk X N0 scope xs cl) {y : Str × NameKind} (hy : y ∈ scope.names) (h : y.2 = .local) : scope.names.lookup y.1 = some .local /\ y.1 ∉ N0 := by
 have q := List.all_eq_true.mp S.locs y hy
 rw [Bool.or_eq_true,Bool.and_eq_true,decide_eq_true_eq,decide_eq_true_eq,decide_eq_true_eq] at q
 rcases q with q | q
 ·exact absurd h q
 ·exact q
theorem CompOk.fr (S : CompOk X N0 scope xs cl) {y : Str × NameKind} (hy : y ∈ scope.names) (h : y.2 = .free) : (∃ c,cl.lookup y.1 = some c) /\ (X.env.kindOf y.1 = some .cell ∨ X.env.kindOf y.1 = some .free) := by
 have q := List.all_eq_true.mp S.has y hy
 rw [Bool.or_eq_true,Bool.and_eq_true,Bool.or_eq_true,decide_eq_true_eq,decide_eq_true_eq,decide_eq_true_eq] at q
 rcases q with q | q
 ·exact absurd h q
 ·exact ⟨Option.isSome_iff_exists.mp q.1,q.2⟩
theorem CompOk.vis (S : CompOk X N0 scope xs cl) {x : Str} (h : Vis (relabel scope X.env) x) (hx : x ∈ N0) : ∃ c,cl.lookup x = some c /\ (X.env.kindOf x = some .cell ∨ X.env.kindOf x = some .free) := by
 have go : ∀ k,(relabel scope X.env).names.lookup x = some k -> (k = .local ∨ k = .cell ∨ k = .free) -> ∃ c,cl.lookup x = some c /\ (X.env.kindOf x = some .cell ∨ X.env.kindOf x = some .free) := fun k e hk => by
  obtain ⟨k',_,e2,e3⟩ := zb9 e
  have hf : k' = .free := by
   rcases e3 with e3 | e3
   ·subst e3
    rcases hk with rfl | rfl | rfl
    ·exact absurd hx (S.lo e2 rfl).2
    ·exact absurd rfl (S.nc _ e2)
    ·rfl
   ·exact e3.1
  obtain ⟨⟨c,q⟩,r⟩ := S.fr e2 hf
  exact ⟨c,q,r⟩
 rcases h with h | h | h
 ·exact go _ h (.inl rfl)
 ·exact go _ h (.inr (.inl rfl))
 ·exact go _ h (.inr (.inr rfl))
theorem CompOk.len (S : CompOk X N0 scope xs cl) : N0.length = X.N.length := S.hid.elim (fun h => by rw [h]) fun h => h.1
theorem CompOk.same (S : CompOk X N0 scope xs cl) {i : Nat} {x : Str} (e : N0[i]? = some x) (h : Vis (relabel scope X.env) x) : X.N[i]? = some x := by
 rcases S.hid with q | ⟨q1,q2⟩
 ·rw [<- q]; exact e
 ·have hi : i < N0.length := (List.getElem?_eq_some_iff.mp e).1
  have hx : ∃ k',scope.names.lookup x = some k' := by
   rcases h with h | h | h <;> (obtain ⟨k',z,_⟩ := zb9 h; exact ⟨k',z⟩)
  obtain ⟨k',hk⟩ := hx
  have ey := List.getElem?_eq_getElem (show i < X.N.length by omega)
  have hm : (x,X.N[i]'(by omega)) ∈ N0.zip X.N := List.mem_of_getElem? (i := i) (by rw [List.getElem?_zip_eq_some]; exact ⟨e,ey⟩)
  have := List.all_eq_true.mp q2 _ hm
  rw [hk] at this
  simp at this
  rw [ey,<- this]
theorem CompOk.hasC (S : CompOk X N0 scope xs cl) {x : Str} (h : (relabel scope X.env).names.lookup x = some .cell ∨ (relabel scope X.env).names.lookup x = some .free) : ∃ c,cl.lookup x = some c := by
 have go : ∀ k,(relabel scope X.env).names.lookup x = some k -> (k = .cell ∨ k = .free) -> ∃ c,cl.lookup x = some c := fun k e hk => by
  obtain ⟨k',_,e2,e3⟩ := zb9 e
  have hf : k' = .free := by
   rcases e3 with e3 | e3
   ·subst e3
    rcases hk with rfl | rfl
    ·exact absurd rfl (S.nc _ e2)
    ·rfl
   ·exact e3.1
  exact (S.fr e2 hf).1
 rcases h with h | h
 ·exact go _ h (.inl rfl)
 ·exact go _ h (.inr rfl)
end
section
variable {X : Cx} {N0 : List Str} {scope : Scope} {xs : List Str} {cl : List (Str × Addr)} {pins : List (Addr × Obj)} {σ : St} {H2 : Hp} {s2 : Shared} {fp : List Addr} {C : Addr}
theorem zri (I2 : Inv X pins σ H2 s2) (S : CompOk X N0 scope xs cl) (f2 : ∀ b ∈ fp,zd7 X pins H2 b) (hfp : ∀ b ∈ fp,b < s2.heap.objs.size) (hC : s2.heap.objs.size <= C) : (X.comp N0 scope xs cl C s2 H2 fp).Ok where
 mod := I2.ok.mod
 kind := S.kind
 glob := I2.ok.glob
 blt := I2.ok.blt
 above := hC
 inj := fun x y c h1 h2 => I2.ok.inj x y c (S.sub.at h1) (S.sub.at h2)
 has := fun x h => S.hasC h
 cab := fun _ _ h => nomatch h
 hd := I2.ok.hd
 frames := I2.ok.frames
 stk := .inl rfl
 exf := fun b hb => ⟨Nat.ne_of_lt (Nat.lt_of_lt_of_le (hfp b hb) hC),fun x c e => (f2 b hb).2.2.2.2.1 x c (S.sub.at e)⟩
 bs := I2.bs
 bsz := Nat.le_trans I2.ok.bsz I2.sz
 noex := fun b o e hb => by
  rcases (f2 b hb).2.2.2.1 with z | z
  ·exact I2.ok.noex b o e z
  ·exact absurd (Nat.lt_of_lt_of_le (Heap.lt_size e) (Nat.le_trans I2.ok.bsz z)) (Nat.lt_irrefl _)
 exfs := fun b hb z => by
  rcases List.mem_cons.mp (I2.stkSub b z) with q | q
  ·exact (f2 b hb).2.1 q
  ·exact (f2 b hb).2.2.1 q
 funs := I2.stack
 frf := I2.stkFree
theorem ziz {H' : Hp} {h' : Heap} (I2 : Inv X pins σ H2 s2) (f2 : ∀ b ∈ fp,zd7 X pins H2 b) (u : Un (frs X.stack) fp H2 H' s2.heap h') {x : Str} {c : Addr} {v : Option Value} (e : X.env.cells.lookup x = some c) (z : s2.heap.IsCell c v) : h'.IsCell c v := by
 obtain ⟨o,ho,hd⟩ := z
 obtain ⟨sl,q⟩ := u.any ho (I2.freeC x c e) fun hb => (f2 c hb).2.2.2.2.1 x c e rfl
 exact ⟨_,q,hd⟩
theorem zkw {H' : Hp} {h' : Heap} {m' : Str -> Option Value} (I2 : Inv X pins σ H2 s2) (S : CompOk X N0 scope xs cl) (f2 : ∀ b ∈ fp,zd7 X pins H2 b) (u : Un (frs X.stack) fp H2 H' s2.heap h')
  (i : Nat) (x : Str) (v : V) (e1 : (N0 ++ xs)[i]? = some x) (e2 : (σ ++ List.replicate xs.length none)[i]? = some (some v)) (e3 : Vis (relabel scope X.env) x) :
  ∃ w,RelV v w /\ Look (compEnvC scope cl C X.env) h' m' x w := by
 have hl := I2.len
 have hl0 := S.len
 by_cases hi : i < σ.length
 ·rw [List.getElem?_append_left (by omega)] at e1
  rw [List.getElem?_append_left hi] at e2
  obtain ⟨c,hc,hk⟩ := S.vis e3 (List.mem_of_getElem? e1)
  obtain ⟨m,_,hloc⟩ := I2.loc
  have hv : Vis X.env.scope x := .inr hk
  obtain ⟨w,r,l⟩ := hloc i x v (S.same e1 e3) e2 hv
  have hcx := S.sub.at hc
  refine ⟨w,r,.inr ⟨?_,c,hc,?_⟩⟩
  ·rcases e3 with e3 | e3 | e3
   ·obtain ⟨k',_,m2,m3⟩ := zb9 e3
    rcases m3 with m3 | m3
    ·exact absurd (List.mem_of_getElem? e1) (S.lo m2 m3).2
    ·exact nomatch m3.2
   ·exact .inl e3
   ·exact .inr e3
  ·rcases l with ⟨q,_⟩ | ⟨_,c',q,z⟩
   ·rcases hk with hk | hk
    ·rw [q] at hk; cases hk
    ·rw [q] at hk; cases hk
   ·rw [hcx] at q
    cases q
    exact ziz I2 f2 u hcx z
 ·rw [List.getElem?_append_right (by omega),List.getElem?_replicate] at e2
  split at e2 <;> cases e2
theorem zc5 {pins' : List (Addr × Obj)} {σ' : St} {H' : Hp} {s' : Shared} (I2 : Inv X pins σ H2 s2) (S : CompOk X N0 scope xs cl) (f2 : ∀ b ∈ fp,zd7 X pins H2 b) (J : Inv (X.comp N0 scope xs cl C s2 H2 fp) pins' σ' H' s') :
  Inv (X.comp N0 scope xs cl C s2 H2 fp) pins' (σ ++ List.replicate xs.length none) H' s' :=
 ⟨J.ok,J.os,J.bare,J.base,let ⟨m,hn,_⟩ := J.loc; ⟨m,hn,fun i x v e1 e2 e3 => zkw I2 S f2 J.base i x v e1 e2 e3⟩,J.cell,J.free,J.freeC,J.pin,J.hok,by
  rw [List.length_append,List.length_replicate]
  show σ.length + xs.length = (N0 ++ xs).length
  rw [List.length_append,I2.len,S.len]⟩
theorem zgD {D : Addr} {oD : Obj} {s3 : Shared} {m' : Str -> Option Value} (I2 : Inv X pins σ H2 s2) (S : CompOk X N0 scope xs cl) (f2 : ∀ b ∈ fp,zd7 X pins H2 b) (hfp : ∀ b ∈ fp,b < s2.heap.objs.size) (hC : s2.heap.objs.size <= C) (hD : s2.heap.objs.size <= D) (hDC : D ≠ C)
  (k : ∀ b o,s2.heap.get? b = some o -> s3.heap.get? b = some o) (ho : s3.os = s2.os) (hb : AllBare s3.gens) (hn : s3.heap.Ns C m') (hd : s3.heap.get? D = some oD) (hcell : ∀ v,oD.data ≠ .cell v) :
  Inv (X.comp N0 scope xs cl C s2 H2 fp) [(D,oD)] (σ ++ List.replicate xs.length none) H2 s3 :=
 have u : Un (frs X.stack) fp H2 H2 s2.heap s3.heap := Un.kept k
 ⟨zri I2 S f2 hfp hC,ho,hb,u,⟨m',hn,fun i x v e1 e2 e3 => zkw I2 S f2 u i x v e1 e2 e3⟩,
  fun x c e => by
   obtain ⟨v,z⟩ := I2.cell x c (S.sub.at e)
   exact ⟨v,ziz I2 f2 u (S.sub.at e) z⟩,
  I2.hok.fresh hC,fun x c e => I2.freeC x c (S.sub.at e),
  fun p hp => by
   have e : p = (D,oD) := List.mem_singleton.mp (show p ∈ [(D,oD)] from hp)
   subst e
   refine ⟨hd,I2.hok.fresh hD,hDC,fun z => ?_,hcell⟩
   obtain ⟨_,o,q,_⟩ := I2.stack.mem z
   exact absurd (Nat.lt_of_lt_of_le (Heap.lt_size q) hD) (Nat.lt_irrefl _),
  I2.hok.kept k,by
   rw [List.length_append,List.length_replicate]
   show σ.length + xs.length = (N0 ++ xs).length
   rw [List.length_append,I2.len,S.len]⟩
theorem zdV {P : Program} {w : World} {H : Hp} {h : Heap} {a : Addr} {o : HO} (x : HOk P w H h) (hn : H a = none) (new : ObjOk P w (upd H a o) h a o) : HOk P w (upd H a o) h := fun b u e => by
 by_cases hb : b = a
 ·subst hb
  rw [zax] at e
  cases e
  exact new
 ·rw [zao hb] at e
  exact (x b u e).stay (fun _ _ _ q => q) (fun c q => by rw [zao (zaz q hn)]; exact q) fun c ys q => by rw [zao (zaz q hn)]; exact q
theorem zoU {pins' : List (Addr × Obj)} {σ' : St} {H' : Hp} {s' : Shared} {D : Addr} {ys : List V} {its : List Value} {n : Nat} (I2 : Inv X pins σ H2 s2) (f2 : ∀ b ∈ fp,zd7 X pins H2 b) (hD : s2.heap.objs.size <= D)
  (J : Inv (X.comp N0 scope xs cl C s2 H2 fp) pins' σ' H' s') (hn : H' D = none) (e : s'.heap.get? D = some { cls := .type "list", data := .seq its.toArray n }) (r : Vals ys its) (hz : ys.length <= sizeLine) :
  Inv X pins σ (upd H' D (.lst ys)) s' := by
 have u : Un (frs X.stack) fp H2 H' s2.heap s'.heap := J.base
 have neD : ∀ b o,s2.heap.get? b = some o -> b ≠ D := fun b o q => Nat.ne_of_lt (Nat.lt_of_lt_of_le (Heap.lt_size q) hD)
 have neT : ∀ b o,H2 b = some o -> b ≠ D := fun b o q => Nat.ne_of_lt (Nat.lt_of_lt_of_le (I2.hok.lt q) hD)
 refine I2.call' (ch := fp) J.os ⟨u.keep,u.slot,fun b o q m hx => ?_,u.there,fun b zs q => ?_,fun b o zs q => ?_,fun b ps q => ?_⟩ (zdV J.hok hn ⟨hz,its,n,r,e⟩) J.bare fun b hb => ?_
 ·rw [zao (neD b o q)]
  exact u.free b o q m hx
 ·rw [zao (neT b _ q)]
  exact u.tups b zs q
 ·rw [zao (neT b _ q)]
  exact u.frzs b o zs q
 ·rw [zao (neT b _ q)]
  exact u.tbls b ps q
 ·obtain ⟨_,z1,_,z2,z3,z4⟩ := f2 b hb
  exact ⟨z2,z1,z3,z4⟩
end
def PIf (X : Cx) (ifs : List Expr) (t : TT) : Prop :=
 ∀ (pins : List (Addr × Obj)) (s : Shared) (σ : St) (H : Hp) (Q : Bool -> Hp -> Prop),Inv X pins σ H s -> t σ H Q →
  wpAny (model X.prog X.w) X.A (forIn ifs true fun c r => if r = true then do let ok <- isTrue c X.env (eval c X.env); pure (ForInStep.yield ok) else pure (ForInStep.yield r)) (TP X pins σ Q) X.xe s
def tYes : TT := fun _ H Q => Q true H
theorem zqp {X : Cx} : PIf X [] tYes := fun _ _ _ H _ I h => wpAny_tests_nil ⟨H,I,h⟩
theorem zqo {X : Cx} {c : Expr} {t : TT} (h : PT X c t) : PIf X [c] t := fun pins s σ H Q I hq => wpAny_tests_one (h pins s σ H Q I hq)
def zpI (n : Nat) (wi : TI) (g : TG) (tf : TT) (te : TE) (fin : List V -> Hp -> Prop) : St -> Hp -> Prop := fun σ H => wi σ H fun J H1 => ∃ W : Nat -> Nat -> List V -> Hp -> Prop,(∃ m,W 0 m [] H1) /\ ∀ i m ys H,W i m ys H →
 ys.length <= sizeLine /\ ((J.stop i H /\ fin ys H) ∨ (J.go i H /\ ∃ (Y : V -> Hp -> Prop) (Z : Hp -> Prop),(∀ y H4,Y y H4 -> ys.length < sizeLine /\ ∃ m',m' < m /\ W (i + 1) m' (ys ++ [y]) H4) /\ (∀ H3,Z H3 -> ∃ m',m' < m /\ W (i + 1) m' ys H3) ∧
  ∀ x H',J.yld i H x H' -> g x (σ ++ List.replicate n none) H' fun σ2 H2 => tf σ2 H2 fun b H3 => if b = true then te σ2 H3 Y else Z H3))
theorem zll {prog : Program} {w : World} {A : Around} {R : Result -> Shared -> Prop} {s : Shared} {elt target iter : Expr} {ifs : List Expr} {scope : Scope} {pos : Pos} {it acc : Value} {env : Env} (I : Nat -> Shared -> Prop)
  (turn : ∀ n s,I n s -> wpAny (model prog w) A (pyNext it) (fun r s₁ => match r with
   | none => R (.ok .next) s₁
   | some v => wpAny (model prog w) A (letOwnedTupleGo target it v) (fun _ t₁ => wpAny (model prog w) A (assign target env v) (fun _ s₂ =>
     wpAny (model prog w) A (forIn ifs true fun c r => if r = true then do let ok <- isTrue c env (eval c env); pure (ForInStep.yield ok) else pure (ForInStep.yield r)) (fun ok s₃ =>
      if ok = true then wpAny (model prog w) A (eval elt env) (fun x s₄ => wpAny (model prog w) A (call (.builtin "list.append") [acc,x]) (fun _ s₅ => ∃ m,m < n /\ I m s₅) (fun _ _ => False) s₄) (fun _ _ => False) s₃
      else ∃ m,m < n /\ I m s₃) (fun _ _ => False) s₂) (fun _ _ => False) t₁) (fun _ _ => False) s₁) (fun _ _ => False) s)
  (n : Nat) (h : I n s) : codeAny (model prog w) A (.compLoop (.ListComp elt [⟨target,iter,ifs,0⟩] scope pos) 0 it acc env) R s := by
 refine codeAny_loop rfl I (fun n s hI => ?_) n h
 show wpAny _ A (Sem.onRaise (compTurn _ 0 it acc env) fun x => do noteFrame x env; theTreesLotGoes x) _ _ s
 refine wpAny_noted ?_
 rw [compTurn_list]
 refine wpAny_bind (wpAny_standAt (wpAny_bind (wpAny_mono (turn n s hI) (fun r s₁ h₁ => ?_) fun _ _ z => z.elim)))
 cases r with
 | none => exact wpAny_pure h₁
 | some v =>
  refine wpAny_bind (wpAny_mono h₁ (fun _ t₁ k₁ => ?_) fun _ _ z => z.elim)
  refine wpAny_bind (wpAny_mono k₁ (fun _ s₂ h₂ => wpAny_bind (wpAny_mono h₂ (fun ok s₃ h₃ => ?_) fun _ _ z => z.elim)) fun _ _ z => z.elim)
  cases ok with
  | false => exact wpAny_pure ⟨rfl,h₃⟩
  | true =>
   refine wpAny_bind (wpAny_bind (wpAny_mono h₃ (fun x s₄ h₄ => ?_) fun _ _ z => z.elim))
   exact wpAny_bind (wpAny_mono h₄ (fun _ s₅ h₅ => wpAny_pure (wpAny_pure ⟨rfl,h₅⟩)) fun _ _ z => z.elim)
section
variable {X : Cx} {N0 : List Str} {tg elt iter : Expr} {ifs : List Expr} {scope : Scope} {xs : List Str} {cl : List (Str × Addr)} {pos : Pos} {wi : TI} {g : TG} {tf : TT} {te : TE}
theorem zel {pins : List (Addr × Obj)} {σ : St} {H2 : Hp} {s2 : Shared} {it : Addr} {fp : List Addr} {tn : Nat -> Heap -> Prop} {J : It} {W : Nat -> Nat -> List V -> Hp -> Prop} {m0 : Nat} {fin : List V -> Hp -> Prop} {RR : Value -> Addr -> Result -> Shared -> Prop}
  (hc : X.calm = true) (hx : X.xe = fun _ _ => False) (S : CompOk X N0 scope xs cl)
  (hg : ∀ C s H fp,PG (X.comp N0 scope xs cl C s H fp) tg g) (hf : ∀ C s H fp,PIf (X.comp N0 scope xs cl C s H fp) ifs tf) (he : ∀ C s H fp,PE (X.comp N0 scope xs cl C s H fp) elt te)
  (I2 : Inv X pins σ H2 s2) (T : Turn X.prog X.w X.K tg J fp it tn) (st2 : tn 0 s2.heap) (f2 : ∀ b ∈ fp,zd7 X pins H2 b) (w0 : W 0 m0 [] H2)
  (turn : ∀ i m ys H,W i m ys H -> ys.length <= sizeLine /\ ((J.stop i H /\ fin ys H) ∨ (J.go i H /\ ∃ (Y : V -> Hp -> Prop) (Z : Hp -> Prop),(∀ y H4,Y y H4 -> ys.length < sizeLine /\ ∃ m',m' < m /\ W (i + 1) m' (ys ++ [y]) H4) /\ (∀ H3,Z H3 -> ∃ m',m' < m /\ W (i + 1) m' ys H3) ∧
   ∀ x H',J.yld i H x H' -> g x (σ ++ List.replicate xs.length none) H' fun σ2 H2 => tf σ2 H2 fun b H3 => if b = true then te σ2 H3 Y else Z H3)))
  (hRR : ∀ (D C : Addr) (s' : Shared) (ys : List V) (H' : Hp) (m' : Str -> Option Value),Inv X pins σ (upd H' D (.lst ys)) s' -> H' D = none -> s'.heap.Ns C m' -> zd7 X pins (upd H' D (.lst ys)) C -> fin ys H' -> RR (.ref D) C (.ok .next) s') :
  wpAny (model X.prog X.w) X.A (newList []) (fun acc s₃ => wpAny (model X.prog X.w) X.A (newFunctionEnv scope X.env.globals cl [] X.env.qual none .none (some X.env)) (fun cenv s₄ =>
   codeAny (model X.prog X.w) X.A (.compStart (.ListComp elt [⟨tg,iter,ifs,0⟩] scope pos) 0 (.ref it) acc { cenv with scope := relabel scope X.env }) (RR acc cenv.locals) s₄) X.xe s₃) X.xe s2 := by
 refine wpAny_newObj_type (wpAny_newFunctionEnv S.nc (by intro y hy; simp at hy) (fun h₁ hns₁ hsb₁ => ?_) S.kind)
 dsimp only at hns₁ hsb₁ ⊢
 generalize hG : s2.heap.push { cls := .type "list", dict := none,data := .seq ([] : List Value).toArray } = G at hns₁ hsb₁ ⊢
 have szG : G.objs.size = s2.heap.objs.size + 1 := by rw [<- hG,Heap.size_push]
 have hDC : s2.heap.objs.size ≠ G.objs.size := by rw [szG]; exact Nat.ne_of_lt (Nat.lt_succ_self _)
 have hC : s2.heap.objs.size <= G.objs.size := by rw [szG]; exact Nat.le_succ _
 have hfp : ∀ b ∈ fp,b < s2.heap.objs.size := fun b hb => let ⟨_,e,_⟩ := T.obj 0 _ st2 b hb; Heap.lt_size e
 have old : ∀ b o,s2.heap.get? b = some o -> h₁.get? b = some o := fun b o e =>
  hsb₁.extBut b o (Nat.ne_of_lt (Nat.lt_of_lt_of_le (Heap.lt_size e) hC)) (Heap.get?_push_of_some _ (hG ▸ Heap.get?_push_of_some _ e))
 have hacc : h₁.get? s2.heap.objs.size = some { cls := .type "list", data := .seq ([] : List Value).toArray 0 } := hsb₁.extBut _ _ hDC (Heap.get?_push_of_some _ (hG ▸ Heap.get?_push_size _ rfl))
 have hst₁ : tn 0 h₁ := T.keep 0 _ _ st2 fun b _ o e => old b o e
 have I3 : ∀ tk,Inv (X.comp N0 scope xs cl G.objs.size s2 H2 fp) [(s2.heap.objs.size,{ cls := .type "list", data := .seq ([] : List Value).toArray 0 })] (σ ++ List.replicate xs.length none) H2 { s2 with heap := h₁,toks := tk } := fun tk =>
  zgD I2 S f2 hfp hC (Nat.le_refl _) hDC old rfl I2.bare hns₁ hacc fun _ z => nomatch z
 have stat : ∀ {H' : Hp} {o : Obj},(∀ b ∈ fp,H' b = none) -> ∀ b ∈ fp,zd7 (X.comp N0 scope xs cl G.objs.size s2 H2 fp) [(s2.heap.objs.size,o)] H' b := fun {H' o} hn b hb => by
  refine ⟨hn b hb,Nat.ne_of_lt (Nat.lt_of_lt_of_le (hfp b hb) hC),fun z => ?_,.inl hb,fun x c e => (f2 b hb).2.2.2.2.1 x c (S.sub.at e),fun p hp => ?_⟩
  ·rcases List.mem_cons.mp (I2.stkSub b z) with q | q
   ·exact (f2 b hb).2.1 q
   ·exact (f2 b hb).2.2.1 q
  ·have e : p = (s2.heap.objs.size,o) := List.mem_singleton.mp (show p ∈ [(s2.heap.objs.size,o)] from hp)
   subst e
   exact Nat.ne_of_gt (hfp b hb)
 have loop : ∀ tk,codeAny (model X.prog X.w) X.A (.compLoop (.ListComp elt [⟨tg,iter,ifs,0⟩] scope pos) 0 (.ref it) (.ref s2.heap.objs.size) (compEnvC scope cl G.objs.size X.env)) (RR (.ref s2.heap.objs.size) G.objs.size) { s2 with heap := h₁,toks := tk } := by
  intro tk
  refine zll (fun n s' => ∃ i ys its k H',Inv (X.comp N0 scope xs cl G.objs.size s2 H2 fp) [(s2.heap.objs.size,{ cls := .type "list", data := .seq (its : List Value).toArray k })] (σ ++ List.replicate xs.length none) H' s' /\ tn i s'.heap /\ (∀ b ∈ fp,H' b = none) /\ Vals ys its /\ W i n ys H')
   ?_ m0 ⟨0,[],[],0,H2,I3 tk,hst₁,fun b hb => (f2 b hb).1,.nil,w0⟩
  rintro n s' ⟨i,ys,its,k,H',I',st',fr',rv,w'⟩
  obtain ⟨hlen,way⟩ := turn i n ys H' w'
  rcases way with ⟨stop,qf⟩ | ⟨go,Y,Z,hY,hZ,step⟩
  ·refine thn (T.done (X.comp N0 scope xs cl G.objs.size s2 H2 fp) rfl rfl rfl hc i _ s' _ H' (fun _ _ => False) I' (stat fr') st' stop) fun r s1 ⟨hr,I1⟩ => ?_
   subst hr
   obtain ⟨e,n1,_⟩ := I1.pin _ (List.mem_singleton.mpr rfl)
   obtain ⟨m1,hn1,_⟩ := I1.loc
   refine hRR _ _ s1 ys H' m1 (zoU I2 f2 (Nat.le_refl _) I1 n1 e rv hlen) n1 hn1 ?_ qf
   refine I2.fpOk hC ?_
   rw [zao hDC.symm]
   exact I1.free
  ·refine thn (T.item (X.comp N0 scope xs cl G.objs.size s2 H2 fp) rfl rfl rfl hc i _ s' _ H' (fun _ _ => False) I' (stat fr') st' go) fun r s1 ⟨u,hr,h1⟩ => ?_
   subst hr
   refine thn h1 fun _ s5 ⟨x,H5,I5,r5,y5,st5,fr5⟩ => ?_
   have I5' := I5.pinned (stat fr5) (T.obj _ _ st5)
   have hxe : (X.comp N0 scope xs cl G.objs.size s2 H2 fp).xe = fun _ _ => False := hx
   have q6 := hg _ s2 H2 fp _ s5 _ H5 x u _ I5' r5 (step x H5 y5)
   rw [hxe] at q6
   refine thn q6 fun _ s6 ⟨σ6,H6,I6,q6⟩ => ?_
   have q7 := hf _ s2 H2 fp _ s6 σ6 H6 _ I6 q6
   rw [hxe] at q7
   refine thn q7 fun b s7 ⟨H7,I7,q7⟩ => ?_
   have kept : ∀ {σ' : St} {H' : Hp} {s' : Shared},Inv (X.comp N0 scope xs cl G.objs.size s2 H2 fp) ([(s2.heap.objs.size,{ cls := .type "list", data := .seq its.toArray k })] ++ zbO fp s5.heap) σ' H' s' -> tn (i + 1) s'.heap /\ ∀ b ∈ fp,H' b = none := fun {σ' H' s'} Z => by
    refine ⟨T.keep _ _ _ st5 fun b hb o e => (Z.pin (b,o) (List.mem_append_right _ (List.mem_append_right _ (zbM hb e)))).1,fun b hb => ?_⟩
    obtain ⟨o,e,d⟩ := T.obj _ _ st5 b hb
    exact (Z.pin (b,o) (List.mem_append_right _ (List.mem_append_right _ (zbM hb e)))).2.1
   cases b with
   | false =>
    rw [if_neg Bool.false_ne_true]
    rw [if_neg Bool.false_ne_true] at q7
    obtain ⟨m',hm,w7⟩ := hZ _ q7
    exact ⟨m',hm,i + 1,ys,its,k,H7,zc5 I2 S f2 I7.unpinned,(kept I7).1,(kept I7).2,rv,w7⟩
   | true =>
    rw [if_pos rfl]
    rw [if_pos rfl] at q7
    have q8 := he _ s2 H2 fp _ s7 σ6 H7 _ I7 q7
    rw [hxe] at q8
    refine thn q8 fun y s8 ⟨yv,H8,I8,r8,qY⟩ => ?_
    obtain ⟨hz,m',hm,w8⟩ := hY _ _ qY
    obtain ⟨eD,nD,neC,nfD,_⟩ := I8.pin (s2.heap.objs.size,{ cls := .type "list", data := .seq its.toArray k }) (List.mem_append_right _ (List.mem_append_left _ (List.mem_singleton.mpr rfl)))
    have hl := rv.length
    refine call_meets F.slot_list_append ⟨_,eD,rfl⟩ F.entry_list_append (F.args_list_append_2 _ _) (PySem.list_append s2.heap.objs.size its.toArray k y (by rw [List.size_toArray]; omega)) ⟨eD,?_⟩
    have eN := PySem.IsL.update eD (fun (a : Array Value) => a.push y)
    have eA : its.toArray.push y = (its ++ [y]).toArray := by simp
    rw [eA] at eN
    have drop : Inv (X.comp N0 scope xs cl G.objs.size s2 H2 fp) (zbO fp s5.heap) σ6 H8 s8 := I8.pins_of fun p hp => I8.pin p (List.mem_append_right _ (List.mem_append_right _ hp))
    have I9 : Inv (X.comp N0 scope xs cl G.objs.size s2 H2 fp) (zbO fp s5.heap) σ6 H8 { s8 with heap := s8.heap.update s2.heap.objs.size (Obj.mapSeq fun (a : Array Value) => a.push y) } := by
     refine drop.turned (it := s2.heap.objs.size) (t' := s8.toks) (fun b o hb q => (Heap.get?_update_other s8.heap _ (Ne.symm hb)).trans q) nD neC (.inr (Nat.le_refl _)) (fun x c e z => ?_) fun p hp z => ?_
     ·obtain ⟨v,q⟩ := I2.cell x c (S.sub.at e)
      exact absurd (q.lt) (by rw [z]; exact Nat.lt_irrefl _)
     ·have hp' : p ∈ zbO fp s5.heap := hp
      exact absurd (hfp _ (zfu hp').1) (by rw [z]; exact Nat.lt_irrefl _)
    have I10 : Inv (X.comp N0 scope xs cl G.objs.size s2 H2 fp) ([(s2.heap.objs.size,{ cls := .type "list", data := .seq (its ++ [y]).toArray _ })] ++ zbO fp s5.heap) σ6 H8 { s8 with heap := s8.heap.update s2.heap.objs.size (Obj.mapSeq fun (a : Array Value) => a.push y) } := I9.pins_of fun p hp => by
     rcases List.mem_append.mp hp with z | z
     ·have e := List.mem_singleton.mp z
      subst e
      exact ⟨eN,nD,neC,nfD,fun _ z => nomatch z⟩
     ·exact I9.pin p (List.mem_append_right _ z)
    have kp : tn (i + 1) (s8.heap.update s2.heap.objs.size (Obj.mapSeq fun (a : Array Value) => a.push y)) /\ ∀ b ∈ fp,H8 b = none := by
     refine ⟨T.keep _ _ _ (kept I8).1 fun b hb o e => (Heap.get?_update_other s8.heap _ (Nat.ne_of_gt (hfp b hb))).trans e,(kept I8).2⟩
    exact ⟨m',hm,i + 1,ys ++ [yv],its ++ [y],_,H8,zc5 I2 S f2 I10.unpinned,kp.1,kp.2,rv.append (.cons r8 .nil),w8⟩
 exact codeAny_compStart_list (loop _) (T.self _ 0 _ _ _ hst₁ (loop _))
theorem zd3 {pins : List (Addr × Obj)} {σ : St} {H : Hp} {s : Shared} {h' : Heap} {C : Addr} (I : Inv X pins σ H s) (f : zd7 X pins H C) (k : Heap.SameBut C s.heap h') : Inv X pins σ H { s with heap := h' } := by
 obtain ⟨n,nl,nf,ab,nc,np⟩ := f
 exact I.turned (it := C) (t' := s.toks) (fun b o hb e => k.extBut b o hb e) n nl ab nc np
theorem zqx (hc : X.calm = true) (hx : X.xe = fun _ _ => False) (S : CompOk X N0 scope xs cl) (hi : PI X tg iter wi)
  (hg : ∀ C s H fp,PG (X.comp N0 scope xs cl C s H fp) tg g) (hf : ∀ C s H fp,PIf (X.comp N0 scope xs cl C s H fp) ifs tf) (he : ∀ C s H fp,PE (X.comp N0 scope xs cl C s H fp) elt te)
  (hs : autoParam (∀ x,foldedSetIterable iter X.env x = pure x) AutoP.a2._auto_1) :
  PE X (.ListComp elt [⟨tg,iter,ifs,0⟩] scope pos) (fun σ H Q => zpI xs.length wi g tf te (fun ys H' => ∀ p,H' p = none -> Q (.ref p) (upd H' p (.lst ys))) σ H) := by
 intro pins s σ H Q I h
 rw [eval_ListComp]
 refine wpAny_comprehension_free (use := none) rfl hs S.clos S.kind (fun y hy hl => (S.lo hy hl).1) ?_
 refine thn (hi pins s σ H _ I h) fun xv s1 h1 => thn h1 fun itv s2 h2 => ?_
 obtain ⟨it,fp,tn,J,H2,rfl,I2,T,st2,f2,W,⟨m0,w0⟩,turn⟩ := h2
 refine zel (RR := fun acc C => compPost (model X.prog X.w) X.A X.xe none (EP X pins σ Q) acc C) hc hx S hg hf he I2 T st2 f2 w0 turn ?_
 intro D C s' ys H' m' I' nD hn fC fin
 exact ⟨m',hn,fun h' k => ⟨.ref D,_,zd3 I' fC k,rfl,fin D nD⟩⟩
theorem zqa {i : Nat} {y : Str} {py spos : Pos} (hc : X.calm = true) (hx : X.xe = fun _ _ => False) (hN : X.N.Nodup) (hy : X.N[i]? = some y) (hl : X.env.scope.names.lookup y = some .local) (S : CompOk X N0 scope xs cl) (hi : PI X tg iter wi)
  (hg : ∀ C s H fp,PG (X.comp N0 scope xs cl C s H fp) tg g) (hf : ∀ C s H fp,PIf (X.comp N0 scope xs cl C s H fp) ifs tf) (he : ∀ C s H fp,PE (X.comp N0 scope xs cl C s H fp) elt te)
  (hsw : autoParam (swapsWith (.ListComp elt [⟨tg,iter,ifs,0⟩] scope pos) (some (.Name y py)) spos.line X.env = pure true) AutoP.a4._auto_1)
  (hs : autoParam (∀ x,foldedSetIterable iter X.env x = pure x) AutoP.a2._auto_1) :
  PS X (.Assign [.Name y py] (.ListComp elt [⟨tg,iter,ifs,0⟩] scope pos) spos) (fun D σ H => zpI xs.length wi g tf te (fun ys H' => ∀ p,H' p = none -> D.nx (σ.set i (some (.ref p))) (upd H' p (.lst ys))) σ H) := by
 intro pins s σ H D I h
 rw [exec_Assign_Name_used _ _ _ _ hsw]
 refine wpAny_bind (wpAny_standAt (wpAny_bind ?_))
 show wpAny _ X.A (comprehension (.ListComp elt [⟨tg,iter,ifs,0⟩] scope pos) scope X.env _ (newList []) false (eval iter X.env) (some (assign (.Name y py) X.env)) >>= fun _ => _) _ _ s
 refine wpAny_bind (wpAny_mono (wpAny_comprehension_free (use := some (assign (.Name y py) X.env)) (Q := fun _ s' => SP X pins D .next s') rfl hs S.clos S.kind (fun y hy hl => (S.lo hy hl).1) ?_) (fun _ s' hq => wpAny_pure (wpAny_pure hq)) fun _ _ e => e)
 refine thn (hi pins s σ H _ I h) fun xv s1 h1 => thn h1 fun itv s2 h2 => ?_
 obtain ⟨it,fp,tn,J,H2,rfl,I2,T,st2,f2,W,⟨m0,w0⟩,turn⟩ := h2
 refine zel (RR := fun acc C => compPost (model X.prog X.w) X.A X.xe (some (assign (.Name y py) X.env)) (fun _ s' => SP X pins D .next s') acc C) hc hx S hg hf he I2 T st2 f2 w0 turn ?_
 intro d C s' ys H' m' I' nD hn fC fin
 obtain ⟨oC,es,ep,ho,hd,hr⟩ := hn
 have IC : Inv X (pins ++ [(C,oC)]) σ (upd H' d (.lst ys)) s' := I'.pins_of fun p hp => by
  rcases List.mem_append.mp hp with z | z
  ·exact I'.pin p (List.mem_append_right _ z)
  ·have e := List.mem_singleton.mp z
   subst e
   exact ⟨ho,fC.1,fC.2.1,fC.2.2.1,fun v z => by rw [hd] at z; cases z⟩
 show wpAny (model X.prog X.w) X.A (assign (.Name y py) X.env (.ref d)) _ _ s'
 refine thn (zmf (pos := py) hN hy (.inl hl) (.inr hl) _ s' σ _ (.ref d) (.ref d) _ IC rfl (fin d nD)) fun _ s'' ⟨σ'',H'',I'',q''⟩ => ?_
 have pC := I''.pin (C,oC) (List.mem_append_right _ (List.mem_append_right _ (List.mem_singleton.mpr rfl)))
 refine ⟨_,⟨oC,es,ep,pC.1,hd,hr⟩,fun h' k => ⟨σ'',H'',zd3 I''.unpinned ⟨pC.2.1,fC.2⟩ k,q''⟩⟩
end
section
variable {g : TG} {tf : TT} {te : TE} {fin : List V -> Hp -> Prop} {n : Nat} {σ : St} {H : Hp}
theorem znG {J : It} {k : Nat} (Pv : Nat -> List V -> Hp -> Prop) (hk : k <= 1000000) (h0 : Pv 0 [] H) (hz : ∀ i ys H,Pv i ys H -> ys.length <= i)
  (hgo : ∀ i ys H,i < k -> Pv i ys H -> J.go i H /\ ∀ x H',J.yld i H x H' -> g x (σ ++ List.replicate n none) H' fun σ2 H2 => tf σ2 H2 fun b H3 => if b = true then te σ2 H3 (fun y H4 => Pv (i + 1) (ys ++ [y]) H4) else Pv (i + 1) ys H3)
  (hst : ∀ ys H,Pv k ys H -> J.stop k H /\ fin ys H) :
  ∃ W : Nat -> Nat -> List V -> Hp -> Prop,(∃ m,W 0 m [] H) /\ ∀ i m ys H,W i m ys H -> ys.length <= sizeLine /\ ((J.stop i H /\ fin ys H) ∨ (J.go i H /\ ∃ (Y : V -> Hp -> Prop) (Z : Hp -> Prop),(∀ y H4,Y y H4 -> ys.length < sizeLine /\ ∃ m',m' < m /\ W (i + 1) m' (ys ++ [y]) H4) ∧
   (∀ H3,Z H3 -> ∃ m',m' < m /\ W (i + 1) m' ys H3) /\ ∀ x H',J.yld i H x H' -> g x (σ ++ List.replicate n none) H' fun σ2 H2 => tf σ2 H2 fun b H3 => if b = true then te σ2 H3 Y else Z H3)) := by
 have hl : sizeLine = 16777216 := sizeLine_eq
 refine ⟨fun i m ys H => m = k - i /\ i <= k /\ Pv i ys H,⟨k,by simp,Nat.zero_le _,h0⟩,?_⟩
 rintro i m ys H ⟨rfl,hi,p⟩
 have z := hz i ys H p
 refine ⟨by omega,?_⟩
 by_cases hlt : i < k
 ·obtain ⟨g1,g2⟩ := hgo i ys H hlt p
  exact .inr ⟨g1,fun y H4 => Pv (i + 1) (ys ++ [y]) H4,fun H3 => Pv (i + 1) ys H3,fun y H4 q => ⟨by omega,k - (i + 1),by omega,rfl,hlt,q⟩,fun H3 q => ⟨k - (i + 1),by omega,rfl,hlt,q⟩,g2⟩
 ·have e : i = k := by omega
  subst e
  exact .inl (hst ys H p)
end
theorem zly {ns : List Int} {its : List Value} (r : Vals (ns.map V.int) its) {i : Nat} {v : Value} (e : its.toArray[i]? = some v) : ∃ t,v = .int (ns.getD i 0) t := by
 have e' : its[i]? = some v := by simpa using e
 have hi : i < ns.length := by
  have h1 := r.length
  have h2 := (List.getElem?_eq_some_iff.mp e').1
  rw [List.length_map] at h1
  omega
 obtain ⟨u,q,t,z⟩ := r.get (i := i) (x := .int (ns[i])) (by simp [hi])
 rw [e'] at q
 cases q
 exact ⟨t,by rw [z]; simp [hi]⟩
theorem znk {ns : List Int} {i : Nat} (h : i < ns.length) : ns.getD i 0 = ns[i] := by simp [h]
def Itf (f : Nat -> V) (n : Nat) : It := ⟨fun i _ => i < n,fun i H x H' => H' = H /\ x = f i,fun i _ => i = n⟩
theorem zhx {P : Program} {w : World} {K : PySem.W.Frag} {tg : Expr} {it : Addr} {n : Nat} {Pq : Nat -> Value -> Prop} {St : Nat -> Heap -> Prop} {f : Nat -> V} {nm : String}
  (W : ∀ A : Around,A.handled = none -> Walks P w A it [it] [it] n Pq St) (ho : ∀ i h,St i h -> ∃ o vs,h.get? it = some o /\ o.cls = .type nm /\ o.data = .fields vs)
  (hfr : ∀ i h h',St i h -> (∀ b ∈ [it],∀ o,h.get? b = some o -> h'.get? b = some o) -> St i h') (hn : ["enumerate", "zip", "dict_itemiterator", "dict_reverseitemiterator", "odict_iterator", "itertools.zip_longest", "itertools.pairwise"].contains nm = false)
  (hP : ∀ i v,i < n -> Pq i v -> RelV (f i) v) (hself : ∀ (A : Around) (i : Nat) (s : Shared) (Q : Value -> Shared -> Prop) (E : Value -> Shared -> Prop),St i s.heap -> Q (.ref it) s -> wpAny (model P w) A (pyIter (.ref it)) Q E s) : Turn P w K tg (Itf f n) [it] it St where
 mem := by simp
 obj := fun i h st b hb => by
  have e : b = it := by simpa using hb
  subst e
  obtain ⟨o,vs,e,c,d⟩ := ho i h st
  exact ⟨o,e,fun v z => by rw [d] at z; cases z⟩
 keep := fun i h h' st k => hfr i h h' st k
 item := by
  intro X hP' hw hK hc i pins s σ H E I hf st hg
  subst hP' hw hK
  obtain ⟨f0,f1,f2,f3,f4,f5⟩ := hf it (by simp)
  refine (W X.A (I.ok.hd hc)).item i s _ _ hg st fun v h' tk hv st' kk => ?_
  have I1 : Inv X pins σ H { s with heap := h',toks := tk } := I.turned (fun b o hb e => kk b o (by simpa using hb) e) f0 f1 f3 f4 f5
  obtain ⟨o,vs,e,c,d⟩ := ho _ _ st'
  exact ⟨v,rfl,znj (s := { s with heap := h',toks := tk }) e c d hn ⟨f i,H,I1,hP i v hg hv,⟨rfl,rfl⟩,st',fun b hb => (hf b hb).1⟩⟩
 done := by
  intro X hP' hw hK hc i pins s σ H E I hf st hg
  subst hP' hw hK
  obtain ⟨f0,f1,f2,f3,f4,f5⟩ := hf it (by simp)
  have e : i = n := hg
  subst e
  exact (W X.A (I.ok.hd hc)).done s _ _ st fun h' tk kk => ⟨rfl,I.turned (fun b o hb e => kk b o (by simpa using hb) e) f0 f1 f3 f4 f5⟩
 self := hself
def sgn (z : Str) (i : Nat) : V := .str ⟨#[z.cps.getD i 0]⟩
def iTxt (tl : TE) : TI := fun σ H R => tl σ H fun x H1 => ∃ z,x = .str z /\ R (Itf (sgn z) z.cps.size) H1
theorem zdb {h : Heap} {it : Addr} {nm : String} {x : Str} {t : Tok} {i : Nat} (st : h.IsStrIter it nm x t i) : ∃ o vs,h.get? it = some o /\ o.cls = .type nm /\ o.data = .fields vs := by
 obtain ⟨o,e,c,d⟩ := st
 exact ⟨o,_,e,c,d⟩
theorem zer {h h' : Heap} {it : Addr} {nm : String} {x : Str} {t : Tok} {i : Nat} (st : h.IsStrIter it nm x t i) (k : ∀ b ∈ [it],∀ o,h.get? b = some o -> h'.get? b = some o) : h'.IsStrIter it nm x t i := let ⟨o,ho,r⟩ := st; ⟨o,k it (by simp) o ho,r⟩
theorem ziR {z : Str} {i : Nat} {v : Value} (h : SignAt z i v) : RelV (sgn z i) v := by
 obtain ⟨c,u,e,rfl⟩ := h
 refine ⟨u,?_⟩
 have : z.cps.getD i 0 = c := by simp [Array.getD_eq_getD_getElem?,e]
 rw [this]
theorem pi_txt {X : Cx} {tg : Expr} {l : Expr} {tl : TE} (hl : PE X l tl) : PI X tg l (iTxt tl) := by
 intro pins s σ H R I h
 refine thn (hl pins s σ H _ I h) fun v s1 ⟨x,H1,I1,r1,q1⟩ => ?_
 obtain ⟨z,e,q⟩ := q1
 subst e
 obtain ⟨t,rfl⟩ := r1
 have fp : ∀ b ∈ [s1.heap.objs.size],zd7 X pins H1 b := fun b hb => by
  have e : b = s1.heap.objs.size := by simpa using hb
  subst e
  exact I1.fpOk (Nat.le_refl _) (I1.hok.fresh (Nat.le_refl _))
 cases ha : z.cps.all (· < 128)
 ·refine wpAny_pyIter_wide ha ?_
  exact ⟨s1.heap.objs.size,[s1.heap.objs.size],_,_,H1,rfl,I1.kept (t' := s1.toks) fun b o e => Heap.get?_push_of_some _ e,zhx (nm := "str_iterator") (St := fun i h => h.IsStrIter s1.heap.objs.size "str_iterator" z t i) (fun A hA => Walks.strWide hA _ z t) (fun i h st => zdb st) (fun i h h' st k => zer st k) (by decide) (fun i v _ hv => ziR hv) (fun A i s Q E st q => wpAny_pyIter_striter_wide st q),⟨_,Heap.get?_push_size _ rfl,rfl,rfl⟩,fp,q⟩
 ·refine wpAny_pyIter_ascii ha ?_
  exact ⟨s1.heap.objs.size,[s1.heap.objs.size],_,_,H1,rfl,I1.kept (t' := s1.toks) fun b o e => Heap.get?_push_of_some _ e,zhx (nm := "str_ascii_iterator") (St := fun i h => h.IsStrIter s1.heap.objs.size "str_ascii_iterator" z t i) (fun A hA => Walks.strAscii hA _ z t) (fun i h st => zdb st) (fun i h h' st k => zer st k) (by decide) (fun i v _ hv => ziR hv) (fun A i s Q E st q => wpAny_pyIter_striter_ascii st q),⟨_,Heap.get?_push_size _ rfl,rfl,rfl⟩,fp,q⟩
variable {X : Cx}
theorem sl_txt : SlR X (fun x lo hi H Q => ∃ z,x = .str z /\ z.length <= sizeLine /\ Q (.str (Txt.slice z lo hi)) H) := by
 intro pins s σ H x v vl vu lo hi sl Q I rx hs pl pu q
 obtain ⟨z,rfl,hz,q⟩ := q
 obtain ⟨t,rfl⟩ := rx
 obtain ⟨o,e,c,d⟩ := hs
 have hp : ∀ {v : Value} {o : Option Int},IsPart v o -> ∃ p : Option (Int × Tok),v = partValue p /\ p.map (·.1) = o := by
  intro v o h
  cases h with
  | none => exact ⟨none,rfl,rfl⟩
  | int i t => exact ⟨some (i,t),rfl,rfl⟩
 obtain ⟨l,rfl,hl⟩ := hp pl
 obtain ⟨u,rfl,hu⟩ := hp pu
 subst hl hu
 refine ⟨"str", _,F.slot_str_getitem.lookup,typeIs_str _ _ _,wpAny_getItem_str_slice (l := l) (u := u) (st := none) ⟨o,e,c,d⟩ rfl ?_⟩
 exact post_val_or_str ⟨Nat.le_trans (Txt.slice_le z _ _) hz,fun t' k => ⟨.str (Txt.slice z (l.map (·.1)) (u.map (·.1))),H,I.tok _,⟨t',rfl⟩,q⟩⟩
theorem zkL {z : Str} {acc : Array Value} (h : ItemsOf (SignAt z) acc z.cps.size) : Vals ((List.range z.cps.size).map (sgn z)) acc.toList := by
 obtain ⟨h1,h2⟩ := h
 have gen : ∀ (n k : Nat) (ls : List Value),ls.length = n -> (∀ j v,ls[j]? = some v -> SignAt z (k + j) v) -> Vals ((List.range' k n).map (sgn z)) ls := by
  intro n
  induction n with
  | zero => intro k ls hl _; have : ls = [] := List.length_eq_zero_iff.mp hl; subst this; exact .nil
  | succ n ih =>
   intro k ls hl hh
   cases ls with
   | nil => cases hl
   | cons v ls =>
    rw [List.range'_succ,List.map_cons]
    refine .cons (ziR (by simpa using hh 0 v rfl)) (ih (k + 1) ls (by simpa using hl) fun j v e => ?_)
    have := hh (j + 1) v (by simpa using e)
    rwa [show k + (j + 1) = k + 1 + j by omega] at this
 rw [List.range_eq_range']
 refine gen _ 0 _ (by simpa using h1) fun j v e => ?_
 rw [Nat.zero_add]
 exact h2 j v (by simpa using e)
theorem zgg (hc : X.calm = true) : CallR X (.type "tuple") (fun xs H Q => ∃ z,xs = [.str z] /\ z.cps.size <= sizeLine /\ ∀ l,H l = none -> Q (.ref l) (upd H l (.tup ((List.range z.cps.size).map (sgn z))))) := by
 intro pins s σ H xs us Q I r h
 obtain ⟨z,rfl,hz,q⟩ := h
 obtain ⟨u,rfl,t,rfl⟩ := zb3 r
 refine call_tuple_str (I.ok.hd hc) z t (fun h' tk acc kp it => ?_) hz
 have hv := zkL it
 have I1 : Inv X pins σ H { s with heap := h',toks := tk } := I.kept kp
 have I2 : Inv X pins σ (upd H h'.objs.size (.tup ((List.range z.cps.size).map (sgn z)))) { s with heap := h'.push { cls := .type "tuple", data := .seq acc },toks := tk } :=
  I1.laid (t' := tk) (fun b o e => Heap.get?_push_of_some _ e) (Nat.le_refl _) (show ObjOk X.prog X.w _ _ _ (.tup _) from ⟨by simpa using hz,acc.toList,hv,by simpa using IsTup.new h' acc,_,Heap.get?_push_size _ rfl,rfl⟩)
 exact ⟨.ref h'.objs.size,_,I2,rfl,q _ (I1.hok.fresh (Nat.le_refl _))⟩
variable {X : Cx}
variable {X : Cx} {K : PySem.W.Frag}
end L2
namespace PySem
open Sem (wp)
open Builtin
namespace F
end F
end PySem
namespace L2
open PySem PySem.Spec PyProof.Rows
section
variable {X : Cx} {tg : Expr}
theorem zoW : CallR X (.type "range") (fun xs H Q => ∃ n : Int,xs = [.int n] /\ 0 <= n /\ n < 2 ^ 62 /\ ∀ p,H p = none -> Q (.ref p) (upd H p (.rng 0 n))) := by
 intro pins s σ H xs us Q I r h
 obtain ⟨n,rfl,h0,h1,q⟩ := h
 obtain ⟨u,rfl,t,rfl⟩ := zb3 r
 refine call_range_1 ?_
 exact ⟨.ref s.heap.objs.size,_,I.laid (o := .rng 0 n) (fun b o e => Heap.get?_push_of_some _ e) (Nat.le_refl _) ⟨_,_,_,Heap.get?_push_size _ rfl⟩,rfl,q _ (I.hok.fresh (Nat.le_refl _))⟩
end
end L2
namespace PySem
open Sem (wp)
open Builtin Builtin.Str
namespace F
end F
end PySem
namespace PySem
open Sem (wp)
open Builtin Builtin.Str
end PySem
namespace L2
open PySem PySem.Spec PyProof.Rows
theorem Inv.turn2 {X : Cx} {pins : List (Addr × Obj)} {σ : St} {H : Hp} {s : Shared} {h' : Heap} {t' : Nat} {a b : Addr} (I : Inv X pins σ H s) (fa : zd7 X pins H a) (fb : zd7 X pins H b)
  (k : ∀ c o,c ≠ a -> c ≠ b -> s.heap.get? c = some o -> h'.get? c = some o) : Inv X pins σ H { s with heap := h',toks := t' } := by
 obtain ⟨a0,a1,a2,a3,a4,a5⟩ := fa
 obtain ⟨b0,b1,b2,b3,b4,b5⟩ := fb
 have na : ∀ c u,H c = some u -> c ≠ a := fun c u e z => by rw [z,a0] at e; cases e
 have nb : ∀ c u,H c = some u -> c ≠ b := fun c u e z => by rw [z,b0] at e; cases e
 refine I.step (g' := s.gens) (d' := s.drawn) (ch := [a,b]) (fun c hc => ?_) (fun c o _ _ hc e _ => k c o (fun z => hc (by simp [z])) (fun z => hc (by simp [z])) e) (fun c o _ _ hc e _ => ⟨o.slots,k c o (fun z => hc (by simp [z])) (fun z => hc (by simp [z])) e⟩)
  (fun _ _ _ _ n => n) (fun c o hc e => ⟨o,k c o (fun z => hc (by simp [z])) (fun z => hc (by simp [z])) e⟩) (fun _ _ e => e) (fun _ _ _ e => e) (fun c ps e => ⟨#[],by rw [e]; simp⟩) (fun m hm => ?_) (fun c u e => ?_) I.bare
 ·have e : c = a ∨ c = b := by simpa using hc
  rcases e with rfl | rfl
  ·exact ⟨a3,a1,a4,a5⟩
  ·exact ⟨b3,b1,b4,b5⟩
 ·obtain ⟨o,es,ep,ho,r⟩ := hm
  exact ⟨o,es,ep,k _ o (Ne.symm a1) (Ne.symm b1) ho,r⟩
 ·refine (I.hok c u e).stay (fun d v hd q => ?_) (fun _ q => q) fun _ _ q => q
  rcases hd with z | z
  ·rw [z] at q ⊢
   exact k c v (na c u e) (nb c u e) q
  ·exact k d v (na d _ z) (nb d _ z) q
theorem Inv.turn2l {X : Cx} {pins : List (Addr × Obj)} {σ : St} {H : Hp} {s : Shared} {h' : Heap} {t' : Nat} {a b T : Addr} {o' : HO} (I : Inv X pins σ H s) (fa : zd7 X pins H a) (fb : zd7 X pins H b)
  (k : ∀ c o,c ≠ a -> c ≠ b -> s.heap.get? c = some o -> h'.get? c = some o) (hT : s.heap.objs.size <= T) (new : ObjOk X.prog X.w (upd H T o') h' T o') : Inv X pins σ (upd H T o') { s with heap := h',toks := t' } := by
 have J : Inv X pins σ H { s with heap := h',toks := t' } := I.turn2 fa fb k
 have hn : H T = none := I.hok.fresh hT
 obtain ⟨a0,a1,a2,a3,a4,a5⟩ := fa
 obtain ⟨b0,b1,b2,b3,b4,b5⟩ := fb
 have nT : ∀ c o,s.heap.get? c = some o -> c ≠ T := fun c o q => Nat.ne_of_lt (Nat.lt_of_lt_of_le (Heap.lt_size q) hT)
 refine I.step (g' := s.gens) (d' := s.drawn) (ch := [a,b]) (fun c hc => ?_) (fun c o _ _ hc e _ => k c o (fun z => hc (by simp [z])) (fun z => hc (by simp [z])) e) (fun c o _ _ hc e _ => ⟨o.slots,k c o (fun z => hc (by simp [z])) (fun z => hc (by simp [z])) e⟩)
  (fun c o _ q n => by rw [zao (nT c o q)]; exact n) (fun c o hc e => ⟨o,k c o (fun z => hc (by simp [z])) (fun z => hc (by simp [z])) e⟩) (fun c xs e => by rw [zao (zaz e hn)]; exact e) (fun c u xs e => by rw [zao (zaz e hn)]; exact e)
  (fun c ps e => ⟨#[],by rw [zao (zaz e hn),e]; simp⟩) (fun m hm => ?_) (zdV J.hok hn new) I.bare
 ·have e : c = a ∨ c = b := by simpa using hc
  rcases e with rfl | rfl
  ·exact ⟨a3,a1,a4,a5⟩
  ·exact ⟨b3,b1,b4,b5⟩
 ·obtain ⟨o,es,ep,ho,r⟩ := hm
  exact ⟨o,es,ep,k _ o (Ne.symm a1) (Ne.symm b1) ho,r⟩
end L2
namespace PySem
open Sem (wp)
open Builtin
section
variable {prog : Program} {w : World} {A : Around} {E : Value -> Shared -> Prop} {s : Shared}
theorem zfw {it l : Addr} {i : Nat} {items : Array Value} {x : Value} {Q : Value -> Shared -> Prop} (hit : s.heap.IsTupleIter it l i) (hl : s.heap.IsTuple l items) (hx : items[i]? = some x)
  (hQ : ∀ h',h'.IsTupleIter it l (i + 1) -> Heap.SameBut it s.heap h' -> Q x { s with heap := h' }) : wpAny (model prog w) A (SmallTypes.nextOf (.ref it)) Q E s := by
 obtain ⟨o,ho,hc,hd⟩ := id hit
 obtain ⟨ol,hol,_,nl,hdl⟩ := hl
 have e0 : ¬ ((Value.ref l == Value.none) = true) := Bool.false_ne_true
 unfold SmallTypes.nextOf
 refine wpAny_bind (wpAny_callSpecial?_slot (name := Str.ofString "__next__") hit.typeIs F.slot_tuple_iterator_next (wpAny_call_entry F.slot_tuple_iterator_next hit.typeIs F.entry_tuple_iterator_next ?_ (F.args_tuple_iterator_next_1 _)))
 refine wpAny_bind (m := field (.ref it) 0) (wpAny_field ho hd (x := .ref l) rfl ?_)
 show wpAny _ _ (if (Value.ref l == Value.none) = true then _ else _) _ _ s
 rw [if_neg e0]
 refine wpAny_bind (m := field (.ref it) 1) (wpAny_field ho hd (x := .int i 0) rfl ?_)
 refine wpAny_bind (m := seqItems? (.ref l)) (wpAny_seqItems hol hdl ?_)
 simp only [Int.toNat_natCast,hx]
 refine wpAny_bind (wpAny_setField ho hd (by simp) (wpAny_pure ⟨x,rfl,wpAny_pure (hQ _ ⟨_,Heap.get?_update_self _ ho (Obj.isFreed_of_fields (Obj.data_mapFields hd _)),(Obj.cls_mapFields ..).trans hc,?_⟩ (Heap.SameBut.update ..))⟩))
 rw [Obj.data_mapFields hd]
 simp [rawInt]
theorem zgb {it l : Addr} {i : Nat} {items : Array Value} {Q : Value -> Shared -> Prop} (hh : A.handled = none) (hit : s.heap.IsTupleIter it l i) (hl : s.heap.IsTuple l items) (hx : items[i]? = none)
  (hE : ∀ h' e,Heap.ExtBut it s.heap h' -> (∃ o,h'.get? e = some o /\ o.cls = .type "StopIteration") -> E (.ref e) { s with heap := h' }) : wpAny (model prog w) A (SmallTypes.nextOf (.ref it)) Q E s := by
 obtain ⟨o,ho,hc,hd⟩ := id hit
 obtain ⟨ol,hol,_,nl,hdl⟩ := hl
 have e0 : ¬ ((Value.ref l == Value.none) = true) := Bool.false_ne_true
 unfold SmallTypes.nextOf
 refine wpAny_bind (wpAny_callSpecial?_slot (name := Str.ofString "__next__") hit.typeIs F.slot_tuple_iterator_next (wpAny_call_entry F.slot_tuple_iterator_next hit.typeIs F.entry_tuple_iterator_next ?_ (F.args_tuple_iterator_next_1 _)))
 refine wpAny_bind (m := field (.ref it) 0) (wpAny_field ho hd (x := .ref l) rfl ?_)
 show wpAny _ _ (if (Value.ref l == Value.none) = true then _ else _) _ _ s
 rw [if_neg e0]
 refine wpAny_bind (m := field (.ref it) 1) (wpAny_field ho hd (x := .int i 0) rfl ?_)
 refine wpAny_bind (m := seqItems? (.ref l)) (wpAny_seqItems hol hdl ?_)
 simp only [Int.toNat_natCast,hx]
 refine wpAny_bind (wpAny_rule (wpAny_bind (wpAny_setField ho hd (by simp) ?_)))
 show wpAny _ _ (newExc (.type "StopIteration") [] >>= _) _ _ _
 refine wpAny_bind ?_
 simp only [newExc,newTuple]
 refine wpAny_bind (wpAny_newObj_type ?_ (by size_fits))
 refine wpAny_bind (m := firstArgMember _ _) (wpAny_of_eq (a := Value.none) (by first | rfl | (simp only [firstArgMember]; rfl)) (wpAny_newObj_type ?_ (by size_fits)))
 simp only [raiseNew]
 have hh1 : A.in1.handled = none := hh
 refine wpAny_bind (wpAny_handled ?_)
 rw [hh1]
 exact wpAny_bind (wpAny_pure (wpAny_throw (hE _ _ (((Heap.SameBut.update ..).extBut.push _).push _) ⟨_,Heap.get?_push_size _ rfl,rfl⟩)))
end
theorem Draws.tup {prog : Program} {w : World} {A : Around} (hh : A.handled = none) (it l : Addr) (hne : l ≠ it) (items : Array Value) :
  Draws prog w A it [it,l] items.size (fun i v => items[i]? = some v) (fun i h => h.IsTupleIter it l i /\ h.IsTuple l items) where
 live := fun _ _ st => let ⟨o,ho,_⟩ := st.1; ⟨o,ho⟩
 frame := fun _ _ _ st hk => ⟨let ⟨o,ho,r⟩ := st.1; ⟨o,hk it (by simp) o ho,r⟩,let ⟨o,ho,r⟩ := st.2; ⟨o,hk l (by simp) o ho,r⟩⟩
 item := fun i s Q E hi st hQ => zfw st.1 st.2 (x := items[i]) (by simp [hi]) fun h' hit' hs' => hQ _ h' s.toks (by simp [hi]) ⟨hit',st.2.extBut hs'.extBut hne⟩ hs'
 done := fun s Q E st hE => zgb hh st.1 st.2 (by simp) hE
theorem zdr (l : Addr) (items : Array Value) :
  Meets (Builtin.«enumerate.__new__» ⟨[.type "enumerate", .ref l],[]⟩) (fun _ R s => s.heap.IsTuple l items ∧
   R (.ok (.ret (.ref (s.heap.push { cls := .type "tuple_iterator", data := .fields #[.ref l,.int 0 0] }).objs.size)))
    { s with heap := (s.heap.push { cls := .type "tuple_iterator", data := .fields #[.ref l,.int 0 0] }).push { cls := .type "enumerate", data := .fields #[.none,.bool false,.ref s.heap.objs.size,rawInt 0,.none,.none] } }) :=
 .of_wp fun prog w A R s h => by
  obtain ⟨hp,g,d,tk,os⟩ := s
  obtain ⟨hL,h⟩ := h
  have hsub := sub_enumerate
  wp_walk
  refine wpAny_stack_any fun st => wpAny_pure ?_
  split
  ·rename_i c _ _ _ _ _
   cases (c == Value.type "enumerate") <;> (wp_walk using wpAny_pyIter_tuple hL; exact ⟨_,rfl,h⟩)
  ·wp_walk using wpAny_pyIter_tuple hL
   exact ⟨_,rfl,h⟩
theorem zd4 {prog : Program} {w : World} {A : Around} {E : Value -> Shared -> Prop} {s : Shared} {l : Addr} {items : Array Value} {Q : Value -> Shared -> Prop} (hL : s.heap.IsTuple l items)
  (h : ∀ h',IsEnum h' (s.heap.objs.size + 1) s.heap.objs.size 0 .none -> h'.IsTupleIter s.heap.objs.size l 0 -> (∀ b o,s.heap.get? b = some o -> h'.get? b = some o) -> Q (.ref (s.heap.objs.size + 1)) { s with heap := h' }) :
  wpAny (model prog w) A (call (.type "enumerate") [.ref l]) Q E s := by
 refine callType_new F.called_enumerate (by decide) (F.typeCall_enumerate_1 _) (F.newCall_enumerate_1 _) (fun obj => F.args_object_init_2 obj _) F.entry_enumerate_new (zdr l items) ⟨hL,?_⟩
 have hz : (s.heap.push { cls := .type "tuple_iterator", data := .fields #[.ref l,.int 0 0] }).objs.size = s.heap.objs.size + 1 := Heap.size_push ..
 show _ /\ _
 rw [hz]
 have he : IsEnum ((s.heap.push { cls := .type "tuple_iterator", data := .fields #[.ref l,.int 0 0] }).push { cls := .type "enumerate", data := .fields #[.none,.bool false,.ref s.heap.objs.size,rawInt 0,.none,.none] }) (s.heap.objs.size + 1) s.heap.objs.size 0 .none := by
  rw [<- hz]; exact Heap.get?_push_size _ rfl
 exact ⟨⟨_,he,rfl⟩,h _ he ⟨_,Heap.get?_push_of_some _ (Heap.get?_push_size _ rfl),rfl,rfl⟩ fun b o e => Heap.get?_push_of_some _ (Heap.get?_push_of_some _ e)⟩
end PySem
namespace L2
open PySem PySem.Spec PyProof.Rows
structure SeqKind (c : List V -> HO) (IsS : Heap -> Addr -> Array Value -> Prop) (IsI : Heap -> Addr -> Addr -> Nat -> Prop) : Prop where
 obj : ∀ h it l i,IsI h it l i -> ∃ o,h.get? it = some o /\ ∀ v,o.data ≠ .cell v
 kp : ∀ (h h' : Heap) it l i,IsI h it l i -> (∀ o,h.get? it = some o -> h'.get? it = some o) -> IsI h' it l i
 seq : ∀ (X : Cx) (pins : List (Addr × Obj)) (σ : St) (H : Hp) (s : Shared) (l : Addr) (xs : List V),Inv X pins σ H s -> H l = some (c xs) -> ∃ its : List Value,Vals xs its /\ IsS s.heap l its.toArray
 dr : ∀ (P : Program) (w : World) (A : Around),A.handled = none -> ∀ (it l : Addr),l ≠ it -> ∀ items : Array Value,Draws P w A it [it,l] items.size (fun i v => items[i]? = some v) (fun i h => IsI h it l i /\ IsS h l items)
 inj : ∀ a b,c a = c b -> a = b
theorem seq_lst : SeqKind HO.lst Heap.IsList Heap.IsListIter where
 obj := fun h it l i st => by obtain ⟨o,e,_,d⟩ := st; exact ⟨o,e,fun v z => by rw [d] at z; cases z⟩
 kp := fun h h' it l i st k => let ⟨o,e,r⟩ := st; ⟨o,k o e,r⟩
 seq := fun X pins σ H s l xs I e => by
  obtain ⟨its,r,p,_⟩ := I.list (SqL.of e)
  exact ⟨its,r,p.isList⟩
 dr := fun P w A hh it l hne items => Draws.list hh it l hne items
 inj := fun a b e => by cases e; rfl
theorem seq_tup : SeqKind HO.tup Heap.IsTuple Heap.IsTupleIter where
 obj := fun h it l i st => by obtain ⟨o,e,_,d⟩ := st; exact ⟨o,e,fun v z => by rw [d] at z; cases z⟩
 kp := fun h h' it l i st k => let ⟨o,e,r⟩ := st; ⟨o,k o e,r⟩
 seq := fun X pins σ H s l xs I e => by
  obtain ⟨its,r,p,_⟩ := I.tuple (SqT.of e)
  exact ⟨its,r,p⟩
 dr := fun P w A hh it l hne items => Draws.tup hh it l hne items
 inj := fun a b e => by cases e; rfl
theorem zdp (ns : List Int) : ∀ j,j <= ns.length -> preSum (fun i => ns.getD i 0) j = (ns.take j).sum
 | 0,_ => by simp [preSum]
 | j + 1,h => by
  have h2 := zdp ns j (by omega)
  rw [preSum,h2,List.take_add_one,List.getElem?_eq_getElem (by omega),List.sum_append]
  have hj : j < ns.length := by omega
  simp [hj]
theorem zhB (B : Int) (hB : 0 <= B) : ∀ ns : List Int,(∀ a,a ∈ ns -> 0 <= a /\ a <= B) -> 0 <= ns.sum /\ ns.sum <= ns.length * B
 | [],_ => by simp
 | a :: r,h => by
  have h1 := zhB B hB r fun b hb => h b (List.mem_cons_of_mem _ hb)
  have h2 := h a (by simp)
  rw [List.sum_cons,List.length_cons]
  push_cast
  rw [Int.add_mul]
  omega
theorem ziB {X : Cx} (hc : X.calm = true) : CallR X (.builtin "sum") (fun xs H Q => ∃ (l : Addr) (ns : List Int),xs = [.ref l] /\ SqL X.K H l (ns.map V.int) /\ (∀ a,a ∈ ns -> 0 <= a /\ a <= 2 ^ 50) /\ ns.length <= 1000 /\ Q (.int ns.sum) H) := by
 intro pins s σ H xs us Q I r h
 obtain ⟨l,ns,rfl,hq,hb,hn,q⟩ := h
 obtain ⟨u,rfl,rx⟩ := zb3 r
 cases rx
 obtain ⟨its,r',pl,hz⟩ := I.list hq
 have hl := pl.isList
 have hlt : l < s.heap.objs.size := by obtain ⟨_,e,_⟩ := hl; exact Heap.lt_size e
 have hlen : ns.length = its.length := by rw [<- r'.length,List.length_map]
 have hsum : ∀ j,j <= ns.length -> 0 <= preSum (fun i => ns.getD i 0) j /\ preSum (fun i => ns.getD i 0) j <= 1000 * 2 ^ 50 := fun j hj => by
  rw [zdp ns j hj]
  have h1 := zhB (2 ^ 50) (by decide) (ns.take j) fun a ha => hb a (List.mem_of_mem_take ha)
  have h2 : ((ns.take j).length : Int) <= 1000 := by rw [List.length_take]; omega
  have h3 : ((ns.take j).length : Int) * 2 ^ 50 <= 1000 * 2 ^ 50 := Int.mul_le_mul_of_nonneg_right h2 (by decide)
  omega
 refine call_sum_walk (wpAny_pyIter_list hl ?_)
 refine ⟨s.heap.objs.size,_,_,its.toArray.size,_,_,fun i => ns.getD i 0,rfl,Walks.list (A := X.A.in1) (I.ok.hd hc) _ l (Nat.ne_of_lt hlt) its.toArray,⟨⟨_,Heap.get?_push_size _ rfl,rfl,rfl⟩,hl.push _⟩,fun b hbm => ?_,fun i v e => zly r' e,fun j hj => ?_,fun h' tk t' hk => ?_⟩
 ·have e : b = s.heap.objs.size ∨ b = l := by simpa using hbm
  have z : (s.heap.push { cls := .type "list_iterator", data := .fields #[.ref l,.int 0 0] }).objs.size = s.heap.objs.size + 1 := Heap.size_push ..
  show b < (s.heap.push { cls := .type "list_iterator", data := .fields #[.ref l,.int 0 0] }).objs.size
  rw [z]
  rcases e with rfl | rfl
  ·exact Nat.lt_succ_self _
  ·exact Nat.lt_succ_of_lt hlt
 ·rw [List.size_toArray,<- hlen] at hj
  have h1 := hsum (j + 1) hj
  have h2 := hb (ns.getD j 0) (by rw [znk hj]; exact List.getElem_mem hj)
  refine ⟨⟨?_,?_⟩,⟨by omega,by omega⟩⟩
  ·show -(2 ^ 63) <= ns.getD j 0
   omega
  ·show ns.getD j 0 < 2 ^ 63
   omega
 ·rw [List.size_toArray,<- hlen,zdp ns _ (Nat.le_refl _),List.take_length]
  exact ⟨.int ns.sum,H,I.kept fun b o e => hk b o (fun z => Nat.ne_of_lt (Heap.lt_size e) (List.mem_singleton.mp z)) (Heap.get?_push_of_some _ e),⟨t',rfl⟩,q⟩
end L2
namespace PySem
open Sem (wp)
open Builtin
open AutoSeq1 (wpAny_loadPart')
theorem zgL (l : Addr) (items : Array Value) (n : Nat) (dd : Option Addr) (sl : Array (Option Value)) (x : Value) (e : Value -> Bool) (j : Nat) (hj : j < items.size) (hit : e items[j] = true) (hno : ∀ m (hm : m < items.size),m < j -> e items[m] = false) :
  Meets (Builtin.«tuple.index» ⟨[.ref l,x],[]⟩)
   (fun A R s => s.heap.get? l = some { cls := .type "tuple", dict := dd,data := .seq items n,slots := sl } /\ (∀ y,y ∈ items -> SeqAt.EqAt A.in1 s y x (e y)) /\ R (.ok (.ret (.int j s.toks))) { s with toks := s.toks + 1 }) :=
 .of_wp fun prog w A R s h => by
  obtain ⟨hp,g,d,tk,os⟩ := s
  obtain ⟨hl,he,h⟩ := h
  unfold Builtin.«tuple.index»
  refine wpAny_bind (wpAny_of_eq (a := (Value.ref l,[x])) rfl ?_)
  refine wpAny_bind (wpAny_tupleItemsOf hl rfl ?_)
  dsimp only
  refine wpAny_bind (wpAny_pure ?_)
  refine wpAny_bind (wpAny_pure ?_)
  rw [Nat.min_self,Std.Legacy.Range.forIn_eq_forIn_range']
  have hz : List.range' ([:items.size]).start ([:items.size]).size ([:items.size]).step = List.range' 0 items.size 1 := by
   simp [Std.Legacy.Range.size]
  rw [hz]
  refine wpAny_bind (wpAny_forIn_list _ (fun rest b s' => b = (none,()) /\ s' = ⟨hp,g,d,tk,os⟩ /\ ∃ i,i <= j /\ rest = List.range' i (items.size - i) 1) _ ?_ ?_ _ _ ⟨rfl,rfl,0,Nat.zero_le _,by simp⟩)
  ·rintro i rest b s' ⟨rfl,rfl,k,hk,hr⟩
   have hks : k < items.size := by omega
   rw [show items.size - k = (items.size - (k + 1)) + 1 by omega,List.range'_succ] at hr
   obtain ⟨rfl,rfl⟩ := List.cons.inj hr
   have hi : items[i]? = some items[i] := by simp [hks]
   rw [hi]
   dsimp only
   refine wpAny_bind (he _ (Array.getElem_mem hks) prog w _ _ ?_)
   by_cases hij : i = j
   ·subst hij
    rw [hit,if_pos rfl]
    refine wpAny_bind (wpAny_bind (wpAny_mkInt (wpAny_pure ?_)))
    exact wpAny_pure (wpAny_pure ⟨_,rfl,h⟩)
   ·rw [hno i hks (by omega),if_neg Bool.false_ne_true]
    exact wpAny_pure ⟨rfl,rfl,i + 1,by omega,rfl⟩
  ·rintro b s' ⟨rfl,rfl,k,hk,hr⟩
   have := congrArg List.length hr
   simp at this
   omega
end PySem
namespace L2
open PySem PySem.Spec PyProof.Rows
section
variable {κ : Type} [DecidableEq κ]
def ziO (kvs : List (κ × V)) (k : κ) : Option V := (kvs.find? fun kv => decide (kv.1 = k)).map (·.2)
def zdP (kvs : List (κ × V)) (k : κ) (v : V) : List (κ × V) :=
 if (kvs.any fun kv => decide (kv.1 = k)) = true then kvs.map (fun kv => if kv.1 = k then (kv.1,v) else kv) else kvs ++ [(k,v)]
theorem zeX {p : κ × V} {r : List (κ × V)} {k : κ} (e : p.1 = k) : ziO (p :: r) k = some p.2 := by simp [ziO,List.find?_cons,e]
theorem zeY {p : κ × V} {r : List (κ × V)} {k : κ} (e : ¬ p.1 = k) : ziO (p :: r) k = ziO r k := by simp [ziO,List.find?_cons,e]
theorem zjH (k : κ) : ∀ kvs : List (κ × V),(kvs.any fun kv => decide (kv.1 = k)) = (ziO kvs k).isSome
 | [] => rfl
 | p :: r => by
  rw [List.any_cons]
  by_cases e : p.1 = k
  ·simp only [zeX e,decide_eq_true e,Bool.true_or,Option.isSome_some]
  ·rw [zeY e,decide_eq_false e,Bool.false_or]; exact zjH k r
theorem zds (kvs : List (κ × V)) (k : κ) (v : V) : (zdP kvs k v).length <= kvs.length + 1 := by
 unfold zdP
 split
 ·rw [List.length_map]; omega
 ·rw [List.length_append,List.length_cons,List.length_nil]; omega
theorem RelO.isSome_eq {o : Option V} {u : Option Value} (r : RelO o u) : o.isSome = u.isSome := by
 cases o with
 | none => cases u with
  | none => rfl
  | some _ => exact (show False from r).elim
 | some _ => cases u with
  | none => exact (show False from r).elim
  | some _ => rfl
theorem KV.val {kvs : List (κ × V)} {vs : List (κ × Value)} (r : KV kvs vs) (k : κ) : RelO (ziO kvs k) (valueAt vs k) := by
 unfold KV at r
 induction r with
 | nil => exact True.intro
 | @cons p q ps qs h t ih =>
  obtain ⟨h1,h2⟩ := h
  by_cases e : p.1 = k
  ·have e' : q.1 = k := h1.symm.trans e
   have b : valueAt (q :: qs) k = some q.2 := by simp [valueAt,List.find?_cons,e']
   rw [zeX e,b]; exact h2
  ·have e' : ¬ q.1 = k := fun z => e (h1.trans z)
   have b : valueAt (q :: qs) k = valueAt qs k := by simp [valueAt,List.find?_cons,e']
   rw [zeY e,b]; exact ih
theorem KV.any {kvs : List (κ × V)} {vs : List (κ × Value)} (r : KV kvs vs) (k : κ) : (kvs.any fun kv => decide (kv.1 = k)) = vs.any fun kv => decide (kv.1 = k) := by
 unfold KV at r
 induction r with
 | nil => rfl
 | cons h t ih => rw [List.any_cons,List.any_cons,ih,h.1]
theorem KV.repl {kvs : List (κ × V)} {vs : List (κ × Value)} (r : KV kvs vs) (k : κ) {y : V} {u : Value} (ry : RelV y u) :
  KV (kvs.map fun kv => if kv.1 = k then (kv.1,y) else kv) (vs.map fun kv => if kv.1 = k then (kv.1,u) else kv) := by
 unfold KV at r ⊢
 induction r with
 | nil => exact .nil
 | @cons p q ps qs h t ih =>
  rw [List.map_cons,List.map_cons]
  refine .cons ?_ ih
  obtain ⟨h1,h2⟩ := h
  by_cases e : p.1 = k
  ·rw [if_pos e,if_pos (h1.symm.trans e)]; exact ⟨h1,ry⟩
  ·rw [if_neg e,if_neg (fun z => e (h1.trans z))]; exact ⟨h1,h2⟩
theorem KV.put {kvs : List (κ × V)} {vs : List (κ × Value)} (r : KV kvs vs) (k : κ) {y : V} {u : Value} (ry : RelV y u) : KV (zdP kvs k y) (stored vs k u) := by
 unfold zdP stored
 rw [r.any k]
 by_cases e : (vs.any fun kv => decide (kv.1 = k)) = true
 ·rw [if_pos e,if_pos e]; exact r.repl k ry
 ·rw [if_neg e,if_neg e]; exact Paired.snoc r ⟨rfl,ry⟩
theorem KV.keys {kvs : List (κ × V)} {vs : List (κ × Value)} (r : KV kvs vs) : kvs.map (·.1) = vs.map (·.1) := by
 unfold KV at r
 induction r with
 | nil => rfl
 | cons h t ih => rw [List.map_cons,List.map_cons,ih,h.1]
theorem KV.length {kvs : List (κ × V)} {vs : List (κ × Value)} (r : KV kvs vs) : kvs.length = vs.length := Paired.length r
end
theorem zji {P : Program} {w : World} {k : Key} {u : Value} (r : RelV (kV k) u) : (zaH P w).is k u = true := by
 cases k with
 | inl i => obtain ⟨t,e⟩ := (show ∃ t,u = Value.int i t from r); subst e; exact zjd P w i t
 | inr x => obtain ⟨t,e⟩ := (show ∃ t,u = Value.str x t from r); subst e; exact zjc P w x t
theorem zif {P : Program} {w : World} : ∀ {ks : List Key} {us : List Value},Vals (ks.map kV) us -> ItemsAre (zaH P w) ks us
 | [],_,r => by rw [List.map_nil] at r; cases r; exact .nil
 | k :: ks,_,r => by
  rw [List.map_cons] at r
  cases r with
  | cons h t => exact .cons (zji h) (zif t)
abbrev KT (H : Hp) : List (List Key × V) -> List (List Key × Addr × Value) -> Prop := Paired fun p q => p.1 = q.1 /\ H q.2.1 = some (.tup (p.1.map kV)) /\ RelV p.2 q.2.2
theorem KT.val {H : Hp} {kvs : List (List Key × V)} {xs : List (List Key × Addr × Value)} (r : KT H kvs xs) (k : List Key) : RelO (ziO kvs k) ((atKey xs k).map (·.2)) := by
 induction r with
 | nil => exact True.intro
 | @cons p q ps qs h t ih =>
  obtain ⟨h1,_,h2⟩ := h
  by_cases e : p.1 = k
  ·have e' : q.1 = k := h1.symm.trans e
   have b : atKey (q :: qs) k = some q.2 := by simp [atKey,List.find?_cons,e']
   rw [zeX e,b]; exact h2
  ·have e' : ¬ q.1 = k := fun z => e (h1.trans z)
   have b : atKey (q :: qs) k = atKey qs k := by simp [atKey,List.find?_cons,e']
   rw [zeY e,b]; exact ih
theorem KT.repl {H : Hp} {kvs : List (List Key × V)} {xs : List (List Key × Addr × Value)} (r : KT H kvs xs) (k : List Key) {y : V} {u : Value} (ry : RelV y u) :
  KT H (kvs.map fun kv => if kv.1 = k then (kv.1,y) else kv) (xs.map (putAt k u)) := by
 induction r with
 | nil => exact .nil
 | @cons p q ps qs h t ih =>
  rw [List.map_cons,List.map_cons]
  refine .cons ?_ ih
  obtain ⟨h1,h2,h3⟩ := h
  unfold putAt
  by_cases e : p.1 = k
  ·rw [if_pos e,if_pos (h1.symm.trans e)]; exact ⟨h1,h2,ry⟩
  ·rw [if_neg e,if_neg (fun z => e (h1.trans z))]; exact ⟨h1,h2,h3⟩
theorem KT.put {H : Hp} {kvs : List (List Key × V)} {xs : List (List Key × Addr × Value)} (r : KT H kvs xs) (k : List Key) {b : Addr} {y : V} {u : Value} (hb : H b = some (.tup (k.map kV))) (ry : RelV y u) :
  KT H (zdP kvs k y) (storedH xs k b u) := by
 have e : (kvs.any fun kv => decide (kv.1 = k)) = (atKey xs k).isSome := by
  rw [zjH,(r.val k).isSome_eq,Option.isSome_map]
 unfold zdP storedH
 rw [e]
 by_cases q : (atKey xs k).isSome = true
 ·rw [if_pos q,if_pos q]; exact r.repl k ry
 ·rw [if_neg q,if_neg q]; exact Paired.snoc r ⟨rfl,hb,ry⟩
theorem KT.keeps {H H' : Hp} {kvs : List (List Key × V)} {xs : List (List Key × Addr × Value)} (r : KT H kvs xs) (ht : ∀ b ys,H b = some (.tup ys) -> H' b = some (.tup ys)) : KT H' kvs xs :=
 Paired.mapP r fun _ _ z => ⟨z.1,ht _ _ z.2.1,z.2.2⟩
section
variable {P : Program} {w : World} {H : Hp} {h : Heap} {a : Addr}
theorem rd_of {u : HO} (ok : HOk P w H h) (e : Rd H a u) : ObjOk P w H h a u := e.ok ok
theorem zgf {kvs : List (Key × V)} (ok : HOk P w H h) (e : Rd H a (.dK kvs)) : kvs.length <= sizeLine /\ (a == sysModules) = false /\ ∃ vs,KV kvs vs /\ h.DictOf (zaH P w) a vs :=
 show ObjOk P w H h a (.dK kvs) from rd_of ok e
theorem dk_of {kvs : List (Key × V)} (ok : HOk P w H h) (e : H a = some (.dK kvs)) : kvs.length <= sizeLine /\ (a == sysModules) = false /\ ∃ vs,KV kvs vs /\ h.DictOf (zaH P w) a vs := zgf ok (.inl e)
theorem zic {ks : List Key} (ok : HOk P w H h) (e : H a = some (.tup (ks.map kV))) : (tupleKind (zaH P w)).is h ks a := by
 obtain ⟨_,its,r,⟨o,h1,h2,n,h3⟩,_⟩ := (show ObjOk P w H h a (.tup (ks.map kV)) from ok a _ e)
 exact ⟨o,its.toArray,n,h1,h2,h3,by simpa using zif r⟩
theorem znx {kvs : List (List Key × V)} (ok : HOk P w H h) (e : Rd H a (.dT kvs)) : kvs.length <= sizeLine /\ (a == sysModules) = false ∧
  ∃ xs,KT H kvs xs /\ h.DictOfH (tupleKind (zaH P w)) a xs := by
 obtain ⟨z,y,xs,r,o,es,ep,h1,h2,h3,h4,h5⟩ := (show ObjOk P w H h a (.dT kvs) from rd_of ok e)
 refine ⟨z,y,xs,r,o,es,ep,h1,h2,h3,h4,fun x hx => ?_,h5⟩
 have all : ∀ {l : List (List Key × V)} {m : List (List Key × Addr × Value)},KT H l m -> ∀ x ∈ m,(tupleKind (zaH P w)).is h x.1 x.2.1 := by
  intro l m q
  induction q with
  | nil => intro x hx; exact nomatch hx
  | @cons p q ps qs hq t ih =>
   intro x hx
   rcases List.mem_cons.mp hx with e | hx
   ·subst e
    exact zic ok (by rw [<- hq.1]; exact hq.2.1)
   ·exact ih x hx
 exact all r x hx
theorem dt_of {kvs : List (List Key × V)} (ok : HOk P w H h) (e : H a = some (.dT kvs)) : kvs.length <= sizeLine /\ (a == sysModules) = false ∧
  ∃ xs,KT H kvs xs /\ h.DictOfH (tupleKind (zaH P w)) a xs := znx ok (.inl e)
end
def DGet (H : Hp) (a : Addr) (y : V) (r : Option V) : Prop :=
 (∃ kvs k,Rd H a (.dK kvs) /\ y = kV k /\ r = ziO kvs k) ∨ ∃ kvs k b,Rd H a (.dT kvs) /\ y = .ref b /\ H b = some (.tup (k.map kV)) /\ r = ziO kvs k
def DPut (H : Hp) (a : Addr) (y v : V) (H' : Hp) : Prop :=
 (∃ kvs k,H a = some (.dK kvs) /\ y = kV k /\ kvs.length < sizeLine /\ H' = upd H a (.dK (zdP kvs k v))) ∨
 ∃ kvs k b,H a = some (.dT kvs) /\ y = .ref b /\ H b = some (.tup (k.map kV)) /\ kvs.length < sizeLine /\ H' = upd H a (.dT (zdP kvs k v))
theorem DGet.k {H : Hp} {a : Addr} {kvs : List (Key × V)} {k : Key} (e : H a = some (.dK kvs)) : DGet H a (kV k) (ziO kvs k) := .inl ⟨kvs,k,.inl e,rfl,rfl⟩
theorem DPut.k {H : Hp} {a : Addr} {kvs : List (Key × V)} {k : Key} {v : V} (e : H a = some (.dK kvs)) (hl : kvs.length < sizeLine) : DPut H a (kV k) v (upd H a (.dK (zdP kvs k v))) := .inl ⟨kvs,k,e,rfl,hl,rfl⟩
section
variable {X : Cx} {pins : List (Addr × Obj)} {σ : St} {H : Hp} {s : Shared} {a : Addr} {y v : V} {u r : Value} {o : Option V} {A : Around} {E : Value -> Shared -> Prop}
theorem Inv.big (I : Inv X pins σ H s) : sysModules < s.heap.objs.size := by
 have h : mainGlobals < s.heap.objs.size := (I.mod.glob.keeps I.bk).lt
 exact Nat.lt_trans (by decide) h
theorem znD {Q : Value -> Shared -> Prop} (hu : A.units + 1 < cLine) (I : Inv X pins σ H s) (g : DGet H a y (some v)) (ry : RelV y u) (h : ∀ w' s',Inv X pins σ H s' -> RelV v w' -> Q w' s') :
  wpAny (model X.prog X.w) A (getItem (.ref a) u) Q E s := by
 rcases g with ⟨kvs,k,e,ey,l⟩ | ⟨kvs,k,b,e,ey,eb,l⟩
 ·subst ey
  obtain ⟨z,hd,vs,rel,dd⟩ := zgf I.hok e
  obtain ⟨w',hw,rw'⟩ := RelO.some_of (v := v) (o := valueAt vs k) (by rw [l]; exact rel.val k)
  exact wpAny_getItem_of (zji ry) dd.mapOf hw (h w' _ (I.tok _) rw')
 ·subst ey
  cases (show u = Value.ref b from ry)
  obtain ⟨z,hd,xs,rel,dd⟩ := znx I.hok e
  obtain ⟨w',hw,rw'⟩ := RelO.some_of (v := v) (o := (atKey xs k).map (·.2)) (by rw [l]; exact rel.val k)
  obtain ⟨p,hp,hp2⟩ := Option.map_eq_some_iff.mp hw
  refine wpAny_getItem_heap (tupleKind_room_in1 hu) (zic I.hok eb) dd hp ?_
  rw [hp2]
  exact h w' _ (I.tok _) rw'
theorem d_in {Q : Value -> Shared -> Prop} (hu : A.units + 1 < cLine) (I : Inv X pins σ H s) (g : DGet H a y o) (ry : RelV y u) (h : ∀ s',Inv X pins σ H s' -> Q (.bool o.isSome) s') :
  wpAny (model X.prog X.w) A (compareOp .In u (.ref a)) Q E s := by
 rcases g with ⟨kvs,k,e,ey,l⟩ | ⟨kvs,k,b,e,ey,eb,l⟩
 ·subst ey
  obtain ⟨z,hd,vs,rel,dd⟩ := zgf I.hok e
  refine wpAny_in_of (zji ry) hd dd.mapOf ?_
  rw [<- (rel.val k).isSome_eq,<- l]
  exact h _ (I.tok _)
 ·subst ey
  cases (show u = Value.ref b from ry)
  obtain ⟨z,hd,xs,rel,dd⟩ := znx I.hok e
  refine wpAny_in_heap (tupleKind_room_in1 hu) (zic I.hok eb) hd dd ?_
  have q := (rel.val k).isSome_eq
  rw [Option.isSome_map] at q
  rw [<- q,<- l]
  exact h _ (I.tok _)
theorem zrh {Q : Value -> Shared -> Prop} (hu : A.units + 1 < cLine) (I : Inv X pins σ H s) (g : DGet H a y o) (ry : RelV y u) (h : ∀ s',Inv X pins σ H s' -> Q (.bool (!o.isSome)) s') :
  wpAny (model X.prog X.w) A (compareOp .NotIn u (.ref a)) Q E s := by
 rcases g with ⟨kvs,k,e,ey,l⟩ | ⟨kvs,k,b,e,ey,eb,l⟩
 ·subst ey
  obtain ⟨z,hd,vs,rel,dd⟩ := zgf I.hok e
  refine wpAny_notIn_of (zji ry) hd dd.mapOf ?_
  rw [<- (rel.val k).isSome_eq,<- l]
  exact h _ (I.tok _)
 ·subst ey
  cases (show u = Value.ref b from ry)
  obtain ⟨z,hd,xs,rel,dd⟩ := znx I.hok e
  refine wpAny_notIn_heap (tupleKind_room_in1 hu) (zic I.hok eb) hd dd ?_
  have q := (rel.val k).isSome_eq
  rw [Option.isSome_map] at q
  rw [<- q,<- l]
  exact h _ (I.tok _)
theorem zjr {h' : Heap} {t' : Nat} {ob : HO} (I : Inv X pins σ H s) (mu : Mut (H a)) (hs : Heap.SameBut a s.heap h') (he : ∃ q,h'.get? a = some q) (new : ObjOk X.prog X.w (upd H a ob) h' a ob) :
  Inv X pins σ (upd H a ob) { s with heap := h',toks := t' } :=
 I.write (x := a) (e := a) mu (.inl rfl) (fun b q hb z => (hs.2 b hb).trans z) he new
theorem zny {P : Program} {w : World} {H' : Hp} {h' : Heap} {kvs : List (Key × V)} {vs : List (Key × Value)} (z : kvs.length <= sizeLine) (hd : (a == sysModules) = false) (rel : KV kvs vs) (dd : h'.DictOf (zaH P w) a vs) :
  ObjOk P w H' h' a (.dK kvs) := ⟨z,hd,vs,rel,dd⟩
theorem znC {H' : Hp} {Q : Unit -> Shared -> Prop} (hu : A.units + 1 < cLine) (I : Inv X pins σ H s) (g : DPut H a y v H') (ry : RelV y u) (rv : RelV v r) (h : ∀ s',Inv X pins σ H' s' -> Q () s') :
  wpAny (model X.prog X.w) A (setItem (.ref a) u r) Q E s := by
 rcases g with ⟨kvs,k,e,ey,l,eH⟩ | ⟨kvs,k,b,e,ey,eb,l,eH⟩
 ·subst ey eH
  obtain ⟨z,hd,vs,rel,dd⟩ := dk_of I.hok e
  have hz : vs.length <= sizeLine := by rw [<- rel.length]; exact z
  have hl : (zdP kvs k v).length <= sizeLine := by have := zds kvs k v; omega
  refine wpAny_setItem_pairs (hsz := hz) (zji ry) dd fun h' dd' hs => h _ ?_
  have he : ∃ q,h'.get? a = some q := let ⟨q,_,_,hq,_⟩ := dd'; ⟨q,hq⟩
  exact zjr I (by rw [e]; exact True.intro) hs he (zny hl hd (rel.put k rv) dd')
 ·subst ey eH
  cases (show u = Value.ref b from ry)
  obtain ⟨z,hd,xs,rel,dd⟩ := dt_of I.hok e
  have hz : xs.length <= sizeLine := by rw [<- Paired.length rel]; exact z
  have hl : (zdP kvs k v).length <= sizeLine := by have := zds kvs k v; omega
  refine wpAny_setItem_heap (hsz := hz) (tupleKind_room_in1 hu) (zic I.hok eb) dd fun h' dd' hs => h _ ?_
  obtain ⟨q,es,ep,hq,h2,h3,h4,_,h5⟩ := dd'
  refine zjr I (by rw [e]; exact True.intro) hs ⟨q,hq⟩ ⟨hl,hd,_,(rel.put k eb rv).keeps fun c ys ec => ?_,q,es,ep,hq,h2,h3,h4,h5⟩
  rw [zao (ne_of ec e (fun z => nomatch z))]
  exact ec
end
section
variable {X : Cx} {pins : List (Addr × Obj)} {σ : St} {H : Hp} {s : Shared} {a : Addr} {kvs : List (Key × V)} {k : Key} {u : Value} {A : Around} {E : Value -> Shared -> Prop}
theorem d_len {Q : Value -> Shared -> Prop} (I : Inv X pins σ H s) (e : Rd H a (.dK kvs)) (h : ∀ t s',Inv X pins σ H s' -> Q (.int kvs.length t) s') : wpAny (model X.prog X.w) A (call (.builtin "len") [.ref a]) Q E s := by
 obtain ⟨z,hd,vs,rel,dd⟩ := zgf I.hok e
 refine call_len_dict hd dd (by rw [<- rel.length]; rw [sizeLine_eq] at z; omega) ?_
 rw [<- rel.length]
 exact h _ _ (I.tok _)
end
theorem zjq {X : Cx} {pins : List (Addr × Obj)} {σ : St} {H : Hp} {s : Shared} {a : Addr} {y : V} {o : Option V} (I : Inv X pins σ H s) (g : DGet H a y o) : s.TypeIs (.ref a) "dict" := by
 rcases g with ⟨kvs,k,e,_,_⟩ | ⟨kvs,k,b,e,_,_,_⟩
 ·obtain ⟨_,_,vs,_,dd⟩ := zgf I.hok e
  exact dd.typeIs
 ·obtain ⟨_,_,xs,_,dd⟩ := znx I.hok e
  exact dd.typeIs
def sDPut (td ty tv : TE) : TS := fun D σ H => tv σ H fun v H1 => td σ H1 fun x H2 => ty σ H2 fun y H3 => ∃ a H4,x = .ref a /\ DPut H3 a y v H4 /\ D.nx σ H4
section
variable {X : Cx} {o i e value : Expr} {pos pos' tpos : Pos} {td ty tv : TE}
theorem zqd (hu : X.A.units + 1 < cLine) (ho : PE X o td) (hi : PE X i ty) (hv : PE X value tv) (hs : swapsWith value (some (.Subscript o i pos')) pos.line X.env = pure false) :
  PS X (.Assign [.Subscript o i pos'] value pos) (sDPut td ty tv) := by
 intro pins s σ H D I h
 refine wpAny_Assign_Subscript (thn (hv pins s σ H _ I h) fun r s1 ⟨v,H1,I1,rv,q1⟩ => thn (ho pins s1 σ H1 _ I1 q1) fun u s2 ⟨x,H2,I2,rx,q2⟩ => thn (hi pins s2 σ H2 _ I2 q2) fun iv s3 ⟨y,H3,I3,ry,a,H4,ex,g,q3⟩ => ?_) hs
 subst ex
 obtain rfl : u = Value.ref a := rx
 exact znC hu I3 g ry rv fun s4 I4 => ⟨σ,H4,I4,q3⟩
end
theorem zkt {P : Program} {w : World} {H : Hp} (h : Heap) (hb : sysModules < h.objs.size) : ObjOk P w H (h.push { cls := .type "dict", data := .dict #[] }) h.objs.size (.dK []) :=
 ⟨Nat.zero_le _,beq_eq_false_iff_ne.mpr (Ne.symm (Nat.ne_of_lt hb)),[],.nil,Heap.DictOf.new h⟩
def tDNewK : TE := fun _ H Q => ∀ p,H p = none -> Q (.ref p) (upd H p (.dK []))
section
variable {X : Cx} {pos : Pos}
theorem zoq : PE X (.Dict [] [] pos) tDNewK := fun pins s σ H Q I h =>
 wpAny_Dict_empty ⟨.ref s.heap.objs.size,_,I.laid (a := s.heap.objs.size) (o := .dK []) (t' := s.toks) (fun _ _ q => Heap.get?_push_of_some _ q) (Nat.le_refl _) (zkt s.heap I.big),rfl,h _ (I.hok.fresh (Nat.le_refl _))⟩
end
def zjN : List (TE × TE) -> St -> Hp -> (List (V × V) -> Hp -> Prop) -> Prop
 | [],_,H,Q => Q [] H
 | (tk,tv) :: r,σ,H,Q => tk σ H fun x H1 => tv σ H1 fun y H2 => zjN r σ H2 fun ps H3 => Q ((x,y) :: ps) H3
abbrev VV : List (V × V) -> List (Value × Value) -> Prop := Paired fun p q => RelV p.1 q.1 /\ RelV p.2 q.2
def PPs (X : Cx) (pos : Pos) (keys : List (Option Expr)) (values : List Expr) (trs : List (TE × TE)) : Prop :=
 ∀ (pins : List (Addr × Obj)) (s : Shared) (σ : St) (H : Hp) (Q : List (V × V) -> Hp -> Prop),Inv X pins σ H s -> zjN trs σ H Q →
  wpAny (model X.prog X.w) X.A (evalPairs (pairTrees keys values X.env pos)) (fun vs s' => ∃ ps H',Inv X pins σ H' s' /\ VV ps vs /\ Q ps H') X.xe s
theorem zqe {X : Cx} {pos : Pos} : PPs X pos [] [] [] := fun pins s σ H Q I h => pairTrees_nil_walk ⟨[],H,I,.nil,h⟩
theorem zok {X : Cx} {pos : Pos} {k v : Expr} {ks : List (Option Expr)} {vs : List Expr} {tk tv : TE} {trs : List (TE × TE)} (hk : PE X k tk) (hv : PE X v tv) (hr : PPs X pos ks vs trs) :
  PPs X pos (some k :: ks) (v :: vs) ((tk,tv) :: trs) := fun pins s σ H Q I h =>
 pairTrees_cons_walk (thn (hk pins s σ H _ I h) fun u s1 ⟨x,H1,I1,rx,q1⟩ => thn (hv pins s1 σ H1 _ I1 q1) fun w2 s2 ⟨y,H2,I2,ry,q2⟩ =>
  thn (hr pins s2 σ H2 _ I2 q2) fun ws s3 ⟨ps,H3,I3,rel,q3⟩ => ⟨(x,y) :: ps,H3,I3,.cons ⟨rx,ry⟩ rel,q3⟩)
def zcM (kvs more : List (Key × V)) : List (Key × V) := more.foldl (fun acc kv => zdP acc kv.1 kv.2) kvs
theorem KV.merge : ∀ {more : List (Key × V)} {rs : List (Key × Value)} {kvs : List (Key × V)} {vs : List (Key × Value)},KV more rs -> KV kvs vs -> KV (zcM kvs more) (merged vs rs) := by
 intro more rs kvs vs r
 unfold KV at r
 induction r generalizing kvs vs with
 | nil => intro q; exact q
 | @cons p q ps qs h t ih =>
  intro r0
  have e : KV (zdP kvs p.1 p.2) (stored vs q.1 q.2) := by
   have := r0.put p.1 h.2
   rw [<- h.1]; exact this
  exact ih e
theorem zdS : ∀ (more kvs : List (Key × V)),(zcM kvs more).length <= kvs.length + more.length
 | [],kvs => by show kvs.length <= kvs.length + 0; omega
 | p :: r,kvs => by
  have h1 := zdS r (zdP kvs p.1 p.2)
  have h2 := zds kvs p.1 p.2
  show (zcM (zdP kvs p.1 p.2) r).length <= _
  rw [List.length_cons]; omega
theorem zgF {P : Program} {w : World} : ∀ {kvs : List (Key × V)} {ws : List (Value × Value)},VV (kvs.map fun kv => (kV kv.1,kv.2)) ws -> ∃ rs,Carries (zaH P w) ws rs /\ KV kvs rs
 | [],_,r => by rw [List.map_nil] at r; cases r; exact ⟨[],True.intro,.nil⟩
 | p :: kvs,_,r => by
  rw [List.map_cons] at r
  cases r with
  | @cons a b as bs h t =>
   obtain ⟨rs,c,q⟩ := zgF (P := P) (w := w) t
   obtain ⟨b1,b2⟩ := b
   exact ⟨(p.1,b2) :: rs,⟨zji h.1,rfl,c⟩,.cons ⟨rfl,h.2⟩ q⟩
def tDisp (trs : List (TE × TE)) : TE := fun σ H Q => ∀ p,H p = none -> zjN trs σ (upd H p (.dK [])) fun ps H2 => H2 p = some (.dK []) /\ ∃ kvs : List (Key × V),ps = kvs.map (fun kv => (kV kv.1,kv.2)) /\ kvs.length <= 15 /\ Q (.ref p) (upd H2 p (.dK (zcM [] kvs)))
theorem zqw {X : Cx} {pos : Pos} {keys : List (Option Expr)} {values : List Expr} {trs : List (TE × TE)} (h : PPs X pos keys values trs) (hall : keys.all (·.isSome) = true) (hl : keys.length = values.length) (h0 : keys ≠ [])
  (h15 : keys.length <= 15) : PE X (.Dict keys values pos) (tDisp trs) := by
 intro pins s σ H Q I q
 have hn := I.hok.fresh (Nat.le_refl s.heap.objs.size)
 have I1 := I.laid (a := s.heap.objs.size) (o := .dK []) (h' := s.heap.push { cls := .type "dict", data := .dict #[] }) (t' := s.toks) (fun _ _ q => Heap.get?_push_of_some _ q) (Nat.le_refl _) (zkt s.heap I.big)
 refine wpAny_Dict_walk (knd := zaH X.prog X.w) hall hl h0 h15 (thn (h pins _ σ _ _ I1 (q _ hn)) fun ws s2 ⟨ps,H2,I2,rel,e,kvs,ep,lk,q2⟩ => ?_)
 subst ep
 obtain ⟨rs,c,rk⟩ := zgF (P := X.prog) (w := X.w) rel
 obtain ⟨z,hd,vs0,r0,dd⟩ := dk_of I2.hok e
 cases r0
 refine ⟨rs,c,dd,fun h' dd' hs => ⟨.ref s.heap.objs.size,_,?_,rfl,q2⟩⟩
 have hz : (zcM [] kvs).length <= sizeLine := by
  have h1 := zdS kvs []
  rw [List.length_nil] at h1
  rw [sizeLine_eq]; omega
 have he : ∃ q,h'.get? s.heap.objs.size = some q := let ⟨q,_,_,hq,_⟩ := dd'; ⟨q,hq⟩
 exact zjr I2 (by rw [e]; exact True.intro) hs he (zny hz hd (rk.merge .nil) dd')
section
variable {X : Cx} {pins : List (Addr × Obj)} {σ : St} {H : Hp} {s : Shared} {a : Addr} {kvs : List (Key × V)} {A : Around} {E : Value -> Shared -> Prop}
theorem zoT {Q : Value -> Shared -> Prop} (I : Inv X pins σ H s) (e : Rd H a (.dK kvs)) (h : ∀ p s',H p = none -> Inv X pins σ (upd H p (.dK kvs)) s' -> Q (.ref p) s') : wpAny (model X.prog X.w) A (call (.type "dict") [.ref a]) Q E s := by
 obtain ⟨z,hd,vs,rel,dd⟩ := zgf I.hok e
 refine kt_call_dict hd dd (by rw [<- rel.length]; exact z) fun h' dd' hs => ?_
 refine h _ _ (I.hok.fresh (Nat.le_refl _)) (I.laid (a := s.heap.objs.size) (o := .dK kvs) (t' := s.toks) (fun b q hq => ?_) (Nat.le_refl _) (zny z (beq_eq_false_iff_ne.mpr (Ne.symm (Nat.ne_of_lt I.big))) rel dd'))
 exact (hs.2 b (Nat.ne_of_lt (Heap.lt_size hq))).trans (Heap.get?_push_of_some _ hq)
end
section
variable {X : Cx}
theorem op_isT : OpR X (compareOp .Is) (fun x y H Q => ∃ b c,x = .bl b /\ y = .bl c /\ Q (.bl (b == c)) H) := by
 intro pins s σ H x y v u Q I rx ry h
 obtain ⟨b,c,rfl,rfl,q⟩ := h
 cases rx
 cases ry
 exact is_bool ⟨.bl (b == c),H,I,rfl,q⟩
theorem zow : OpR X (compareOp .IsNot) (fun x y H Q => ∃ b c,x = .bl b /\ y = .bl c /\ Q (.bl (b != c)) H) := by
 intro pins s σ H x y v u Q I rx ry h
 obtain ⟨b,c,rfl,rfl,q⟩ := h
 cases rx
 cases ry
 exact isnot_bool ⟨.bl (b != c),H,I,rfl,q⟩
end
end L2
namespace PySem
open Sem (wp)
open Builtin
section
variable {prog : Program} {w : World} {A : Around} {E : Value -> Shared -> Prop} {s : Shared}
theorem zfl {h h' : Heap} {c T : Addr} {a b : Value} (hs : Heap.SameBut c h h') (n : T ≠ c) (e : IsPair h T a b) : IsPair h' T a b := (hs.2 T n).trans e
theorem zf0 {z TI TO i1 i2 : Addr} {fp1 fp2 : List Addr} {n1 n2 k : Nat} {P1 P2 : Nat -> Value -> Prop} {S1 S2 : Nat -> Heap -> Prop} {a b : Value} {Q : Value -> Shared -> Prop}
  (D1 : Draws prog w A i1 fp1 n1 P1 S1) (D2 : Draws prog w A i2 fp2 n2 P2 S2) (hz : IsZip s.heap z TI TO .none) (hTI : IsPair s.heap TI (.ref i1) (.ref i2)) (hTO : IsPair s.heap TO a b)
  (h1 : S1 k s.heap) (h2 : S2 k s.heap) (k1 : k < n1) (k2 : k < n2) (nTO : TO ≠ z) (nTI : TI ≠ z) (n1z : i1 ≠ z) (n2z : i2 ≠ z) (n1T : i1 ≠ TO) (n2T : i2 ≠ TO)
  (f1z : z ∉ fp1) (f1T : TO ∉ fp1) (f12 : i2 ∉ fp1) (f2z : z ∉ fp2) (f2T : TO ∉ fp2) (f21 : i1 ∉ fp2)
  (hQ : ∀ x y h' tk,P1 k x -> P2 k y -> IsZip h' z TI TO (rawInt s.heap.objs.size) -> IsPair h' TO x y -> S1 (k + 1) h' -> S2 (k + 1) h' -> IsPair h' s.heap.objs.size x y -> h'.objs.size = s.heap.objs.size + 1 →
   (∀ c o,c ≠ z -> c ≠ TO -> c ≠ i1 -> c ≠ i2 -> s.heap.get? c = some o -> h'.get? c = some o) -> Q (.ref s.heap.objs.size) { s with heap := h',toks := tk }) :
  wpAny (model prog w) A (Builtin.«zip.__next__» ⟨[.ref z],[]⟩) (fun fin s' => ∃ v,fin = .done (.ret v) /\ Q v s') E s := by
 show wpAny _ _ (field (.ref z) 2 >>= _) _ _ s
 refine wpAny_bind (wpAny_field hz rfl (x := .bool false) rfl ?_)
 refine wpAny_bind (wpAny_field hz rfl (x := .ref TI) rfl ?_)
 refine wpAny_bind (wpAny_seqItems hTI rfl ?_)
 refine wpAny_bind (m := SmallTypes.ownedTupleIsFree (.ref z)) (wpAny_bind (wpAny_field hz rfl (x := .none) rfl (wpAny_pure ?_)))
 show wpAny _ _ (if true = true then _ else _) _ _ s
 rw [if_pos rfl]
 refine wpAny_bind (wpAny_rule ?_)
 refine wpAny_bind (wpAny_field hz rfl (x := .ref TO) rfl ?_)
 refine wpAny_bind (wpAny_setField_rec hz (by simp) fun g1 hz1 hs1 => ?_)
 have st1 : S1 k g1 := D1.frame k _ _ h1 fun c hc o e => (hs1.2 c fun q => f1z (q ▸ hc)).trans e
 have st2 : S2 k g1 := D2.frame k _ _ h2 fun c hc o e => (hs1.2 c fun q => f2z (q ▸ hc)).trans e
 have hTO1 := zfl hs1 nTO hTO
 refine wpAny_bind ?_
 show wpAny _ _ (forIn [(Value.ref i1,0),(Value.ref i2,1)] _ _) _ _ _
 rw [List.forIn_cons]
 refine wpAny_bind (wpAny_bind (wpAny_onRaise ?_))
 refine wpAny_bind (m := SmallTypes.nextOf (.ref i1)) (D1.item k { s with heap := g1 } _ _ k1 st1 fun x g2 tk2 px st1' hs2 => wpAny_pure ?_)
 have hTO2 := zfl hs2 (Ne.symm n1T) hTO1
 refine wpAny_bind (wpAny_seqItems hTO2 rfl ?_)
 refine wpAny_bind (wpAny_updateSeq_pair hTO2 fun g3 hTO3 hs3 => ?_)
 refine wpAny_bind (wpAny_letGo (wpAny_pure ?_))
 have hTO3 : IsPair g3 TO x b := hTO3
 have st2' : S2 k g3 := D2.frame k _ _ st2 fun c hc o e => (hs3.2 c fun q => f2T (q ▸ hc)).trans ((hs2.2 c fun q => f21 (q ▸ hc)).trans e)
 show wpAny _ _ (forIn [(Value.ref i2,1)] _ _) _ _ _
 rw [List.forIn_cons]
 refine wpAny_bind (wpAny_bind (wpAny_onRaise ?_))
 refine wpAny_bind (m := SmallTypes.nextOf (.ref i2)) (D2.item k { s with heap := g3,toks := tk2 } _ _ k2 st2' fun y g4 tk4 py st2'' hs4 => wpAny_pure ?_)
 have hTO4 := zfl hs4 (Ne.symm n2T) hTO3
 refine wpAny_bind (wpAny_seqItems hTO4 rfl ?_)
 refine wpAny_bind (wpAny_updateSeq_pair hTO4 fun g5 hTO5 hs5 => ?_)
 refine wpAny_bind (wpAny_letGo (wpAny_pure ?_))
 have hTO5 : IsPair g5 TO x y := hTO5
 show wpAny _ _ (forIn [] _ _) _ _ _
 rw [List.forIn_nil]
 refine wpAny_pure ?_
 refine wpAny_bind (wpAny_seqItems hTO5 rfl ?_)
 refine wpAny_bind (wpAny_newTuple ?_)
 have hz5 : IsZip g5 z TI TO .ellipsis := (hs5.2 z (Ne.symm nTO)).trans ((hs4.2 z (Ne.symm n2z)).trans ((hs3.2 z (Ne.symm nTO)).trans ((hs2.2 z (Ne.symm n1z)).trans hz1)))
 have sz5 : g5.objs.size = s.heap.objs.size := by rw [hs5.1,hs4.1,hs3.1,hs2.1,hs1.1]
 have hz6 := Heap.get?_push_of_some { cls := Value.type "tuple", data := Data.seq #[x,y] } hz5
 refine wpAny_bind (m := SmallTypes.ownedTupleHandOut _ _) ?_
 refine wpAny_bind (m := setField _ 0 _) (wpAny_setField_rec hz6 (by simp) fun g7 hz7 hs7 => ?_)
 refine wpAny_setField_rec hz7 (by simp) fun g8 hz8 hs8 => ?_
 have lt : ∀ {c : Addr} {o : Obj},s.heap.get? c = some o -> c < g5.objs.size := fun e => by rw [sz5]; exact Heap.lt_size e
 have nw : g5.objs.size ≠ z := Nat.ne_of_gt (Heap.lt_size hz5)
 have fr : ∀ c o,c ≠ z -> g5.get? c = some o -> g8.get? c = some o := fun c o n e => (hs8.2 c n).trans ((hs7.2 c n).trans (Heap.get?_push_of_some _ e))
 have up : ∀ c o,c ≠ z -> c ≠ TO -> c ≠ i2 -> g2.get? c = some o -> g8.get? c = some o := fun c o c1 c2 c3 e => fr c o c1 ((hs5.2 c c2).trans ((hs4.2 c c3).trans ((hs3.2 c c2).trans e)))
 have hnew : g8.get? g5.objs.size = some { cls := Value.type "tuple", data := Data.seq #[x,y] } := (hs8.2 _ nw).trans ((hs7.2 _ nw).trans (Heap.get?_push_size _ rfl))
 have sz8 : g8.objs.size = s.heap.objs.size + 1 := by
  rw [hs8.1]
  show g7.objs.size = _
  rw [hs7.1]
  show (g5.push _).objs.size = _
  rw [Heap.size_push,sz5]
 have hz8' : IsZip g8 z TI TO (rawInt s.heap.objs.size) := by
  rw [<- sz5]
  exact hz8
 refine wpAny_pure ⟨_,rfl,?_⟩
 show Q (Value.ref g5.objs.size) { s with heap := g8,toks := tk4 }
 rw [sz5] at hnew ⊢
 refine hQ x y g8 tk4 px py hz8' (fr _ _ nTO hTO5) (D1.frame _ _ _ st1' fun c hc o e => up c o (fun q => f1z (q ▸ hc)) (fun q => f1T (q ▸ hc)) (fun q => f12 (q ▸ hc)) e) (D2.frame _ _ _ st2'' fun c hc o e => fr c o (fun q => f2z (q ▸ hc)) ((hs5.2 c fun q => f2T (q ▸ hc)).trans e)) hnew sz8 fun c o c1 c2 c3 c4 e => up c o c1 c2 c4 ((hs2.2 c c3).trans ((hs1.2 c c1).trans e))
theorem zgH {z TI TO i1 i2 : Addr} {fp1 : List Addr} {n1 : Nat} {P1 : Nat -> Value -> Prop} {S1 : Nat -> Heap -> Prop} {a b : Value} {Q : Value -> Shared -> Prop}
  (D1 : Draws prog w A i1 fp1 n1 P1 S1) (hz : IsZip s.heap z TI TO .none) (hTI : IsPair s.heap TI (.ref i1) (.ref i2)) (hTO : IsPair s.heap TO a b)
  (h1 : S1 n1 s.heap) (nTO : TO ≠ z) (n1z : i1 ≠ z) (f1z : z ∉ fp1)
  (hE : ∀ h' e,(∃ o,h'.get? e = some o /\ o.cls = .type "StopIteration") -> (∀ c o,c ≠ z -> c ≠ TO -> c ≠ i1 -> c ≠ i2 -> s.heap.get? c = some o -> h'.get? c = some o) -> E (.ref e) { s with heap := h' }) :
  wpAny (model prog w) A (Builtin.«zip.__next__» ⟨[.ref z],[]⟩) (fun fin s' => ∃ v,fin = .done (.ret v) /\ Q v s') E s := by
 show wpAny _ _ (field (.ref z) 2 >>= _) _ _ s
 refine wpAny_bind (wpAny_field hz rfl (x := .bool false) rfl ?_)
 refine wpAny_bind (wpAny_field hz rfl (x := .ref TI) rfl ?_)
 refine wpAny_bind (wpAny_seqItems hTI rfl ?_)
 refine wpAny_bind (m := SmallTypes.ownedTupleIsFree (.ref z)) (wpAny_bind (wpAny_field hz rfl (x := .none) rfl (wpAny_pure ?_)))
 show wpAny _ _ (if true = true then _ else _) _ _ s
 rw [if_pos rfl]
 refine wpAny_bind (wpAny_rule ?_)
 refine wpAny_bind (wpAny_field hz rfl (x := .ref TO) rfl ?_)
 refine wpAny_bind (wpAny_setField_rec hz (by simp) fun g1 hz1 hs1 => ?_)
 have st1 : S1 n1 g1 := D1.frame n1 _ _ h1 fun c hc o e => (hs1.2 c fun q => f1z (q ▸ hc)).trans e
 refine wpAny_bind ?_
 show wpAny _ _ (forIn [(Value.ref i1,0),(Value.ref i2,1)] _ _) _ _ _
 rw [List.forIn_cons]
 refine wpAny_bind (wpAny_bind (wpAny_onRaise ?_))
 refine wpAny_bind (m := SmallTypes.nextOf (.ref i1)) (D1.done { s with heap := g1 } _ _ st1 fun g2 e hs2 he => ?_)
 have hz2 : g2.get? z = some _ := hs2 z _ (Ne.symm n1z) hz1
 refine wpAny_setField_rec hz2 (by simp) fun g3 hz3 hs3 => ?_
 obtain ⟨oe,e1,e2⟩ := he
 have ez : e ≠ z := fun q => by
  rw [q,hz2] at e1
  cases e1
  exact absurd (Value.type.inj e2) (by decide)
 exact hE g3 e ⟨oe,(hs3.2 e ez).trans e1,e2⟩ fun c o c1 c2 c3 c4 q => (hs3.2 c c1).trans (hs2 c o c3 ((hs1.2 c c1).trans q))
theorem zcz {z TI TO i1 i2 : Addr} {fp1 fp2 : List Addr} {n1 n2 k : Nat} {P1 P2 : Nat -> Value -> Prop} {S1 S2 : Nat -> Heap -> Prop} {a b : Value} {Q : Option Value -> Shared -> Prop}
  (D1 : Draws prog w A.in1 i1 fp1 n1 P1 S1) (D2 : Draws prog w A.in1 i2 fp2 n2 P2 S2) (hz : IsZip s.heap z TI TO .none) (hTI : IsPair s.heap TI (.ref i1) (.ref i2)) (hTO : IsPair s.heap TO a b)
  (h1 : S1 k s.heap) (h2 : S2 k s.heap) (k1 : k < n1) (k2 : k < n2) (nTO : TO ≠ z) (nTI : TI ≠ z) (n1z : i1 ≠ z) (n2z : i2 ≠ z) (n1T : i1 ≠ TO) (n2T : i2 ≠ TO)
  (f1z : z ∉ fp1) (f1T : TO ∉ fp1) (f12 : i2 ∉ fp1) (f2z : z ∉ fp2) (f2T : TO ∉ fp2) (f21 : i1 ∉ fp2)
  (hQ : ∀ x y h' tk,P1 k x -> P2 k y -> IsZip h' z TI TO (rawInt s.heap.objs.size) -> IsPair h' TO x y -> S1 (k + 1) h' -> S2 (k + 1) h' -> IsPair h' s.heap.objs.size x y -> h'.objs.size = s.heap.objs.size + 1 →
   (∀ c o,c ≠ z -> c ≠ TO -> c ≠ i1 -> c ≠ i2 -> s.heap.get? c = some o -> h'.get? c = some o) -> Q (some (.ref s.heap.objs.size)) { s with heap := h',toks := tk }) :
  wpAny (model prog w) A (pyNext (.ref z)) Q E s := by
 have hT : s.TypeIs (.ref z) "zip" := ⟨_,hz,rfl⟩
 exact wpAny_bind (wpAny_attempt (wpAny_callSpecial?_slot hT F.slot_zip_next (wpAny_call_entry F.slot_zip_next hT F.entry_zip_next
  (zf0 D1 D2 hz hTI hTO h1 h2 k1 k2 nTO nTI n1z n2z n1T n2T f1z f1T f12 f2z f2T f21 fun x y h' tk a0 b0 a1 a2 a3 a4 a5 a6 a7 => wpAny_pure (hQ x y h' tk a0 b0 a1 a2 a3 a4 a5 a6 a7)) (F.args_zip_next_1 (Value.ref z)))))
theorem zcF {z TI TO i1 i2 : Addr} {fp1 : List Addr} {n1 : Nat} {P1 : Nat -> Value -> Prop} {S1 : Nat -> Heap -> Prop} {a b : Value} {Q : Option Value -> Shared -> Prop}
  (D1 : Draws prog w A.in1 i1 fp1 n1 P1 S1) (hz : IsZip s.heap z TI TO .none) (hTI : IsPair s.heap TI (.ref i1) (.ref i2)) (hTO : IsPair s.heap TO a b)
  (h1 : S1 n1 s.heap) (nTO : TO ≠ z) (n1z : i1 ≠ z) (f1z : z ∉ fp1)
  (hQ : ∀ h',(∀ c o,c ≠ z -> c ≠ TO -> c ≠ i1 -> c ≠ i2 -> s.heap.get? c = some o -> h'.get? c = some o) -> Q none { s with heap := h' }) :
  wpAny (model prog w) A (pyNext (.ref z)) Q E s := by
 have hT : s.TypeIs (.ref z) "zip" := ⟨_,hz,rfl⟩
 exact wpAny_bind (wpAny_attempt (wpAny_callSpecial?_slot hT F.slot_zip_next (wpAny_call_entry F.slot_zip_next hT F.entry_zip_next
  (zgH D1 hz hTI hTO h1 nTO n1z f1z fun h' e he k => let ⟨o,ho,hc⟩ := he; wpAny_bind (wpAny_isInstance ⟨o,ho,hc⟩ isSubtype_stop (wpAny_pure (hQ h' k)))) (F.args_zip_next_1 (Value.ref z)))))
end
def zpH (h : Heap) (o1 o2 : Obj) : Heap :=
 ((((h.push o1).push o2).push { cls := .type "tuple", data := .seq #[.ref h.objs.size,.ref (h.push o1).objs.size] }).push { cls := .type "tuple", data := .seq #[.none,.none] }).push
  { cls := .type "zip", data := .fields #[.none,.bool false,.bool false,.ref ((h.push o1).push o2).objs.size,.ref (((h.push o1).push o2).push { cls := .type "tuple", data := .seq #[.ref h.objs.size,.ref (h.push o1).objs.size] }).objs.size] }
abbrev tIt (l : Addr) : Obj := { cls := .type "tuple_iterator", data := .fields #[.ref l,.int 0 0] }
abbrev lIt (l : Addr) : Obj := { cls := .type "list_iterator", data := .fields #[.ref l,.int 0 0] }
theorem zh6 (l1 l2 : Addr) (xs ys : Array Value) :
  Meets (Builtin.«zip.__new__» ⟨[.type "zip", .ref l1,.ref l2],[]⟩) (fun _ R s => s.heap.IsTuple l1 xs /\ s.heap.IsList l2 ys ∧
   R (.ok (.ret (.ref ((((s.heap.push (tIt l1)).push (lIt l2)).push { cls := .type "tuple", data := .seq #[.ref s.heap.objs.size,.ref (s.heap.push (tIt l1)).objs.size] }).push { cls := .type "tuple", data := .seq #[.none,.none] }).objs.size)))
    { s with heap := zpH s.heap (tIt l1) (lIt l2) }) :=
 .of_wp fun prog w A R s h => by
  obtain ⟨hp,g,d,tk,os⟩ := s
  obtain ⟨hl1,hl2,h⟩ := h
  have hsub := sub_zip
  have hL1 := hl1
  have hL2 := Heap.IsList.push hl2 (tIt l1)
  wp_walk using wpAny_pyIter_tuple hL1,wpAny_pyIter_list hL2
  exact ⟨_,rfl,h⟩
theorem zjw {prog : Program} {w : World} {A : Around} {E : Value -> Shared -> Prop} {s : Shared} {l1 l2 : Addr} {xs ys : Array Value} {Q : Value -> Shared -> Prop} (h1 : s.heap.IsTuple l1 xs) (h2 : s.heap.IsList l2 ys)
  (h : ∀ h',IsZip h' (s.heap.objs.size + 4) (s.heap.objs.size + 2) (s.heap.objs.size + 3) .none -> IsPair h' (s.heap.objs.size + 2) (.ref s.heap.objs.size) (.ref (s.heap.objs.size + 1)) -> IsPair h' (s.heap.objs.size + 3) .none .none →
   h'.IsTupleIter s.heap.objs.size l1 0 -> h'.IsListIter (s.heap.objs.size + 1) l2 0 -> (∀ b o,s.heap.get? b = some o -> h'.get? b = some o) -> Q (.ref (s.heap.objs.size + 4)) { s with heap := h' }) :
  wpAny (model prog w) A (call (.type "zip") [.ref l1,.ref l2]) Q E s := by
 refine callType_new F.called_zip (by decide) (F.typeCall_zip_2 _ _) (F.newCall_zip_2 _ _) (fun obj => F.args_object_init_3 obj _ _) F.entry_zip_new (zh6 l1 l2 xs ys) ⟨h1,h2,?_⟩
 have z1 : (s.heap.push (tIt l1)).objs.size = s.heap.objs.size + 1 := Heap.size_push ..
 have z2 : ((s.heap.push (tIt l1)).push (lIt l2)).objs.size = s.heap.objs.size + 2 := by rw [Heap.size_push,z1]
 have z3 : (((s.heap.push (tIt l1)).push (lIt l2)).push { cls := .type "tuple", data := .seq #[.ref s.heap.objs.size,.ref (s.heap.push (tIt l1)).objs.size] }).objs.size = s.heap.objs.size + 3 := by rw [Heap.size_push,z2]
 have z4 : ((((s.heap.push (tIt l1)).push (lIt l2)).push { cls := .type "tuple", data := .seq #[.ref s.heap.objs.size,.ref (s.heap.push (tIt l1)).objs.size] }).push { cls := .type "tuple", data := .seq #[.none,.none] }).objs.size = s.heap.objs.size + 4 := by rw [Heap.size_push,z3]
 have g5 : IsZip (zpH s.heap (tIt l1) (lIt l2)) (s.heap.objs.size + 4) (s.heap.objs.size + 2) (s.heap.objs.size + 3) .none := by
  rw [<- z4,<- z3,<- z2]
  exact Heap.get?_push_size _ rfl
 have g4 : IsPair (zpH s.heap (tIt l1) (lIt l2)) (s.heap.objs.size + 3) .none .none := by
  rw [<- z3]
  exact Heap.get?_push_of_some _ (Heap.get?_push_size _ rfl)
 have g3 : IsPair (zpH s.heap (tIt l1) (lIt l2)) (s.heap.objs.size + 2) (.ref s.heap.objs.size) (.ref (s.heap.objs.size + 1)) := by
  rw [<- z2,<- z1]
  exact Heap.get?_push_of_some _ (Heap.get?_push_of_some _ (Heap.get?_push_size _ rfl))
 have g2 : (zpH s.heap (tIt l1) (lIt l2)).get? (s.heap.objs.size + 1) = some (lIt l2) := by
  rw [<- z1]
  exact Heap.get?_push_of_some _ (Heap.get?_push_of_some _ (Heap.get?_push_of_some _ (Heap.get?_push_size _ rfl)))
 have g1 : (zpH s.heap (tIt l1) (lIt l2)).get? s.heap.objs.size = some (tIt l1) := Heap.get?_push_of_some _ (Heap.get?_push_of_some _ (Heap.get?_push_of_some _ (Heap.get?_push_of_some _ (Heap.get?_push_size _ rfl))))
 show _ /\ _
 rw [z4]
 exact ⟨⟨_,g5,rfl⟩,h _ g5 g3 g4 ⟨_,g1,rfl,rfl⟩ ⟨_,g2,rfl,rfl⟩ fun b o e => Heap.get?_push_of_some _ (Heap.get?_push_of_some _ (Heap.get?_push_of_some _ (Heap.get?_push_of_some _ (Heap.get?_push_of_some _ e))))⟩
theorem zh5 (l1 l2 : Addr) (xs ys : Array Value) :
  Meets (Builtin.«zip.__new__» ⟨[.type "zip", .ref l1,.ref l2],[]⟩) (fun _ R s => s.heap.IsTuple l1 xs /\ s.heap.IsTuple l2 ys ∧
   R (.ok (.ret (.ref ((((s.heap.push (tIt l1)).push (tIt l2)).push { cls := .type "tuple", data := .seq #[.ref s.heap.objs.size,.ref (s.heap.push (tIt l1)).objs.size] }).push { cls := .type "tuple", data := .seq #[.none,.none] }).objs.size)))
    { s with heap := zpH s.heap (tIt l1) (tIt l2) }) :=
 .of_wp fun prog w A R s h => by
  obtain ⟨hp,g,d,tk,os⟩ := s
  obtain ⟨hl1,hl2,h⟩ := h
  have hsub := sub_zip
  have hL1 := hl1
  have hL2 := Heap.IsTuple.push hl2 (tIt l1)
  wp_walk using wpAny_pyIter_tuple hL1,wpAny_pyIter_tuple hL2
  exact ⟨_,rfl,h⟩
theorem zjv {prog : Program} {w : World} {A : Around} {E : Value -> Shared -> Prop} {s : Shared} {l1 l2 : Addr} {xs ys : Array Value} {Q : Value -> Shared -> Prop} (h1 : s.heap.IsTuple l1 xs) (h2 : s.heap.IsTuple l2 ys)
  (h : ∀ h',IsZip h' (s.heap.objs.size + 4) (s.heap.objs.size + 2) (s.heap.objs.size + 3) .none -> IsPair h' (s.heap.objs.size + 2) (.ref s.heap.objs.size) (.ref (s.heap.objs.size + 1)) -> IsPair h' (s.heap.objs.size + 3) .none .none →
   h'.IsTupleIter s.heap.objs.size l1 0 -> h'.IsTupleIter (s.heap.objs.size + 1) l2 0 -> (∀ b o,s.heap.get? b = some o -> h'.get? b = some o) -> Q (.ref (s.heap.objs.size + 4)) { s with heap := h' }) :
  wpAny (model prog w) A (call (.type "zip") [.ref l1,.ref l2]) Q E s := by
 refine callType_new F.called_zip (by decide) (F.typeCall_zip_2 _ _) (F.newCall_zip_2 _ _) (fun obj => F.args_object_init_3 obj _ _) F.entry_zip_new (zh5 l1 l2 xs ys) ⟨h1,h2,?_⟩
 have z1 : (s.heap.push (tIt l1)).objs.size = s.heap.objs.size + 1 := Heap.size_push ..
 have z2 : ((s.heap.push (tIt l1)).push (tIt l2)).objs.size = s.heap.objs.size + 2 := by rw [Heap.size_push,z1]
 have z3 : (((s.heap.push (tIt l1)).push (tIt l2)).push { cls := .type "tuple", data := .seq #[.ref s.heap.objs.size,.ref (s.heap.push (tIt l1)).objs.size] }).objs.size = s.heap.objs.size + 3 := by rw [Heap.size_push,z2]
 have z4 : ((((s.heap.push (tIt l1)).push (tIt l2)).push { cls := .type "tuple", data := .seq #[.ref s.heap.objs.size,.ref (s.heap.push (tIt l1)).objs.size] }).push { cls := .type "tuple", data := .seq #[.none,.none] }).objs.size = s.heap.objs.size + 4 := by rw [Heap.size_push,z3]
 have g5 : IsZip (zpH s.heap (tIt l1) (tIt l2)) (s.heap.objs.size + 4) (s.heap.objs.size + 2) (s.heap.objs.size + 3) .none := by
  rw [<- z4,<- z3,<- z2]
  exact Heap.get?_push_size _ rfl
 have g4 : IsPair (zpH s.heap (tIt l1) (tIt l2)) (s.heap.objs.size + 3) .none .none := by
  rw [<- z3]
  exact Heap.get?_push_of_some _ (Heap.get?_push_size _ rfl)
 have g3 : IsPair (zpH s.heap (tIt l1) (tIt l2)) (s.heap.objs.size + 2) (.ref s.heap.objs.size) (.ref (s.heap.objs.size + 1)) := by
  rw [<- z2,<- z1]
  exact Heap.get?_push_of_some _ (Heap.get?_push_of_some _ (Heap.get?_push_size _ rfl))
 have g2 : (zpH s.heap (tIt l1) (tIt l2)).get? (s.heap.objs.size + 1) = some (tIt l2) := by
  rw [<- z1]
  exact Heap.get?_push_of_some _ (Heap.get?_push_of_some _ (Heap.get?_push_of_some _ (Heap.get?_push_size _ rfl)))
 have g1 : (zpH s.heap (tIt l1) (tIt l2)).get? s.heap.objs.size = some (tIt l1) := Heap.get?_push_of_some _ (Heap.get?_push_of_some _ (Heap.get?_push_of_some _ (Heap.get?_push_of_some _ (Heap.get?_push_size _ rfl))))
 show _ /\ _
 rw [z4]
 exact ⟨⟨_,g5,rfl⟩,h _ g5 g3 g4 ⟨_,g1,rfl,rfl⟩ ⟨_,g2,rfl,rfl⟩ fun b o e => Heap.get?_push_of_some _ (Heap.get?_push_of_some _ (Heap.get?_push_of_some _ (Heap.get?_push_of_some _ (Heap.get?_push_of_some _ e))))⟩
end PySem
namespace L2
open PySem PySem.Spec PyProof.Rows
theorem Inv.turnN {X : Cx} {pins : List (Addr × Obj)} {σ : St} {H : Hp} {s : Shared} {h' : Heap} {t' : Nat} {ch : List Addr} (I : Inv X pins σ H s) (fa : ∀ b ∈ ch,zd7 X pins H b)
  (k : ∀ c o,c ∉ ch -> s.heap.get? c = some o -> h'.get? c = some o) : Inv X pins σ H { s with heap := h',toks := t' } := by
 have na : ∀ c u,H c = some u -> c ∉ ch := fun c u e z => by have := (fa c z).1; rw [e] at this; cases this
 refine I.step (g' := s.gens) (d' := s.drawn) (ch := ch) (fun c hc => ?_) (fun c o _ _ hc e _ => k c o hc e) (fun c o _ _ hc e _ => ⟨o.slots,k c o hc e⟩)
  (fun _ _ _ _ n => n) (fun c o hc e => ⟨o,k c o hc e⟩) (fun _ _ e => e) (fun _ _ _ e => e) (fun c ps e => ⟨#[],by rw [e]; simp⟩) (fun m hm => ?_) (fun c u e => ?_) I.bare
 ·obtain ⟨a0,a1,a2,a3,a4,a5⟩ := fa c hc
  exact ⟨a3,a1,a4,a5⟩
 ·obtain ⟨o,es,ep,ho,r⟩ := hm
  exact ⟨o,es,ep,k _ o (fun z => (fa _ z).2.1 rfl) ho,r⟩
 ·refine (I.hok c u e).stay (fun d v hd q => ?_) (fun _ q => q) fun _ _ q => q
  rcases hd with z | z
  ·rw [z] at q ⊢
   exact k c v (na c u e) q
  ·exact k d v (na d _ z) q
theorem Inv.turnNl {X : Cx} {pins : List (Addr × Obj)} {σ : St} {H : Hp} {s : Shared} {h' : Heap} {t' : Nat} {ch : List Addr} {T : Addr} {o' : HO} (I : Inv X pins σ H s) (fa : ∀ b ∈ ch,zd7 X pins H b)
  (k : ∀ c o,c ∉ ch -> s.heap.get? c = some o -> h'.get? c = some o) (hT : s.heap.objs.size <= T) (new : ObjOk X.prog X.w (upd H T o') h' T o') : Inv X pins σ (upd H T o') { s with heap := h',toks := t' } := by
 have J : Inv X pins σ H { s with heap := h',toks := t' } := I.turnN fa k
 have hn : H T = none := I.hok.fresh hT
 have nT : ∀ c o,s.heap.get? c = some o -> c ≠ T := fun c o q => Nat.ne_of_lt (Nat.lt_of_lt_of_le (Heap.lt_size q) hT)
 refine I.step (g' := s.gens) (d' := s.drawn) (ch := ch) (fun c hc => ?_) (fun c o _ _ hc e _ => k c o hc e) (fun c o _ _ hc e _ => ⟨o.slots,k c o hc e⟩)
  (fun c o _ q n => by rw [zao (nT c o q)]; exact n) (fun c o hc e => ⟨o,k c o hc e⟩) (fun c xs e => by rw [zao (zaz e hn)]; exact e) (fun c u xs e => by rw [zao (zaz e hn)]; exact e)
  (fun c ps e => ⟨#[],by rw [zao (zaz e hn),e]; simp⟩) (fun m hm => ?_) (zdV J.hok hn new) I.bare
 ·obtain ⟨a0,a1,a2,a3,a4,a5⟩ := fa c hc
  exact ⟨a3,a1,a4,a5⟩
 ·obtain ⟨o,es,ep,ho,r⟩ := hm
  exact ⟨o,es,ep,k _ o (fun z => (fa _ z).2.1 rfl) ho,r⟩
end L2
namespace PySem
open Sem (wp)
open Builtin
theorem zig (a : Int) (t : Tok) (l : Addr) (items : Array Value) (n : Nat) (dd : Option Addr) (sl : Array (Option Value)) :
  Meets (Builtin.«int.__rmul__» ⟨[.int a t,.ref l],[]⟩) (fun _ R s => s.heap.get? l = some ⟨.type "tuple", dd,.seq items n,sl⟩ /\ R (.ok (.ret .notImplemented)) s) :=
 .of_wp fun prog w A R s h => by
  obtain ⟨hp,g,d,tk,os⟩ := s
  obtain ⟨hl,h⟩ := h
  wp_walk
  exact ⟨_,rfl,h⟩
theorem zeS : fillsNumberSlot (Value.type "tuple") "mul" = pure false := PySem.fillsNumberSlot_seq F.slot_tuple_mul.lookup (by first | rfl | decide) F.slot_tuple_rmul.lookup (by first | rfl | decide)
theorem zhN : seqRepeat? (Value.type "tuple") = pure (some (Value.builtin "tuple.__mul__")) := by
 unfold seqRepeat?
 have h1 : seqSlot? (Value.type "tuple") (Str.ofString "__mul__") = _ := PySem.seqSlot_of F.slot_tuple_mul.lookup (by first | rfl | decide)
 have h2 : seqSlot? (Value.type "tuple") (Str.ofString "__rmul__") = _ := PySem.seqSlot_of F.slot_tuple_rmul.lookup (by first | rfl | decide)
 rw [h1,h2]
 rfl
theorem znV (l : Addr) (v : Value) (t : Tok) (n : Nat) (dd : Option Addr) (sl : Array (Option Value)) :
  Meets (Builtin.«tuple.__mul__» ⟨[.ref l,.int 1 t],[]⟩) (fun _ R s => s.heap.get? l = some ⟨.type "tuple", dd,.seq #[v] n,sl⟩ /\ R (.ok (.ret (.ref l))) s) :=
 .of_wp fun prog w A R s h => by
  obtain ⟨hp,g,d,tk,os⟩ := s
  obtain ⟨hl,h⟩ := h
  unfold Builtin.«tuple.__mul__»
  wp_walk
  exact ⟨_,rfl,h⟩
theorem zeH (v : Value) : ∀ (n : Nat) (a : Array Value),List.foldl (fun x1 x2 => x1 ++ x2) a (List.replicate n #[v]) = a ++ (List.replicate n v).toArray
 | 0,a => by simp
 | n + 1,a => by
  rw [List.replicate_succ,List.foldl_cons,zeH v n,List.replicate_succ]
  apply Array.ext'
  simp
theorem zko (v : Value) (n : Nat) : List.foldl (fun x1 x2 => x1 ++ x2) #[] (List.replicate n #[v]) = (List.replicate n v).toArray := by rw [zeH]; simp
theorem znU (l : Addr) (v : Value) (x : Int) (t : Tok) (n : Nat) (dd : Option Addr) (sl : Array (Option Value)) (h2 : 2 <= x) (h3 : x <= 1000) :
  Meets (Builtin.«tuple.__mul__» ⟨[.ref l,.int x t],[]⟩) (fun _ R s => s.heap.get? l = some ⟨.type "tuple", dd,.seq #[v] n,sl⟩ ∧
   R (.ok (.ret (.ref s.heap.objs.size))) { s with heap := s.heap.push { cls := .type "tuple", data := .seq (List.foldl (fun x1 x2 => x1 ++ x2) #[] (List.replicate x.toNat #[v])) } }) :=
 .of_wp fun prog w A R s h => by
  obtain ⟨hp,g,d,tk,os⟩ := s
  obtain ⟨hl,h⟩ := h
  have e1 : (decide (x < -2 ^ 63) || decide (x ≥ 2 ^ 63)) = false := by simp; omega
  have e2 : ((#[v] : Array Value).isEmpty || x == 1) = false := by simp; omega
  have e3 : (decide (x <= 0) || (#[v] : Array Value).isEmpty) = false := by simp; omega
  have e4 : ¬ (((#[v] : Array Value).size : Int) * x > (2 ^ 63 - 1) / 8) := by simp; omega
  have e5 : Builtin.Tuple.tupleTooMany (((#[v] : Array Value).size : Int) * x) = false := by
   unfold Builtin.Tuple.tupleTooMany
   have : (sizeLine : Int) = 16777216 := by decide
   rw [this]
   simp
   omega
  unfold Builtin.«tuple.__mul__»
  wp_walk
  rw [e1,if_neg Bool.false_ne_true]
  refine wpAny_bind (m := Builtin.Tuple.tupleItemsOf _) (wpAny_bind (wpAny_seqItems hl rfl (wpAny_pure ?_)))
  show wpAny _ _ (if ((#[v] : Array Value).isEmpty || x == 1) = true then _ else _) _ _ _
  rw [e2,if_neg Bool.false_ne_true]
  show wpAny _ _ (if (decide (x <= 0) || (#[v] : Array Value).isEmpty) = true then _ else _) _ _ _
  rw [e3,if_neg Bool.false_ne_true]
  show wpAny _ _ (if (((#[v] : Array Value).size : Int) * x > (2 ^ 63 - 1) / 8) then _ else _) _ _ _
  rw [if_neg e4]
  show wpAny _ _ (if Builtin.Tuple.tupleTooMany (((#[v] : Array Value).size : Int) * x) = true then _ else _) _ _ _
  rw [e5,if_neg Bool.false_ne_true]
  refine wpAny_bind (m := Builtin.Tuple.tupleExact _) (wpAny_newObj_type (wpAny_pure ⟨_,rfl,h⟩) ?_)
  rw [zko]
  show (List.replicate x.toNat v).toArray.size <= sizeLine
  rw [List.size_toArray,List.length_replicate]
  have : sizeLine = 16777216 := by decide
  omega
end PySem
namespace L2
open PySem PySem.Spec PyProof.Rows
section
variable {X : Cx}
theorem zjG {v : V} {u : Value} (r : RelV v u) : ∀ n : Nat,Vals (List.replicate n v) (List.replicate n u)
 | 0 => .nil
 | n + 1 => .cons r (zjG r n)
def tPar3 (i j k : Nat) (ta : TA) : TS := fun D σ H => ta σ H fun vs H1 => ∃ u v w,vs = [u,v,w] /\ D.nx (((σ.set i (some u)).set j (some v)).set k (some w)) H1
theorem zqb {i j k : Nat} {x y z : Str} {a b c : Expr} {ta : TA} {px py pz pt pos : Pos} {kt k2 pt2} (hc : X.calm = true) (hN : X.N.Nodup) (hi : X.N[i]? = some x) (hj : X.N[j]? = some y) (hk : X.N[k]? = some z) (hij : i ≠ j) (hik : i ≠ k) (hjk : j ≠ k)
  (hx : X.env.scope.names.lookup x = some .local) (hy : X.env.scope.names.lookup y = some .local) (hz : X.env.scope.names.lookup z = some .local) (ha : PA X [a,b,c] ta)
  (hw : swappedStores [.Tuple [.Name x px,.Name y py,.Name z pz] kt pt] (.Tuple [a,b,c] k2 pt2) X.env = pure (some [x,y,z]))
  (hs : autoParam (swapsWithSole [.Tuple [.Name x px,.Name y py,.Name z pz] kt pt] (.Tuple [a,b,c] k2 pt2) pos.line X.env = pure false) AutoP.a3._auto_1) :
  PS X (.Assign [.Tuple [.Name x px,.Name y py,.Name z pz] kt pt] (.Tuple [a,b,c] k2 pt2) pos) (tPar3 i j k ta) := by
 intro pins s σ H D I h
 rw [exec_Assign_arm]
 refine wpAny_bind (wpAny_standAt ?_)
 rw [hs]
 refine wpAny_bind (wpAny_pure ?_)
 rw [if_neg (by decide)]
 refine wpAny_bind (Tuple_ (thn (ha _ pins s σ H _ I h) fun us s1 ⟨vs,H1,I1,r1,q1⟩ => ?_))
 obtain ⟨v0,v,w,e1,q1⟩ := q1
 subst e1
 obtain ⟨u0,u1,u2,rfl,ru,rv,rw'⟩ : ∃ u0 u1 u2,us = [u0,u1,u2] /\ RelV v0 u0 /\ RelV v u1 /\ RelV w u2 := by
  cases r1 with
  | cons p0 q0 =>
   cases q0 with
   | cons p q =>
    cases q with
    | cons p' q' =>
     cases q'
     exact ⟨_,_,_,rfl,p0,p,p'⟩
 refine wpAny_newObj_type ?_ (by show 3 <= sizeLine; decide)
 have I2 : Inv X pins σ H1 { s1 with heap := s1.heap.push { cls := .type "tuple", data := .seq [u0,u1,u2].toArray } } := I1.kept (t' := s1.toks) fun b o e => Heap.get?_push_of_some _ e
 rw [hw]
 refine wpAny_bind (wpAny_pure ?_)
 show wpAny (model X.prog X.w) X.A (do rule "assign.swapped-stores"; let items <- unpackItems (.ref s1.heap.objs.size) 3 none; assignInOrder [fun v => bindName X.env z v,fun v => bindName X.env y v,fun v => bindName X.env x v] items.reverse; pure Flow.next) _ _ _
 refine wpAny_bind (wpAny_rule (wpAny_bind (unpackItems_tuple (items := #[u0,u1,u2]) (I.ok.hd hc) (IsTup.new s1.heap _) fun h' hx' => ?_)))
 have I3 := I2.kept (h' := h') (t' := s1.toks) fun b o e => hx' b o (Nat.ne_of_lt (Heap.lt_size e)) e
 show wpAny _ _ (assignInOrder [fun v => bindName X.env z v,fun v => bindName X.env y v,fun v => bindName X.env x v] [u2,u1,u0] >>= fun _ => pure Flow.next) _ _ _
 refine wpAny_bind (assignInOrder_cons (wpAny_bindName (zci I3 hN hk (.inl hz) rw' (fun s2 I4 => ?_) (.inr hz))))
 refine assignInOrder_cons (wpAny_bindName (zci I4 hN hj (.inl hy) rv (fun s3 I5 => ?_) (.inr hy)))
 refine assignInOrder_cons (wpAny_bindName (zci I5 hN hi (.inl hx) ru (fun s4 I6 => assignInOrder_nil (wpAny_pure ?_)) (.inr hx)))
 rw [List.set_comm _ _ (Ne.symm hij),List.set_comm _ _ (Ne.symm hik),List.set_comm _ _ (Ne.symm hjk)] at I6
 exact ⟨_,H1,I6,q1⟩
end
end L2
namespace Mth
open PySem PyProof.Rows
theorem zoP (xs : Array Nat) (a n : Nat) (h : a + n <= xs.size) : List.filterMap (fun i => xs[i]?) ((List.range n).map fun k => a + k) = (xs.toList.drop a).take n := by
 induction n with
 | zero => simp
 | succ n ih =>
  rw [List.range_succ,List.map_append,List.filterMap_append,ih (by omega),List.take_add_one]
  have h1 : a + n < xs.size := by omega
  simp [h1]
theorem zjk (u : Option Int) (n : Nat) : Builtin.Str.strSliceIndices none u 1 n = Builtin.Str.strSliceIndices (some ((0 : Nat) : Int)) u 1 n := by
 unfold Builtin.Str.strSliceIndices
 simp
 rw [show min 0 (n : Int) = 0 by omega,Int.max_self]
theorem zjl (l : Option Int) (n : Nat) : Builtin.Str.strSliceIndices l none 1 n = Builtin.Str.strSliceIndices l (some (n : Int)) 1 n := by
 unfold Builtin.Str.strSliceIndices
 simp
 rw [if_neg (by omega),Int.min_self,show max 0 (n : Int) = n by omega]
theorem slice_mid (z : Str) (a b : Nat) (h1 : a <= b) (h2 : b <= z.cps.size) : (Txt.slice z (some (a : Int)) (some (b : Int))).cps.toList = (z.cps.toList.drop a).take (b - a) := by
 unfold Txt.slice
 have hl : z.length = z.cps.size := rfl
 rw [hl,StrLaws.strSliceIndices_plain h1 h2,List.length_map,List.length_range]
 split
 ·rename_i h
  have h3 : b - a = z.cps.size := by simpa using h
  have ha : a = 0 := by omega
  subst ha
  rw [List.drop_zero,List.take_of_length_le (by simp; omega)]
 ·exact zoP z.cps a (b - a) (by omega)
theorem slice_lo (z : Str) (b : Nat) (h2 : b <= z.cps.size) : (Txt.slice z none (some (b : Int))).cps.toList = z.cps.toList.take b := by
 have e : Txt.slice z none (some (b : Int)) = Txt.slice z (some ((0 : Nat) : Int)) (some (b : Int)) := by
  unfold Txt.slice
  rw [zjk]
 rw [e,slice_mid z 0 b (Nat.zero_le _) h2]
 simp
theorem slice_hi (z : Str) (a : Nat) (h2 : a <= z.cps.size) : (Txt.slice z (some (a : Int)) none).cps.toList = z.cps.toList.drop a := by
 have e : Txt.slice z (some (a : Int)) none = Txt.slice z (some (a : Int)) (some (z.cps.size : Int)) := by
  unfold Txt.slice
  rw [zjl]
  rfl
 rw [e,slice_mid z a z.cps.size h2 (Nat.le_refl _),List.take_of_length_le (by simp)]
end Mth
namespace L2
open PySem PySem.Spec PyProof.Rows
variable {X : Cx}
theorem zoa {acc : Array Value} {n : Nat} (h : ItemsOf (fun i v => ∃ t,v = Value.int (0 + (i : Int) * 1) t) acc n) : Vals ((List.range n).map fun i : Nat => V.int (i : Int)) acc.toList := by
 obtain ⟨h1,h2⟩ := h
 have gen : ∀ (n k : Nat) (ls : List Value),ls.length = n -> (∀ j v,ls[j]? = some v -> ∃ t,v = Value.int (0 + ((k + j : Nat) : Int) * 1) t) -> Vals ((List.range' k n).map fun i : Nat => V.int (i : Int)) ls := by
  intro n
  induction n with
  | zero => intro k ls hl _; have : ls = [] := List.length_eq_zero_iff.mp hl; subst this; exact .nil
  | succ n ih =>
   intro k ls hl hh
   cases ls with
   | nil => cases hl
   | cons v ls =>
    rw [List.range'_succ,List.map_cons]
    refine .cons ?_ (ih (k + 1) ls (by simpa using hl) fun j v e => ?_)
    ·obtain ⟨t,rfl⟩ := hh 0 v rfl
     refine ⟨t,?_⟩
     simp
    ·have := hh (j + 1) v (by simpa using e)
     rwa [show k + (j + 1) = k + 1 + j by omega] at this
 have := gen n 0 acc.toList (by simpa using h1) fun j v e => by simpa using h2 j v (by simpa using e)
 rwa [← List.range_eq_range'] at this
theorem zht (hc : X.calm = true) : CallR X (.type "list") (fun xs H Q => ∃ (p : Addr) (n : Nat),xs = [.ref p] /\ H p = some (.rng 0 (n : Int)) /\ n <= 1000 /\ ∀ l,H l = none -> Q (.ref l) (upd H l (.lst ((List.range n).map fun i : Nat => V.int (i : Int))))) := by
 intro pins s σ H xs us Q I r h
 obtain ⟨p,n,rfl,hp,hn,q⟩ := h
 obtain ⟨u,rfl,rx⟩ := zb3 r
 cases rx
 obtain ⟨t,u,v,e⟩ := (show ObjOk X.prog X.w H s.heap p (.rng 0 (n : Int)) from I.hok p _ hp)
 have hs : Builtin.Range.rangeSize 0 (n : Int) 1 = n := by rw [rangeSize_nat]; omega
 have fit : ∀ i : Int,0 <= i -> i <= 1000 -> Builtin.Range.rangeFitsLong i = true := by
  intro i h0 h1
  unfold Builtin.Range.rangeFitsLong
  simp
  omega
 refine call_list_range (I.ok.hd hc) e ?_ hs (by omega) fun h' tk acc c' kp e' it => ?_
 ·unfold Builtin.Range.small
  rw [hs,fit 0 (by decide) (by decide),fit n (by omega) (by omega),fit 1 (by decide) (by decide),if_pos (by decide),fit ((n : Int) + (1 - 1)) (by omega) (by omega)]
  simp
 ·exact ⟨.ref s.heap.objs.size,_,I.laid (t' := tk) kp (Nat.le_refl _) (show ObjOk X.prog X.w _ h' _ (.lst _) from ⟨by simp; have := sizeLine_eq; omega,acc.toList,c',zoa it,by simpa using e'⟩),rfl,q _ (I.hok.fresh (Nat.le_refl _))⟩
end L2
namespace PySem
open Sem (wp)
open Builtin
end PySem
namespace L2
open PySem PySem.Spec PyProof.Rows
end L2
set_option autoImplicit false
namespace MD
open PySem PySem.Spec PyProof.Rows L2
inductive D where
 | non | bl (b : Bool) | int (i : Int) | str (x : Str) | flt (b : UInt64) | byt (b : Array UInt8) | ob (k : Nat) | tup (xs : List D) | lst (xs : List D) | scr (xs : List D)
inductive MO where
 | lst (xs : List D) | dct (kvs : List (L2.Key × D)) | ins (c : Str) (fs : List (Str × D))
 | hid
abbrev Sto := List MO
abbrev En := List (Option D)
structure Exc where
 cls : Str
 args : List D
inductive Res (α : Type) where
 | ok (a : α) (m : Sto) | exc (c : Exc) (m : Sto) | bad
def Res.bind {α β : Type} (r : Res α) (k : α -> Sto -> Res β) : Res β := match r with
 | .ok a m => k a m
 | .exc c m => .exc c m
 | .bad => .bad
def Post {α : Type} (r : Res α) (Q : α -> Sto -> Prop) (E : Exc -> Sto -> Prop) : Prop := match r with
 | .ok a m => Q a m
 | .exc c m => E c m
 | .bad => False
def TupAt (K : PySem.W.Frag) (H : Hp) (a : Addr) (xs : List V) : Prop :=
 H a = some (.tup xs) ∨ ∃ (o : Obj) (its : Array Value) (n : Nat),K.lookup a = some o /\ o.cls = .type "tuple" /\ o.dict = none /\ o.data = .seq its n /\ its.size <= sizeLine /\ Vals xs its.toList
theorem TupAt.sq {K : PySem.W.Frag} {H : Hp} {a : Addr} {xs : List V} (h : TupAt K H a xs) : SqT K H a xs := by
 rcases h with h | ⟨o,its,n,h1,h2,_,h3,h4,h5⟩
 ·exact .inl (.inl h)
 ·exact .inr ⟨o,its,n,h1,h2,h3,h4,h5⟩
def KL (K : PySem.W.Frag) (a : Addr) (xs : List V) : Prop := ∃ (o : Obj) (its : Array Value) (n : Nat),K.lookup a = some o /\ o.cls = .type "list" /\ o.dict = none /\ o.data = .seq its n /\ its.size <= sizeLine /\ Vals xs its.toList
def LstAt (K : PySem.W.Frag) (α : List Addr) (H : Hp) (a : Addr) (xs : List V) : Prop := (a ∉ α /\ Rd H a (.lst xs)) ∨ KL K a xs
theorem LstAt.sq {K : PySem.W.Frag} {α : List Addr} {H : Hp} {a : Addr} {xs : List V} (h : LstAt K α H a xs) : SqL K H a xs := by
 rcases h with h | h
 ·exact .inl h.2
 ·exact .inr h
mutual
def Rep (K : PySem.W.Frag) (α : List Addr) (H : Hp) : D -> V -> Prop
 | .non,v => v = .non
 | .bl b,v => v = .bl b
 | .int i,v => v = .int i
 | .str x,v => v = .str x
 | .flt x,v => v = .flt x
 | .byt x,v => v = .byt x
 | .ob k,v => ∃ a,α[k]? = some a /\ v = .ref a
 | .tup ds,v => ∃ a xs,v = .ref a /\ TupAt K H a xs /\ RepL K α H ds xs
 | .lst ds,v => ∃ a xs,v = .ref a /\ a ∉ α /\ Rd H a (.lst xs) /\ RepL K α H ds xs
 | .scr ds,v => ∃ a xs,v = .ref a /\ LstAt K α H a xs /\ RepL K α H ds xs
def RepL (K : PySem.W.Frag) (α : List Addr) (H : Hp) : List D -> List V -> Prop
 | [],vs => vs = []
 | d :: ds,vs => ∃ v r,vs = v :: r /\ Rep K α H d v /\ RepL K α H ds r
end
def RepKV (K : PySem.W.Frag) (α : List Addr) (H : Hp) : List (L2.Key × D) -> List (L2.Key × V) -> Prop
 | [],vs => vs = []
 | d :: ds,vs => ∃ v r,vs = (d.1,v) :: r /\ Rep K α H d.2 v /\ RepKV K α H ds r
def RepF (K : PySem.W.Frag) (α : List Addr) (H : Hp) : List (Str × D) -> List (Str × V) -> Prop
 | [],vs => vs = []
 | d :: ds,vs => ∃ v r,vs = (d.1,v) :: r /\ Rep K α H d.2 v /\ RepF K α H ds r
def MoRep (K : PySem.W.Frag) (cl : Str -> Addr) (α : List Addr) (H : Hp) (a : Addr) : MO -> Prop
 | .lst ds => ∃ xs,H a = some (.lst xs) /\ RepL K α H ds xs
 | .dct ds => ∃ xs,H a = some (.dK xs) /\ RepKV K α H ds xs
 | .ins c ds => ∃ dx xs,H a = some (.ins (cl c) dx xs) /\ RepF K α H ds xs
 | .hid => ∃ o xs,H a = some (.frz o (.dK xs))
structure Wd (K : PySem.W.Frag) (cl : Str -> Addr) (α : List Addr) (m : Sto) (H : Hp) : Prop where
 len : α.length = m.length
 nd : α.Nodup
 at' : ∀ (k : Nat) (a : Addr) (o : MO),α[k]? = some a -> m[k]? = some o -> MoRep K cl α H a o
structure Ext (α : List Addr) (H : Hp) (α' : List Addr) (H' : Hp) : Prop where
 pre : ∃ β,α' = α ++ β /\ ∀ b ∈ β,H b = none
 keep : ∀ a o,H a = some o -> a ∉ α -> H' a = some o
 there : ∀ a ∈ α,H' a ≠ none
 frzs : ∀ a o u,H a = some (.frz o u) -> H' a = some (.frz o u)
section
variable {K : PySem.W.Frag} {cl : Str -> Addr} {α α' α2 : List Addr} {m m' : Sto} {H H' H2 : Hp}
theorem Wd.is (W : Wd K cl α m H) {a : Addr} (ha : a ∈ α) : (∃ xs,H a = some (.lst xs)) ∨ (∃ xs,H a = some (.dK xs)) ∨ (∃ c dx xs,H a = some (.ins c dx xs)) ∨ ∃ o xs,H a = some (.frz o (.dK xs)) := by
 obtain ⟨k,hk,rfl⟩ := List.mem_iff_getElem.mp ha
 have hm : k < m.length := by rw [<- W.len]; exact hk
 have h := W.at' k α[k] m[k] (by simp [hk]) (by simp [hm])
 cases e : m[k] with
 | lst ds => rw [e] at h; obtain ⟨xs,h,_⟩ := h; exact .inl ⟨xs,h⟩
 | dct ds => rw [e] at h; obtain ⟨xs,h,_⟩ := h; exact .inr (.inl ⟨xs,h⟩)
 | ins c ds => rw [e] at h; obtain ⟨dx,xs,h,_⟩ := h; exact .inr (.inr (.inl ⟨_,dx,xs,h⟩))
 | hid => rw [e] at h; obtain ⟨o,xs,h⟩ := h; exact .inr (.inr (.inr ⟨o,xs,h⟩))
theorem Wd.has (W : Wd K cl α m H) {a : Addr} (ha : a ∈ α) : H a ≠ none := by
 rcases W.is ha with ⟨_,h⟩ | ⟨_,h⟩ | ⟨_,_,_,h⟩ | ⟨_,_,h⟩ <;> rw [h] <;> exact fun z => nomatch z
theorem Wd.notup (W : Wd K cl α m H) {a : Addr} {xs : List V} (h : Rd H a (.tup xs)) : a ∉ α := fun ha => by
 rcases h with h | ⟨o,h⟩ <;> rcases W.is ha with ⟨_,e⟩ | ⟨_,e⟩ | ⟨_,_,_,e⟩ | ⟨_,_,e⟩ <;> rw [h] at e <;> cases e
theorem Ext.rd (E : Ext α H α' H') {a : Addr} {u : HO} (h : Rd H a u) (n : a ∉ α) : Rd H' a u := by
 rcases h with h | ⟨o,h⟩
 ·exact .inl (E.keep a _ h n)
 ·exact .inr ⟨o,E.keep a _ h n⟩
theorem Rd.ne {a : Addr} {u : HO} (h : Rd H a u) : H a ≠ none := by
 rcases h with h | ⟨o,h⟩ <;> rw [h] <;> exact fun z => nomatch z
theorem Ext.sqt (E : Ext α H α' H') (W : Wd K cl α m H) {a : Addr} {xs : List V} (h : SqT K H a xs) : SqT K H' a xs := by
 rcases h with h | h
 ·exact .inl (E.rd h (W.notup h))
 ·exact .inr h
structure Kp (α : List Addr) (H : Hp) (α' : List Addr) (H' : Hp) : Prop where
 pre : ∃ β,α' = α ++ β
 tup : ∀ a xs,H a = some (.tup xs) -> H' a = some (.tup xs)
 lst : ∀ a xs,a ∉ α -> Rd H a (.lst xs) -> a ∉ α' /\ Rd H' a (.lst xs)
theorem Ext.kp (E : Ext α H α' H') (W : Wd K cl α m H) : Kp α H α' H' := ⟨let ⟨β,e,_⟩ := E.pre; ⟨β,e⟩,fun a xs h => E.keep a _ h (W.notup (.inl h)),fun a xs n h => ⟨fun z => by
  obtain ⟨β,rfl,hb⟩ := E.pre
  rcases List.mem_append.mp z with z | z
  ·exact n z
  ·exact Rd.ne h (hb a z),E.rd h n⟩⟩
theorem Kp.lstAt (E : Kp α H α' H') {a : Addr} {xs : List V} (h : LstAt K α H a xs) : LstAt K α' H' a xs := by
 rcases h with h | h
 ·exact .inl (E.lst a xs h.1 h.2)
 ·exact .inr h
mutual
theorem Rep.kp (E : Kp α H α' H') : ∀ {d : D} {v : V},Rep K α H d v -> Rep K α' H' d v
 | .non,_,h => by simpa [Rep] using h
 | .bl _,_,h => by simpa [Rep] using h
 | .int _,_,h => by simpa [Rep] using h
 | .str _,_,h => by simpa [Rep] using h
 | .flt _,_,h => by simpa [Rep] using h
 | .byt _,_,h => by simpa [Rep] using h
 | .ob k,_,h => by
  rw [Rep] at h ⊢
  obtain ⟨a,h1,h2⟩ := h
  obtain ⟨β,rfl⟩ := E.pre
  exact ⟨a,by rw [List.getElem?_append_left (List.getElem?_eq_some_iff.mp h1).1]; exact h1,h2⟩
 | .tup ds,_,h => by
  rw [Rep] at h ⊢
  obtain ⟨a,xs,e,h1,h2⟩ := h
  refine ⟨a,xs,e,?_,RepL.kp E h2⟩
  rcases h1 with h1 | h1
  ·exact .inl (E.tup a xs h1)
  ·exact .inr h1
 | .lst ds,_,h => by
  rw [Rep] at h ⊢
  obtain ⟨a,xs,e,n,h1,h2⟩ := h
  exact ⟨a,xs,e,(E.lst a xs n h1).1,(E.lst a xs n h1).2,RepL.kp E h2⟩
 | .scr ds,_,h => by
  rw [Rep] at h ⊢
  obtain ⟨a,xs,e,h1,h2⟩ := h
  exact ⟨a,xs,e,E.lstAt h1,RepL.kp E h2⟩
theorem RepL.kp (E : Kp α H α' H') : ∀ {ds : List D} {vs : List V},RepL K α H ds vs -> RepL K α' H' ds vs
 | [],_,h => by rw [RepL] at h ⊢; exact h
 | _ :: _,_,h => by
  rw [RepL] at h ⊢
  obtain ⟨v,r,e,h1,h2⟩ := h
  exact ⟨v,r,e,Rep.kp E h1,RepL.kp E h2⟩
end
theorem Rep.mono (W : Wd K cl α m H) (E : Ext α H α' H') {d : D} {v : V} (h : Rep K α H d v) : Rep K α' H' d v := h.kp (E.kp W)
theorem RepL.mono (W : Wd K cl α m H) (E : Ext α H α' H') {ds : List D} {vs : List V} (h : RepL K α H ds vs) : RepL K α' H' ds vs := h.kp (E.kp W)
theorem Ext.refl (W : Wd K cl α m H) : Ext α H α H := ⟨⟨[],by simp,fun _ h => nomatch h⟩,fun _ _ h _ => h,fun _ h => W.has h,fun _ _ _ h => h⟩
theorem Ext.trans (a : Ext α H α' H') (b : Ext α' H' α2 H2) : Ext α H α2 H2 := by
 obtain ⟨β,rfl,hb⟩ := a.pre
 obtain ⟨γ,rfl,hc⟩ := b.pre
 refine ⟨⟨β ++ γ,by simp,fun c h => ?_⟩,fun x o h n => b.keep x o (a.keep x o h n) fun z => ?_,fun x h => b.there x (List.mem_append_left _ h),fun x o u h => b.frzs x o u (a.frzs x o u h)⟩
 ·rcases List.mem_append.mp h with h | h
  ·exact hb c h
  ·cases e : H c with
   | none => rfl
   | some o =>
    by_cases hm : c ∈ α
    ·exact absurd (hc c h) (a.there c hm)
    ·have := a.keep c o e hm
     rw [hc c h] at this
     cases this
 ·rcases List.mem_append.mp z with z | z
  ·exact n z
  ·rw [hb x z] at h
   cases h
theorem Ext.of_same (W : Wd K cl α m H) (s : Same H H') : Ext α H α H' := by
 refine ⟨⟨[],by simp,fun _ h => nomatch h⟩,fun a o h _ => s a o h,fun a ha z => ?_,fun a o u h => s a _ h⟩
 cases e : H a with
 | none => exact W.has ha e
 | some o => rw [s a o e] at z; cases z
theorem RepKV.kp (E : Kp α H α' H') : ∀ {ds : List (L2.Key × D)} {vs : List (L2.Key × V)},RepKV K α H ds vs -> RepKV K α' H' ds vs
 | [],_,h => h
 | _ :: _,_,⟨v,r,e,h1,h2⟩ => ⟨v,r,e,Rep.kp E h1,RepKV.kp E h2⟩
theorem RepF.kp (E : Kp α H α' H') : ∀ {ds : List (Str × D)} {vs : List (Str × V)},RepF K α H ds vs -> RepF K α' H' ds vs
 | [],_,h => h
 | _ :: _,_,⟨v,r,e,h1,h2⟩ => ⟨v,r,e,Rep.kp E h1,RepF.kp E h2⟩
theorem RepKV.mono (W : Wd K cl α m H) (E : Ext α H α' H') {ds : List (L2.Key × D)} {vs : List (L2.Key × V)} (h : RepKV K α H ds vs) : RepKV K α' H' ds vs := h.kp (E.kp W)
theorem RepF.mono (W : Wd K cl α m H) (E : Ext α H α' H') {ds : List (Str × D)} {vs : List (Str × V)} (h : RepF K α H ds vs) : RepF K α' H' ds vs := h.kp (E.kp W)
theorem MoRep.kp (E : Kp α H α' H') {a : Addr} (s : ∀ o,H a = some o -> H' a = some o) : ∀ {o : MO},MoRep K cl α H a o -> MoRep K cl α' H' a o
 | .lst _,⟨xs,h1,h2⟩ => ⟨xs,s _ h1,h2.kp E⟩
 | .dct _,⟨xs,h1,h2⟩ => ⟨xs,s _ h1,h2.kp E⟩
 | .ins _ _,⟨dx,xs,h1,h2⟩ => ⟨dx,xs,s _ h1,h2.kp E⟩
 | .hid,⟨o,xs,h1⟩ => ⟨o,xs,s _ h1⟩
theorem MoRep.mono (W : Wd K cl α m H) (E : Ext α H α' H') {a : Addr} (s : ∀ o,H a = some o -> H' a = some o) {o : MO} (h : MoRep K cl α H a o) : MoRep K cl α' H' a o := h.kp (E.kp W) s
theorem Wd.same (W : Wd K cl α m H) (s : Same H H') : Wd K cl α m H' := ⟨W.len,W.nd,fun k a o h1 h2 => (W.at' k a o h1 h2).mono W (Ext.of_same W s) fun o h => s a o h⟩
theorem Wd.join (W : Wd K cl α m H) {p : Addr} {u : HO} {o : MO} (hn : p ∉ α) (kp : Kp α H (α ++ [p]) (upd H p u)) (h : MoRep K cl (α ++ [p]) (upd H p u) p o) : Wd K cl (α ++ [p]) (m ++ [o]) (upd H p u) := by
 refine ⟨by rw [List.length_append,List.length_append,W.len]; rfl,?_,fun k a o' h1 h2 => ?_⟩
 ·rw [List.nodup_append]
  exact ⟨W.nd,by simp,fun a ha b hb e => hn (by rw [<- List.mem_singleton.mp hb,<- e]; exact ha)⟩
 ·by_cases hk : k < α.length
  ·rw [List.getElem?_append_left hk] at h1
   rw [List.getElem?_append_left (by rw [<- W.len]; exact hk)] at h2
   exact (W.at' k a o' h1 h2).kp kp fun o h => by rw [zao (fun z => hn (by rw [<- z]; exact List.mem_of_getElem? h1))]; exact h
  ·have hk2 : k = α.length := by
    have := (List.getElem?_eq_some_iff.mp h1).1
    rw [List.length_append] at this
    have : [p].length = 1 := rfl
    omega
   subst hk2
   rw [List.getElem?_append_right (Nat.le_refl _)] at h1
   rw [W.len,List.getElem?_append_right (Nat.le_refl _)] at h2
   simp at h1 h2
   subst h1 h2
   exact h
theorem Wd.new (W : Wd K cl α m H) {p : Addr} {u : HO} {o : MO} (hp : H p = none) (h : MoRep K cl (α ++ [p]) (upd H p u) p o) : Wd K cl (α ++ [p]) (m ++ [o]) (upd H p u) /\ Ext α H (α ++ [p]) (upd H p u) := by
 have s : Same H (upd H p u) := fun b o e => by rw [zao (zaz e hp)]; exact e
 have E : Ext α H (α ++ [p]) (upd H p u) := ⟨⟨[p],rfl,fun b hb => by rw [List.mem_singleton.mp hb]; exact hp⟩,fun a o h _ => s a o h,(Ext.of_same W s).there,fun a o u h => s a _ h⟩
 exact ⟨W.join (fun z => W.has z hp) (E.kp W) h,E⟩
end
theorem ex3 {A B C : Type} {P Q R : A -> B -> C -> Prop} {G : Prop} (h : ∃ a b c,P a b c /\ Q a b c /\ R a b c) (k : ∀ a b c,P a b c -> Q a b c -> R a b c -> G) : G := h.elim fun a h => h.elim fun b h => h.elim fun c h => k a b c h.1 h.2.1 h.2.2
abbrev XD := Exc -> List Addr -> Sto -> Hp -> Prop
abbrev RD (τ : Type) := τ -> List Addr -> Sto -> Hp -> Prop
def PQ (K : PySem.W.Frag) (cl : Str -> Addr) (ex : XD) {τ : Type} (r : Res τ) (α : List Addr) (H : Hp) (R : RD τ) : Prop :=
 Post r (fun d m' => ∀ α' H',Ext α H α' H' -> Wd K cl α' m' H' -> R d α' m' H') fun c m' => ∀ α' H',Ext α H α' H' -> Wd K cl α' m' H' -> ex c α' m' H'
structure RepE (K : PySem.W.Frag) (α : List Addr) (H : Hp) (ρ : En) (σ : L2.St) : Prop where
 len : ρ.length = σ.length
 at' : ∀ (i : Nat) (d : D),ρ[i]? = some (some d) -> ∃ v,σ[i]? = some (some v) /\ Rep K α H d v
section
variable {K : PySem.W.Frag} {cl : Str -> Addr} {ex : XD} {α α' α2 : List Addr} {m m' : Sto} {H H' H2 : Hp} {ρ ρ' : En} {σ σ' : L2.St} {τ υ : Type}
theorem RepE.mono (W : Wd K cl α m H) (E : Ext α H α' H') (h : RepE K α H ρ σ) : RepE K α' H' ρ σ := ⟨h.len,fun i d e => let ⟨v,a,b⟩ := h.at' i d e; ⟨v,a,b.mono W E⟩⟩
theorem RepE.set {i : Nat} {d : D} {v : V} (h : RepE K α H ρ σ) (r : Rep K α H d v) : RepE K α H (ρ.set i (some d)) (σ.set i (some v)) := by
 refine ⟨by rw [List.length_set,List.length_set,h.len],fun j e hj => ?_⟩
 by_cases hij : i = j
 ·subst hij
  have hl : i < ρ.length := by
   have := (List.getElem?_eq_some_iff.mp hj).1
   rwa [List.length_set] at this
  rw [List.getElem?_set_self hl] at hj
  cases hj
  exact ⟨v,List.getElem?_set_self (by rw [<- h.len]; exact hl),r⟩
 ·rw [List.getElem?_set_ne hij] at hj ⊢
  exact h.at' j e hj
theorem RepE.more (h : RepE K α H ρ σ) (n : Nat) : RepE K α H (ρ ++ List.replicate n none) (σ ++ List.replicate n none) := by
 refine ⟨by simp [h.len],fun j e hj => ?_⟩
 by_cases hl : j < ρ.length
 ·rw [List.getElem?_append_left hl] at hj
  rw [List.getElem?_append_left (by rw [<- h.len]; exact hl)]
  exact h.at' j e hj
 ·rw [List.getElem?_append_right (by omega),List.getElem?_replicate] at hj
  split at hj <;> cases hj
theorem PQ.mono {r : Res τ} {R R' : RD τ} (E : Ext α H α' H') (h : PQ K cl ex r α H R) (hR : ∀ d α2 m2 H2,Ext α' H' α2 H2 -> Wd K cl α2 m2 H2 -> R d α2 m2 H2 -> R' d α2 m2 H2) : PQ K cl ex r α' H' R' := by
 cases r with
 | ok d m2 => exact fun α2 H2 E2 W2 => hR d α2 m2 H2 E2 W2 (h α2 H2 (E.trans E2) W2)
 | exc c m2 => exact fun α2 H2 E2 W2 => h α2 H2 (E.trans E2) W2
 | bad => exact h
theorem PQ.bind {r : Res τ} {k : τ -> Sto -> Res υ} {R : RD υ} (h : PQ K cl ex (r.bind k) α H R) : PQ K cl ex r α H fun d α1 m1 H1 => PQ K cl ex (k d m1) α1 H1 R := by
 cases r with
 | ok d m1 => exact fun α1 H1 E1 _ => PQ.mono E1 h fun _ _ _ _ _ _ q => q
 | exc c m1 => exact h
 | bad => exact h
theorem PQ.ok {d : τ} {R : RD τ} (W : Wd K cl α m H) (h : PQ K cl ex (.ok d m) α H R) : R d α m H := h α H (Ext.refl W) W
theorem PQ.okS {d : τ} {R : RD τ} (W : Wd K cl α m H) (s : Same H H') (h : PQ K cl ex (.ok d m) α H R) : R d α m H' := h α H' (Ext.of_same W s) (W.same s)
def tD (K : PySem.W.Frag) (cl : Str -> Addr) (ex : XD) (f : En -> Sto -> Res D) : TE := fun σ H Q => ∃ α ρ m,Wd K cl α m H /\ RepE K α H ρ σ /\ PQ K cl ex (f ρ m) α H fun d α' _ H' => ∀ v,Rep K α' H' d v -> Q v H'
def tDT (K : PySem.W.Frag) (cl : Str -> Addr) (ex : XD) (f : En -> Sto -> Res Bool) : TT := fun σ H Q => ∃ α ρ m,Wd K cl α m H /\ RepE K α H ρ σ /\ PQ K cl ex (f ρ m) α H fun d _ _ H' => Q d H'
def tDA (K : PySem.W.Frag) (cl : Str -> Addr) (ex : XD) (f : En -> Sto -> Res (List D)) : TA := fun σ H Q => ∃ α ρ m,Wd K cl α m H /\ RepE K α H ρ σ /\ PQ K cl ex (f ρ m) α H fun d α' _ H' => ∀ v,RepL K α' H' d v -> Q v H'
theorem tD.use {f : En -> Sto -> Res D} {k : D -> Sto -> Res τ} {R : RD τ} {Q : VK} (W : Wd K cl α m H) (hr : RepE K α H ρ σ) (h : PQ K cl ex ((f ρ m).bind k) α H R)
  (hQ : ∀ α1 m1 H1 d v,Ext α H α1 H1 -> Wd K cl α1 m1 H1 -> RepE K α1 H1 ρ σ -> Rep K α1 H1 d v -> PQ K cl ex (k d m1) α1 H1 R -> Q v H1) : tD K cl ex f σ H Q :=
 ⟨α,ρ,m,W,hr,PQ.mono (Ext.refl W) h.bind fun d α1 m1 H1 E1 W1 q v rv => hQ α1 m1 H1 d v E1 W1 (hr.mono W E1) rv q⟩
theorem tDT.use {f : En -> Sto -> Res Bool} {k : Bool -> Sto -> Res τ} {R : RD τ} {Q : Bool -> Hp -> Prop} (W : Wd K cl α m H) (hr : RepE K α H ρ σ) (h : PQ K cl ex ((f ρ m).bind k) α H R)
  (hQ : ∀ α1 m1 H1 d,Ext α H α1 H1 -> Wd K cl α1 m1 H1 -> RepE K α1 H1 ρ σ -> PQ K cl ex (k d m1) α1 H1 R -> Q d H1) : tDT K cl ex f σ H Q :=
 ⟨α,ρ,m,W,hr,PQ.mono (Ext.refl W) h.bind fun d α1 m1 H1 E1 W1 q => hQ α1 m1 H1 d E1 W1 (hr.mono W E1) q⟩
theorem tDA.use {f : En -> Sto -> Res (List D)} {k : List D -> Sto -> Res τ} {R : RD τ} {Q : List V -> Hp -> Prop} (W : Wd K cl α m H) (hr : RepE K α H ρ σ) (h : PQ K cl ex ((f ρ m).bind k) α H R)
  (hQ : ∀ α1 m1 H1 d v,Ext α H α1 H1 -> Wd K cl α1 m1 H1 -> RepE K α1 H1 ρ σ -> RepL K α1 H1 d v -> PQ K cl ex (k d m1) α1 H1 R -> Q v H1) : tDA K cl ex f σ H Q :=
 ⟨α,ρ,m,W,hr,PQ.mono (Ext.refl W) h.bind fun d α1 m1 H1 E1 W1 q v rv => hQ α1 m1 H1 d v E1 W1 (hr.mono W E1) rv q⟩
end
section
variable (X : Cx) (cl : Str -> Addr) (ex : XD)
abbrev EV := En -> Sto -> Res D
abbrev TV := En -> Sto -> Res Bool
abbrev AV := En -> Sto -> Res (List D)
structure QE (e : Expr) (f : EV) : Prop where
 out : PE X e (tD X.K cl ex f)
structure QT (e : Expr) (f : TV) : Prop where
 out : PT X e (tDT X.K cl ex f)
structure QW (e : Expr) (f : TV) : Prop where
 out : PW X e (tDT X.K cl ex f)
structure QA (es : List Expr) (f : AV) : Prop where
 out : PA X es (tDA X.K cl ex f)
end
theorem PE.weak {X : Cx} {e : Expr} {t t' : TE} (h : PE X e t) (w : ∀ σ H Q,t' σ H Q -> t σ H Q) : PE X e t' := fun pins s σ H Q I q => h pins s σ H Q I (w σ H Q q)
theorem PT.weak {X : Cx} {e : Expr} {t t' : TT} (h : PT X e t) (w : ∀ σ H Q,t' σ H Q -> t σ H Q) : PT X e t' := fun pins s σ H Q I q => h pins s σ H Q I (w σ H Q q)
theorem PW.weak {X : Cx} {e : Expr} {t t' : TT} (h : PW X e t) (w : ∀ σ H Q,t' σ H Q -> t σ H Q) : PW X e t' := fun wh pins s σ H Q I q => h wh pins s σ H Q I (w σ H Q q)
theorem PA.weak {X : Cx} {e : List Expr} {t t' : TA} (h : PA X e t) (w : ∀ σ H Q,t' σ H Q -> t σ H Q) : PA X e t' := fun p pins s σ H Q I q => h p pins s σ H Q I (w σ H Q q)
theorem PS.weak {X : Cx} {e : Stmt} {t t' : TS} (h : PS X e t) (w : ∀ D σ H,t' D σ H -> t D σ H) : PS X e t' := fun pins s σ H D I q => h pins s σ H D I (w D σ H q)
theorem PSs.weak {X : Cx} {e : List Stmt} {t t' : TS} (h : PSs X e t) (w : ∀ D σ H,t' D σ H -> t D σ H) : PSs X e t' := fun pins s σ H D I q => h pins s σ H D I (w D σ H q)
def zae (i : Nat) : EV := fun ρ m => match ρ[i]? with
 | some (some d) => .ok d m
 | _ => .bad
def eC (d : D) : EV := fun _ m => .ok d m
def eOp (g : D -> D -> Sto -> Res D) (fa fb : EV) : EV := fun ρ m => (fa ρ m).bind fun x m1 => (fb ρ m1).bind fun y m2 => g x y m2
def eUn (g : D -> Sto -> Res D) (fa : EV) : EV := fun ρ m => (fa ρ m).bind g
def eIf (c : TV) (fa fb : EV) : EV := fun ρ m => (c ρ m).bind fun b m1 => if b = true then fa ρ m1 else fb ρ m1
def zaj : AV := fun _ m => .ok [] m
def zac (fa : EV) (fr : AV) : AV := fun ρ m => (fa ρ m).bind fun x m1 => (fr ρ m1).bind fun xs m2 => .ok (x :: xs) m2
def eFn (g : List D -> Sto -> Res D) (fa : AV) : EV := fun ρ m => (fa ρ m).bind g
def asB (d : D) (m : Sto) : Res Bool := match d with
 | .bl b => .ok b m
 | _ => .bad
def tV (fa : EV) : TV := fun ρ m => (fa ρ m).bind asB
def zgM (a b : TV) : TV := fun ρ m => (a ρ m).bind fun c m1 => if c = true then b ρ m1 else .ok false m1
def tOrM (a b : TV) : TV := fun ρ m => (a ρ m).bind fun c m1 => if c = true then .ok true m1 else b ρ m1
def zhA (a : TV) : TV := fun ρ m => (a ρ m).bind fun c m1 => .ok (!c) m1
def eAnd (a b : EV) : EV := fun ρ m => (a ρ m).bind fun c m1 => (asB c m1).bind fun c m1 => if c = true then b ρ m1 else .ok (.bl false) m1
def eOr (a b : EV) : EV := fun ρ m => (a ρ m).bind fun c m1 => (asB c m1).bind fun c m1 => if c = true then .ok (.bl true) m1 else b ρ m1
def eNot (a : EV) : EV := fun ρ m => (a ρ m).bind fun c m1 => (asB c m1).bind fun c m1 => .ok (.bl (!c)) m1
def OpD (K : PySem.W.Frag) (cl : Str -> Addr) (ex : XD) (r : R2) (g : D -> D -> Sto -> Res D) : Prop :=
 ∀ (α : List Addr) (m : Sto) (H : Hp) (x y : D) (vx vy : V) (Q : VK),Wd K cl α m H -> Rep K α H x vx -> Rep K α H y vy -> PQ K cl ex (g x y m) α H (fun d α' _ H' => ∀ v,Rep K α' H' d v -> Q v H') -> r vx vy H Q
def UnD (K : PySem.W.Frag) (cl : Str -> Addr) (ex : XD) (r : V -> Hp -> VK -> Prop) (g : D -> Sto -> Res D) : Prop :=
 ∀ (α : List Addr) (m : Sto) (H : Hp) (x : D) (vx : V) (Q : VK),Wd K cl α m H -> Rep K α H x vx -> PQ K cl ex (g x m) α H (fun d α' _ H' => ∀ v,Rep K α' H' d v -> Q v H') -> r vx H Q
def FnD (K : PySem.W.Frag) (cl : Str -> Addr) (ex : XD) (r : List V -> Hp -> VK -> Prop) (g : List D -> Sto -> Res D) : Prop :=
 ∀ (α : List Addr) (m : Sto) (H : Hp) (x : List D) (vx : List V) (Q : VK),Wd K cl α m H -> RepL K α H x vx -> PQ K cl ex (g x m) α H (fun d α' _ H' => ∀ v,Rep K α' H' d v -> Q v H') -> r vx H Q
section
variable {X : Cx} {cl : Str -> Addr} {ex : XD} {a b c e : Expr} {es rest : List Expr} {fa fb : EV} {ta tb : TV} {fr : AV} {pos : Pos}
theorem zab (i : Nat) {x : Str} (hN : autoParam (X.N[i]? = some x) AutoP.a3._auto_1) (hv : Vis X.env.scope x := by first | exact Or.inl rfl | exact Or.inr (Or.inl rfl) | exact Or.inr (Or.inr rfl)) (hd : autoParam ((x == ("__debug__" : Str)) = false) AutoP.a1._auto_1) (hcd : autoParam ((x == ("__classdict__" : Str)) = false) AutoP.a1._auto_1) : QE X cl ex (.Name x pos) (zae i) :=
 ⟨PE.weak (pe_var hN hv hd hcd) fun σ H Q hh => ex3 hh fun α ρ m W hr h => by
  unfold zae at h
  split at h
  ·rename_i d e
   obtain ⟨v,e1,r⟩ := hr.at' i d e
   exact ⟨v,e1,PQ.ok W h v r⟩
  ·exact h.elim⟩
theorem qe_c {d : D} {v : V} (h : PE X e (tC v)) (r : ∀ α H,Rep X.K α H d v) : QE X cl ex e (eC d) :=
 ⟨PE.weak h fun σ H Q hh => ex3 hh fun α ρ m W hr h => PQ.ok W h v (r α H)⟩
theorem zad {i : Int} {j} : QE X cl ex (.Constant (.int i) j pos) (eC (.int i)) := qe_c pe_int fun α H => by rw [Rep]
theorem ziY {i : Bool} {j} : QE X cl ex (.Constant (.bool i) j pos) (eC (.bl i)) := qe_c pe_bl fun α H => by rw [Rep]
theorem zbC {j} : QE X cl ex (.Constant .none j pos) (eC .non) := qe_c pe_non fun α H => by rw [Rep]
theorem zas {i : Str} {j} : QE X cl ex (.Constant (.str i) j pos) (eC (.str i)) := qe_c zpd fun α H => by rw [Rep]
theorem zjO {r : R2} {g : D -> D -> Sto -> Res D} (hd : OpD X.K cl ex r g) : ∀ σ H Q,tD X.K cl ex (eOp g fa fb) σ H Q -> tOp r (tD X.K cl ex fa) (tD X.K cl ex fb) σ H Q := fun σ H Q hh => ex3 hh fun α ρ m W hr h =>
 tD.use W hr h fun α1 m1 H1 d v E1 W1 hr1 rv h1 => tD.use W1 hr1 h1 fun α2 m2 H2 d2 v2 E2 W2 hr2 rv2 h2 => hd α2 m2 H2 d d2 v v2 Q W2 (rv.mono W1 E2) rv2 h2
theorem zak {op : Operator} {r : R2} {g : D -> D -> Sto -> Res D} (ho : OpR X (binaryOp op) r) (hd : OpD X.K cl ex r g) (ha : QE X cl ex a fa) (hb : QE X cl ex b fb) : QE X cl ex (.BinOp a op b pos) (eOp g fa fb) :=
 ⟨PE.weak (pe_op ho ha.out hb.out) (zjO hd)⟩
theorem qe_un {op : UnaryOp} {r : V -> Hp -> VK -> Prop} {g : D -> Sto -> Res D} (ho : UnR X (unaryOp op) r) (hd : UnD X.K cl ex r g) (ha : QE X cl ex a fa) : QE X cl ex (.UnaryOp op a pos) (eUn g fa) :=
 ⟨PE.weak (pe_un ho ha.out) fun σ H Q hh => ex3 hh fun α ρ m W hr h => tD.use W hr h fun α1 m1 H1 d v E1 W1 hr1 rv h1 => hd α1 m1 H1 d v Q W1 rv h1⟩
theorem qe_ix {r : R2} {g : D -> D -> Sto -> Res D} (ho : IxR X r) (hd : OpD X.K cl ex r g) (ha : QE X cl ex a fa) (hb : QE X cl ex b fb) (hs : zjB b) : QE X cl ex (.Subscript a b pos) (eOp g fa fb) :=
 ⟨PE.weak (pe_ix ho ha.out hb.out hs) (zjO hd)⟩
theorem zes {op : CmpOp} {r : R2} {g : D -> D -> Sto -> Res D} (ho : OpR X (compareOp op) r) (hd : OpD X.K cl ex r g) (ha : QE X cl ex a fa) (hb : QE X cl ex b fb) (hm : behindInMarks op b = false) : QE X cl ex (.Compare a [op] [b] pos) (eOp g fa fb) :=
 ⟨PE.weak (zqy ho ha.out hb.out hm) (zjO hd)⟩
theorem zjM {t : TE} (h : ∀ σ H Q,tD X.K cl ex fa σ H Q -> t σ H Q) : ∀ σ H Q,tDT X.K cl ex (tV fa) σ H Q -> tTest t σ H Q := fun σ H Q hh => ex3 hh fun α ρ m W hr q =>
 h σ H _ (tD.use W hr q fun α1 m1 H1 d v E1 W1 hr1 rv h1 => by
  cases d with
  | bl b => rw [Rep] at rv; exact ⟨b,rv,PQ.ok W1 h1⟩
  | _ => exact h1.elim)
theorem zay {op : CmpOp} {r : R2} {g : D -> D -> Sto -> Res D} (ho : OpR X (compareOp op) r) (hd : OpD X.K cl ex r g) (ha : QE X cl ex a fa) (hb : QE X cl ex b fb) (hm : behindInMarks op b = false) : QT X cl ex (.Compare a [op] [b] pos) (tV (eOp g fa fb)) :=
 ⟨PT.weak (zp7 ho ha.out hb.out hm) (zjM (zjO hd))⟩
theorem zgm (hq : QE X cl ex e fa) (he : autoParam (∀ whole,isTrue e X.env whole = (do let v <- whole; standAt e.pos; holding [v] (truthy v))) AutoP.a2._auto_1) : QT X cl ex e (tV fa) :=
 ⟨PT.weak (pt_val hq.out he) (zjM fun _ _ _ h => h)⟩
def eChain (g g' : D -> D -> Sto -> Res D) (fa fb fc : EV) : EV := fun ρ m => (fa ρ m).bind fun x m1 => (fb ρ m1).bind fun y m2 => (g x y m2).bind fun z m3 => (asB z m3).bind fun k m3 => if k = true then (fc ρ m3).bind fun w m4 => g' y w m4 else .ok (.bl false) m3
theorem zfm (ha : QT X cl ex a ta) : QW X cl ex (.BoolOp .And [a] pos) ta := ⟨zp4 ha.out⟩
theorem zhQ (ha : QT X cl ex a ta) (hb : QW X cl ex (.BoolOp .And (b :: rest) pos) tb) : QW X cl ex (.BoolOp .And (a :: b :: rest) pos) (zgM ta tb) :=
 ⟨PW.weak (pw_and ha.out hb.out) fun σ H Q hh => ex3 hh fun α ρ m W hr h => tDT.use W hr h fun α1 m1 H1 d E1 W1 hr1 h1 => by
  cases d with
  | true => exact ⟨α1,ρ,m1,W1,hr1,h1⟩
  | false => exact PQ.ok W1 h1⟩
theorem zfn (hq : QW X cl ex a ta) : QT X cl ex a ta := ⟨PW.pt hq.out⟩
theorem zj0 (ha : QT X cl ex a ta) : QT X cl ex (.UnaryOp .Not a pos) (zhA ta) :=
 ⟨PT.weak (pt_not ha.out) fun σ H Q hh => ex3 hh fun α ρ m W hr h => tDT.use W hr h fun α1 m1 H1 d E1 W1 hr1 h1 => PQ.ok W1 h1⟩
theorem zj1 {op} (ha : QE X cl ex a fa) : QE X cl ex (.BoolOp op [a] pos) fa := ⟨pe_one ha.out⟩
theorem asB.use {d : D} {v : V} {τ : Type} {k : Bool -> Sto -> Res τ} {R : RD τ} {α : List Addr} {m : Sto} {H : Hp} (W : Wd X.K cl α m H) (rv : Rep X.K α H d v) (h : PQ X.K cl ex ((asB d m).bind k) α H R) : ∃ b,v = .bl b /\ PQ X.K cl ex (k b m) α H R := by
 cases d with
 | bl b => rw [Rep] at rv; exact ⟨b,rv,h⟩
 | _ => exact h.elim
theorem zpc (ha : QE X cl ex a fa) (hb : QE X cl ex (.BoolOp .And (b :: rest) pos) fb) : QE X cl ex (.BoolOp .And (a :: b :: rest) pos) (eAnd fa fb) :=
 ⟨PE.weak (pe_and ha.out hb.out) fun σ H Q hh => ex3 hh fun α ρ m W hr h => tD.use W hr h fun α1 m1 H1 d v E1 W1 hr1 rv h1 => by
  obtain ⟨c,e,h2⟩ := asB.use W1 rv h1
  refine ⟨c,e,?_⟩
  cases c with
  | true => exact ⟨α1,ρ,m1,W1,hr1,h2⟩
  | false => exact PQ.ok W1 h2 _ (by rw [Rep])⟩
theorem qe_or (ha : QE X cl ex a fa) (hb : QE X cl ex (.BoolOp .Or (b :: rest) pos) fb) : QE X cl ex (.BoolOp .Or (a :: b :: rest) pos) (eOr fa fb) :=
 ⟨PE.weak (pe_or ha.out hb.out) fun σ H Q hh => ex3 hh fun α ρ m W hr h => tD.use W hr h fun α1 m1 H1 d v E1 W1 hr1 rv h1 => by
  obtain ⟨c,e,h2⟩ := asB.use W1 rv h1
  refine ⟨c,e,?_⟩
  cases c with
  | false => exact ⟨α1,ρ,m1,W1,hr1,h2⟩
  | true => exact PQ.ok W1 h2 _ (by rw [Rep])⟩
theorem zoe (hc : QT X cl ex c ta) (ha : QE X cl ex a fa) (hb : QE X cl ex b fb) : QE X cl ex (.IfExp c a b pos) (eIf ta fa fb) :=
 ⟨PE.weak (zop hc.out ha.out hb.out) fun σ H Q hh => ex3 hh fun α ρ m W hr h => tDT.use W hr h fun α1 m1 H1 d E1 W1 hr1 h1 => by
  cases d with
  | true => exact ⟨α1,ρ,m1,W1,hr1,h1⟩
  | false => exact ⟨α1,ρ,m1,W1,hr1,h1⟩⟩
theorem zaf : QA X cl ex [] zaj := ⟨PA.weak zet fun σ H Q hh => ex3 hh fun α ρ m W hr h => PQ.ok W h _ (by rw [RepL])⟩
theorem zaa (ha : QE X cl ex e fa) (hrq : QA X cl ex es fr) (hs : autoParam (starEach (e :: es) X.env = (false,eval e X.env) :: starEach es X.env) AutoP.a3._auto_1) : QA X cl ex (e :: es) (zac fa fr) :=
 ⟨PA.weak (zbP ha.out hrq.out hs) fun σ H Q hh => ex3 hh fun α ρ m W hr h => tD.use W hr h fun α1 m1 H1 d v E1 W1 hr1 rv h1 => tDA.use W1 hr1 h1 fun α2 m2 H2 d2 v2 E2 W2 hr2 rv2 h2 => PQ.ok W2 h2 _ (by rw [RepL]; exact ⟨v,v2,rfl,rv.mono W1 E2,rv2⟩)⟩
theorem RepL.length {K : PySem.W.Frag} {α : List Addr} {H : Hp} : ∀ {ds : List D} {vs : List V},RepL K α H ds vs -> ds.length = vs.length
 | [],_,h => by rw [RepL] at h; rw [h]; rfl
 | _ :: _,_,h => by
  rw [RepL] at h
  obtain ⟨v,r,rfl,_,h2⟩ := h
  rw [List.length_cons,List.length_cons,RepL.length h2]
def zbi : List D -> Sto -> Res D := fun ds m => if ds.length <= sizeLine then .ok (.tup ds) m else .bad
def zc9 : List D -> Sto -> Res D := fun ds m => if ds.length <= sizeLine then .ok (.lst ds) m else .bad
def zjo : List D -> Sto -> Res D := fun ds m => if ds.length <= sizeLine then .ok (.ob m.length) (m ++ [.lst ds]) else .bad
theorem PQ.if {K : PySem.W.Frag} {τ : Type} {c : Prop} [Decidable c] {r : Res τ} {α : List Addr} {H : Hp} {R : RD τ} (h : PQ K cl ex (if c then r else .bad) α H R) : c /\ PQ K cl ex r α H R := by
 by_cases hc : c
 ·rw [if_pos hc] at h; exact ⟨hc,h⟩
 ·rw [if_neg hc] at h; exact h.elim
theorem Same.new {H : Hp} {p : Addr} {o : HO} (hp : H p = none) : Same H (upd H p o) := fun b u e => by rw [zao (zaz e hp)]; exact e
theorem zaD {x1} (hq : QA X cl ex es fr) : QE X cl ex (.Tuple es x1 pos) (eFn zbi fr) :=
 ⟨PE.weak (pe_tup hq.out) fun σ H Q hh => ex3 hh fun α ρ m W hr h => tDA.use W hr h fun α1 m1 H1 d v E1 W1 hr1 rv h1 => by
  obtain ⟨hl,h2⟩ := h1.if
  refine ⟨by rw [<- rv.length]; exact hl,fun p hp => ?_⟩
  have s := Same.new (o := .tup v) hp
  exact PQ.okS W1 s h2 _ (by rw [Rep]; exact ⟨p,v,rfl,.inl zax,rv.mono W1 (Ext.of_same W1 s)⟩)⟩
theorem Wd.nin {K : PySem.W.Frag} {α : List Addr} {m : Sto} {H : Hp} (W : Wd K cl α m H) {p : Addr} (hp : H p = none) : p ∉ α := fun z => W.has z hp
theorem zb4 {K : PySem.W.Frag} {α : List Addr} {m : Sto} {H : Hp} {p : Addr} {ds : List D} {vs : List V} (W : Wd K cl α m H) (hp : H p = none) (r : RepL K α H ds vs) : Rep K α (upd H p (.lst vs)) (.lst ds) (.ref p) := by
 rw [Rep]
 exact ⟨p,vs,rfl,W.nin hp,.inl zax,r.mono W (Ext.of_same W (Same.new hp))⟩
theorem zbD (hq : QA X cl ex es fr) : QE X cl ex (.List es pos) (eFn zc9 fr) :=
 ⟨PE.weak (zpe hq.out) fun σ H Q hh => ex3 hh fun α ρ m W hr h => tDA.use W hr h fun α1 m1 H1 d v E1 W1 hr1 rv h1 => by
  obtain ⟨hl,h2⟩ := h1.if
  exact ⟨by rw [<- rv.length]; exact hl,fun p hp => PQ.okS W1 (Same.new hp) h2 _ (zb4 W1 hp rv)⟩⟩
theorem zqP {K : PySem.W.Frag} {α : List Addr} {m : Sto} {H : Hp} {p : Addr} {ds : List D} {vs : List V} {R : RD D} (W : Wd K cl α m H) (hp : H p = none) (r : RepL K α H ds vs) (h : PQ K cl ex (.ok (.ob m.length) (m ++ [.lst ds])) α H R) : ∃ α' m',R (.ob m.length) α' m' (upd H p (.lst vs)) /\ Rep K α' (upd H p (.lst vs)) (.ob m.length) (.ref p) := by
 have E0 : Ext α H (α ++ [p]) (upd H p (.lst vs)) := ⟨⟨[p],rfl,fun b hb => by rw [List.mem_singleton.mp hb]; exact hp⟩,fun a o h _ => Same.new hp a o h,(Ext.of_same W (Same.new hp)).there,fun a o u h => Same.new hp a _ h⟩
 obtain ⟨W2,E2⟩ := W.new (u := .lst vs) (o := .lst ds) hp ⟨vs,zax,r.mono W E0⟩
 refine ⟨_,_,h _ _ E2 W2,?_⟩
 rw [Rep]
 refine ⟨p,?_,rfl⟩
 rw [<- W.len,List.getElem?_append_right (Nat.le_refl _)]
 simp
theorem zg3 (hq : QA X cl ex es fr) : QE X cl ex (.List es pos) (eFn zjo fr) :=
 ⟨PE.weak (zpe hq.out) fun σ H Q hh => ex3 hh fun α ρ m W hr h => tDA.use W hr h fun α1 m1 H1 d v E1 W1 hr1 rv h1 => by
  obtain ⟨hl,h2⟩ := h1.if
  refine ⟨by rw [<- rv.length]; exact hl,fun p hp => ?_⟩
  obtain ⟨_,_,q,r⟩ := zqP W1 hp rv h2
  exact q _ r⟩
theorem zo4 {r : List V -> Hp -> VK -> Prop} {g : List D -> Sto -> Res D} (hd : FnD X.K cl ex r g) : ∀ σ H Q,tD X.K cl ex (eFn g fr) σ H Q -> tCB r (tDA X.K cl ex fr) σ H Q := fun σ H Q hh => ex3 hh fun α ρ m W hr h =>
 tDA.use W hr h fun α1 m1 H1 d v E1 W1 hr1 rv h1 => hd α1 m1 H1 d v Q W1 rv h1
theorem zaE {x : Str} {id : String} {p : Pos} {r : List V -> Hp -> VK -> Prop} {g : List D -> Sto -> Res D} (hc : CallR X (.builtin id) r) (hd : FnD X.K cl ex r g) (hg : Gl X x) (hm : X.mg x = none) (hv : bootBuiltins x = some (.builtin id)) (ha : QA X cl ex (e :: es) fr) (hn : autoParam (x ≠ "__name__") AutoP.a1._auto_1) (hdb : autoParam ((x == ("__debug__" : Str)) = false) AutoP.a1._auto_1)
  (he : autoParam (starEach (e :: es) X.env = (false,eval e X.env) :: starEach es X.env) AutoP.a3._auto_1) (hpl : autoParam ((backTo pos (starEach es X.env)).any (·.1) = false) AutoP.a3._auto_1) : QE X cl ex (.Call (.Name x p) (e :: es) [] pos) (eFn g fr) :=
 ⟨PE.weak (zj5 hc hg hm hv ha.out hn hdb he hpl) (zo4 hd)⟩
theorem zaZ {x : Str} {T : String} {p : Pos} {r : List V -> Hp -> VK -> Prop} {g : List D -> Sto -> Res D} (hc : CallR X (.type T) r) (hd : FnD X.K cl ex r g) (hg : Gl X x) (hm : X.mg x = none) (hv : bootBuiltins x = some (.type T)) (ha : QA X cl ex (e :: es) fr) (hn : autoParam (x ≠ "__name__") AutoP.a1._auto_1) (hdb : autoParam ((x == ("__debug__" : Str)) = false) AutoP.a1._auto_1)
  (he : autoParam (starEach (e :: es) X.env = (false,eval e X.env) :: starEach es X.env) AutoP.a3._auto_1) (hpl : autoParam ((backTo pos (starEach es X.env)).any (·.1) = false) AutoP.a3._auto_1) : QE X cl ex (.Call (.Name x p) (e :: es) [] pos) (eFn g fr) :=
 ⟨PE.weak (zfq hc hg hm hv ha.out hn hdb he hpl) (zo4 hd)⟩
end
inductive Fl where
 | nx (ρ : En) | rt (d : D) | bk (ρ : En) | ct (ρ : En)
abbrev SV := En -> Sto -> Res Fl
def zeL (K : PySem.W.Frag) (D : Ends) (fl : Fl) (α : List Addr) (H : Hp) : Prop := match fl with
 | .nx ρ => ∀ σ,RepE K α H ρ σ -> D.nx σ H
 | .rt d => ∀ v,Rep K α H d v -> D.rt v H
 | .bk ρ => ∀ σ,RepE K α H ρ σ -> D.bk σ H
 | .ct ρ => ∀ σ,RepE K α H ρ σ -> D.ct σ H
def tDS (K : PySem.W.Frag) (cl : Str -> Addr) (ex : XD) (f : SV) : TS := fun D σ H => ∃ α ρ m,Wd K cl α m H /\ RepE K α H ρ σ /\ PQ K cl ex (f ρ m) α H fun fl α' _ H' => zeL K D fl α' H'
abbrev GV := D -> En -> Sto -> Res En
def tDG (K : PySem.W.Frag) (cl : Str -> Addr) (ex : XD) (f : GV) : TG := fun v σ H Q => ∃ α ρ m d,Wd K cl α m H /\ RepE K α H ρ σ /\ Rep K α H d v /\ PQ K cl ex (f d ρ m) α H fun ρ' α' _ H' => ∀ σ',RepE K α' H' ρ' σ' -> Q σ' H'
def tDGs (K : PySem.W.Frag) (cl : Str -> Addr) (ex : XD) (f : List D -> En -> Sto -> Res En) : TGs := fun v σ H Q => ∃ α ρ m d,Wd K cl α m H /\ RepE K α H ρ σ /\ RepL K α H d v /\ PQ K cl ex (f d ρ m) α H fun ρ' α' _ H' => ∀ σ',RepE K α' H' ρ' σ' -> Q σ' H'
def ItD (K : PySem.W.Frag) (cl : Str -> Addr) (α : List Addr) (H : Hp) (J : It) (ds : List D) : Prop :=
 ∀ (i : Nat) (α1 : List Addr) (m1 : Sto) (H1 : Hp),Ext α H α1 H1 -> Wd K cl α1 m1 H1 -> (∀ d,ds[i]? = some d -> J.go i H1 /\ ∀ x H2,J.yld i H1 x H2 -> Same H1 H2 /\ Rep K α1 H2 d x) /\ (i = ds.length -> J.stop i H1)
def tDI (K : PySem.W.Frag) (cl : Str -> Addr) (ex : XD) (f : AV) : TI := fun σ H R => ∃ α ρ m,Wd K cl α m H /\ RepE K α H ρ σ /\ PQ K cl ex (f ρ m) α H fun ds α' _ H' => ∀ J,ItD K cl α' H' J ds -> R J H'
section
variable (X : Cx) (cl : Str -> Addr) (ex : XD)
structure QS (st : Stmt) (f : SV) : Prop where
 out : PS X st (tDS X.K cl ex f)
structure QSs (st : List Stmt) (f : SV) : Prop where
 out : PSs X st (tDS X.K cl ex f)
structure QG (tg : Expr) (f : GV) : Prop where
 out : PG X tg (tDG X.K cl ex f)
structure QGs (tg : List Expr) (f : List D -> En -> Sto -> Res En) : Prop where
 out : PGs X tg (tDGs X.K cl ex f)
structure QI (tg it : Expr) (f : AV) : Prop where
 out : PI X tg it (tDI X.K cl ex f)
end
theorem PG.weak {X : Cx} {e : Expr} {t t' : TG} (h : PG X e t) (w : ∀ v σ H Q,t' v σ H Q -> t v σ H Q) : PG X e t' := fun pins s σ H v u Q I r q => h pins s σ H v u Q I r (w v σ H Q q)
theorem PGs.weak {X : Cx} {e : List Expr} {t t' : TGs} (h : PGs X e t) (w : ∀ v σ H Q,t' v σ H Q -> t v σ H Q) : PGs X e t' := fun pins s σ H v u Q I r q => h pins s σ H v u Q I r (w v σ H Q q)
theorem PI.weak {X : Cx} {tg e : Expr} {t t' : TI} (h : PI X tg e t) (w : ∀ σ H Q,t' σ H Q -> t σ H Q) : PI X tg e t' := fun pins s σ H Q I q => h pins s σ H Q I (w σ H Q q)
def zap (f g : SV) : SV := fun ρ m => (f ρ m).bind fun fl m1 => match fl with
 | .nx ρ1 => g ρ1 m1
 | fl => .ok fl m1
def zbG : SV := fun ρ m => .ok (.nx ρ) m
def sBad : SV := fun _ _ => .bad
def zaJ (f : EV) : SV := fun ρ m => (f ρ m).bind fun d m1 => .ok (.rt d) m1
def sRetN : SV := fun _ m => .ok (.rt .non) m
def zeO (f : EV) : SV := fun ρ m => (f ρ m).bind fun _ m1 => .ok (.nx ρ) m1
def sIf (c : TV) (f g : SV) : SV := fun ρ m => (c ρ m).bind fun b m1 => if b = true then f ρ m1 else g ρ m1
def zaB (f : EV) (g : GV) : SV := fun ρ m => (f ρ m).bind fun d m1 => (g d ρ m1).bind fun ρ1 m2 => .ok (.nx ρ1) m2
def gN (i : Nat) : GV := fun d ρ m => .ok (ρ.set i (some d)) m
def zeT : List D -> En -> Sto -> Res En := fun ds ρ m => match ds with
 | [] => .ok ρ m
 | _ :: _ => .bad
def zaL (g : GV) (gs : List D -> En -> Sto -> Res En) : List D -> En -> Sto -> Res En := fun ds ρ m => match ds with
 | [] => .bad
 | d :: r => (g d ρ m).bind fun ρ1 m1 => gs r ρ1 m1
def gT (n : Nat) (gs : List D -> En -> Sto -> Res En) : GV := fun d ρ m => match d with
 | .tup ds => if ds.length = n then gs ds ρ m else .bad
 | _ => .bad
def sPar (i j : Nat) (fa : AV) : SV := fun ρ m => (fa ρ m).bind fun ds m1 => match ds with
 | [x,y] => .ok (.nx ((ρ.set i (some x)).set j (some y))) m1
 | _ => .bad
def zn7 (i j k : Nat) (fa : AV) : SV := fun ρ m => (fa ρ m).bind fun ds m1 => match ds with
 | [x,y,z] => .ok (.nx (((ρ.set i (some x)).set j (some y)).set k (some z))) m1
 | _ => .bad
def zfA (g : GV) (body : SV) : List D -> En -> Sto -> Res Fl
 | [],ρ,m => .ok (.nx ρ) m
 | d :: r,ρ,m => (g d ρ m).bind fun ρ1 m1 => (body ρ1 m1).bind fun fl m2 => match fl with
  | .nx ρ2 => zfA g body r ρ2 m2
  | .ct ρ2 => zfA g body r ρ2 m2
  | .bk ρ2 => .ok (.nx ρ2) m2
  | .rt d => .ok (.rt d) m2
def zhM (it : AV) (g : GV) (body : SV) : SV := fun ρ m => (it ρ m).bind fun ds m1 => zfA g body ds ρ m1
def zc8 (c : TV) (body : SV) : Nat -> En -> Sto -> Res Fl
 | 0,_,_ => .bad
 | n + 1,ρ,m => (c ρ m).bind fun b m1 => if b = true then (body ρ m1).bind fun fl m2 => match fl with
  | .nx ρ2 => zc8 c body n ρ2 m2
  | .ct ρ2 => zc8 c body n ρ2 m2
  | .bk ρ2 => .ok (.nx ρ2) m2
  | .rt d => .ok (.rt d) m2 else .ok (.nx ρ) m1
def zdB (n : Nat) (c : TV) (body : SV) : SV := fun ρ m => zc8 c body n ρ m
def zen (g : GV) (c : TV) (el : EV) (ρ : En) : List D -> Sto -> Res (List D)
 | [],m => .ok [] m
 | d :: r,m => (g d ρ m).bind fun ρ1 m1 => (c ρ1 m1).bind fun b m2 => if b = true then (el ρ1 m2).bind fun x m3 => (zen g c el ρ r m3).bind fun xs m4 => .ok (x :: xs) m4 else zen g c el ρ r m2
def zcw (n : Nat) (it : AV) (g : GV) (c : TV) (el : EV) : AV := fun ρ m => (it ρ m).bind fun ds m1 => if ds.length <= 1000000 then zen g c el (ρ ++ List.replicate n none) ds m1 else .bad
def zcG : TV := fun _ m => .ok true m
section
variable {X : Cx} {cl : Str -> Addr} {ex : XD} {a b c e tg it : Expr} {es : List Expr} {fa fb : EV} {ta tb : TV} {fr : AV} {pos : Pos} {st : Stmt} {sts sts' : List Stmt} {f g : SV} {gt : GV}
theorem zaw : QSs X cl ex [] zbG := ⟨PSs.weak zp9 fun D σ H hh => ex3 hh fun α ρ m W hr h => PQ.ok W h σ hr⟩
theorem zah (hq : QS X cl ex st f) : QSs X cl ex [st] f := ⟨zp8 hq.out⟩
theorem zag (h1 : QS X cl ex st f) (h2 : QSs X cl ex sts g) : QSs X cl ex (st :: sts) (zap f g) :=
 ⟨PSs.weak (zoh h1.out h2.out) fun D σ H hh => ex3 hh fun α ρ m W hr h => ⟨α,ρ,m,W,hr,PQ.mono (Ext.refl W) h.bind fun fl α1 m1 H1 E1 W1 q => by
  cases fl with
  | nx ρ1 => exact fun σ1 hr1 => ⟨α1,ρ1,m1,W1,hr1,q⟩
  | rt d => exact PQ.ok W1 q
  | bk ρ1 => exact PQ.ok W1 q
  | ct ρ1 => exact PQ.ok W1 q⟩⟩
theorem ze8 : QS X cl ex st sBad := ⟨PS.weak zoj fun D σ H hh => ex3 hh fun α ρ m W hr h => h.elim⟩
theorem zam (he : QE X cl ex e fa) : QS X cl ex (.Return (some e) pos) (zaJ fa) :=
 ⟨PS.weak (ps_ret he.out) fun D σ H hh => ex3 hh fun α ρ m W hr h => tD.use W hr h fun α1 m1 H1 d v E1 W1 hr1 rv h1 => PQ.ok W1 h1 v rv⟩
theorem zdl (he : QE X cl ex e fa) (hs : autoParam (swapsWith e none pos.line X.env = pure false) AutoP.a3._auto_1) : QS X cl ex (.Expr e pos) (zeO fa) :=
 ⟨PS.weak (zqc he.out hs) fun D σ H hh => ex3 hh fun α ρ m W hr h => tD.use W hr h fun α1 m1 H1 d v E1 W1 hr1 rv h1 => PQ.ok W1 h1 _ hr1⟩
theorem zaU (hc : QT X cl ex c ta) (ha : QSs X cl ex sts f) (hb : QSs X cl ex sts' g) : QS X cl ex (.If c sts sts' pos) (sIf ta f g) :=
 ⟨PS.weak (ps_if hc.out ha.out hb.out) fun D σ H hh => ex3 hh fun α ρ m W hr h => tDT.use W hr h fun α1 m1 H1 d E1 W1 hr1 h1 => by
  cases d with
  | true => exact ⟨α1,ρ,m1,W1,hr1,h1⟩
  | false => exact ⟨α1,ρ,m1,W1,hr1,h1⟩⟩
theorem zaq {i : Nat} {x : Str} (hN : X.N.Nodup) (hi : X.N[i]? = some x) (hx : Loc X.env.scope x) (hf : autoParam (X.fn x = true ∨ X.env.scope.names.lookup x = some .local) AutoP.a0._auto_1) : QG X cl ex (.Name x pos) (gN i) :=
 ⟨PG.weak (zmf hN hi hx hf) fun v σ H Q ⟨α,ρ,m,d,W,hr,rv,h⟩ => PQ.ok W h _ (hr.set rv)⟩
theorem zct : QGs X cl ex [] zeT := ⟨PGs.weak zqt fun v σ H Q ⟨α,ρ,m,d,W,hr,rv,h⟩ => by
 cases d with
 | nil => rw [RepL] at rv; exact ⟨rv,PQ.ok W h _ hr⟩
 | cons d r => exact h.elim⟩
theorem zaC {gs : List D -> En -> Sto -> Res En} (h1 : QG X cl ex e gt) (h2 : QGs X cl ex es gs) (hs : autoParam ((assignEach (e :: es) X.env).map (·.2) = assign e X.env :: (assignEach es X.env).map (·.2)) AutoP.a3._auto_1) : QGs X cl ex (e :: es) (zaL gt gs) :=
 ⟨PGs.weak (zom h1.out h2.out hs) fun v σ H Q ⟨α,ρ,m,d,W,hr,rv,h⟩ => by
  cases d with
  | nil => exact h.elim
  | cons d r =>
   rw [RepL] at rv
   obtain ⟨v0,vr,rfl,r0,rr⟩ := rv
   refine ⟨v0,vr,rfl,α,ρ,m,d,W,hr,r0,PQ.mono (Ext.refl W) (show PQ X.K cl ex ((gt d ρ m).bind fun ρ1 m1 => gs r ρ1 m1) α H _ from h).bind fun ρ1 α1 m1 H1 E1 W1 q σ1 hr1 => ?_⟩
   exact ⟨α1,ρ1,m1,r,W1,hr1,rr.mono W E1,q⟩⟩
theorem zdN {k n : Nat} {gs : List D -> En -> Sto -> Res En} (hc : X.calm = true) (hq : QGs X cl ex es gs) (hn : autoParam ((assignEach es X.env).length = n) AutoP.a3._auto_1) (hst : autoParam ((assignEach es X.env).findIdx? (·.1) = none) AutoP.a3._auto_1) : QG X cl ex (.Tuple es k pos) (gT n gs) :=
 ⟨PG.weak (pg_tup hc hq.out hn hst) fun v σ H Q ⟨α,ρ,m,d,W,hr,rv,h⟩ => by
  cases d with
  | tup ds =>
   rw [Rep] at rv
   obtain ⟨a,xs,e,h1,h2⟩ := rv
   obtain ⟨hl,h3⟩ := PQ.if h
   exact ⟨a,xs,e,h1.sq,by rw [<- h2.length]; exact hl,α,ρ,m,ds,W,hr,h2,h3⟩
  | _ => exact h.elim⟩
theorem zlG {t : TE} {u : TG} (h1 : ∀ σ H Q,tD X.K cl ex fa σ H Q -> t σ H Q) (h2 : ∀ v σ H Q,tDG X.K cl ex gt v σ H Q -> u v σ H Q) : ∀ D σ H,tDS X.K cl ex (zaB fa gt) D σ H -> tAsg t u D σ H := fun D σ H hh => ex3 hh fun α ρ m W hr h =>
 h1 σ H _ (tD.use W hr h fun α1 m1 H1 d v E1 W1 hr1 rv q => h2 v σ H1 _ ⟨α1,ρ,m1,d,W1,hr1,rv,PQ.mono (Ext.refl W1) q.bind fun ρ2 α2 m2 H2 E2 W2 q2 => PQ.ok W2 q2⟩)
theorem zal {i : Nat} {x : Str} {pos' : Pos} (hN : X.N.Nodup) (hi : X.N[i]? = some x) (hx : Loc X.env.scope x) (he : QE X cl ex e fa) (hs : autoParam (swapsWith e (some (.Name x pos')) pos.line X.env = pure false) AutoP.a3._auto_1) (hf : autoParam (X.fn x = true ∨ X.env.scope.names.lookup x = some .local) AutoP.a0._auto_1) :
  QS X cl ex (.Assign [.Name x pos'] e pos) (zaB fa (gN i)) :=
 ⟨PS.weak (ps_set hN hi hx he.out hs hf) (zlG (fun _ _ _ h => h) fun v σ H Q ⟨α,ρ,m,d,W,hr,rv,h⟩ => PQ.ok W h _ (hr.set rv))⟩
theorem zgn (he : QE X cl ex e fa) (hg : QG X cl ex tg gt) (hs : autoParam (swapsWithSole [tg] e pos.line X.env = pure false) AutoP.a3._auto_1) (hw : autoParam (swappedStores [tg] e X.env = pure none) AutoP.a3._auto_1)
  (h1 : autoParam ((assignEach [tg] X.env).map (·.2) = [assign tg X.env]) AutoP.a3._auto_1) : QS X cl ex (.Assign [tg] e pos) (zaB fa gt) :=
 ⟨PS.weak (ps_asg he.out hg.out hs hw h1) (zlG (fun _ _ _ h => h) fun _ _ _ _ h => h)⟩
theorem zl2 {i j : Nat} {x y : Str} {px py pt : Pos} {kt k2 pt2} (hc : X.calm = true) (hN : X.N.Nodup) (hi : X.N[i]? = some x) (hj : X.N[j]? = some y) (hij : i ≠ j)
  (hx : X.env.scope.names.lookup x = some .local) (hy : X.env.scope.names.lookup y = some .local) (ha : QA X cl ex [a,b] fr)
  (hw : swappedStores [.Tuple [.Name x px,.Name y py] kt pt] (.Tuple [a,b] k2 pt2) X.env = pure (some [x,y]))
  (hs : autoParam (swapsWithSole [.Tuple [.Name x px,.Name y py] kt pt] (.Tuple [a,b] k2 pt2) pos.line X.env = pure false) AutoP.a3._auto_1) :
  QS X cl ex (.Assign [.Tuple [.Name x px,.Name y py] kt pt] (.Tuple [a,b] k2 pt2) pos) (sPar i j fr) :=
 ⟨PS.weak (ps_par hc hN hi hj hij hx hy ha.out hw hs) fun D σ H hh => ex3 hh fun α ρ m W hr h => tDA.use W hr h fun α1 m1 H1 d v E1 W1 hr1 rv h1 => by
  match d,rv,h1 with
  | [p,q],rv,h1 =>
   rw [RepL] at rv
   obtain ⟨v1,r1,rfl,a1,rv⟩ := rv
   rw [RepL] at rv
   obtain ⟨v2,r2,rfl,a2,rv⟩ := rv
   rw [RepL] at rv
   subst rv
   exact ⟨v1,v2,rfl,PQ.ok W1 h1 _ ((hr1.set a1).set a2)⟩
  | [],_,h1 => exact h1.elim
  | [_],_,h1 => exact h1.elim
  | _ :: _ :: _ :: _,_,h1 => exact h1.elim⟩
theorem zl1 {i j k : Nat} {x y z : Str} {px py pz pt : Pos} {kt k2 pt2} (hc : X.calm = true) (hN : X.N.Nodup) (hi : X.N[i]? = some x) (hj : X.N[j]? = some y) (hk : X.N[k]? = some z) (hij : i ≠ j) (hik : i ≠ k) (hjk : j ≠ k)
  (hx : X.env.scope.names.lookup x = some .local) (hy : X.env.scope.names.lookup y = some .local) (hz : X.env.scope.names.lookup z = some .local) (ha : QA X cl ex [a,b,c] fr)
  (hw : swappedStores [.Tuple [.Name x px,.Name y py,.Name z pz] kt pt] (.Tuple [a,b,c] k2 pt2) X.env = pure (some [x,y,z]))
  (hs : autoParam (swapsWithSole [.Tuple [.Name x px,.Name y py,.Name z pz] kt pt] (.Tuple [a,b,c] k2 pt2) pos.line X.env = pure false) AutoP.a3._auto_1) :
  QS X cl ex (.Assign [.Tuple [.Name x px,.Name y py,.Name z pz] kt pt] (.Tuple [a,b,c] k2 pt2) pos) (zn7 i j k fr) :=
 ⟨PS.weak (zqb hc hN hi hj hk hij hik hjk hx hy hz ha.out hw hs) fun D σ H hh => ex3 hh fun α ρ m W hr h => tDA.use W hr h fun α1 m1 H1 d v E1 W1 hr1 rv h1 => by
  match d,rv,h1 with
  | [p,q,o],rv,h1 =>
   rw [RepL] at rv
   obtain ⟨v1,r1,rfl,a1,rv⟩ := rv
   rw [RepL] at rv
   obtain ⟨v2,r2,rfl,a2,rv⟩ := rv
   rw [RepL] at rv
   obtain ⟨v3,r3,rfl,a3,rv⟩ := rv
   rw [RepL] at rv
   subst rv
   exact ⟨v1,v2,v3,rfl,PQ.ok W1 h1 _ (((hr1.set a1).set a2).set a3)⟩
  | [],_,h1 => exact h1.elim
  | [_],_,h1 => exact h1.elim
  | [_,_],_,h1 => exact h1.elim
  | _ :: _ :: _ :: _ :: _,_,h1 => exact h1.elim⟩
theorem zca (hp : PassesOwn (model X.prog X.w) X.A X.env X.xe) (hc : X.calm = true) (hi : QI X cl ex tg it fr) (hg : QG X cl ex tg gt) (hb : QSs X cl ex sts f)
  (hs : autoParam (∀ x,foldedSetIterable it X.env x = pure x) AutoP.a2._auto_1) : QS X cl ex (.For tg it sts [] pos) (zhM fr gt f) :=
 ⟨PS.weak (ps_for hp hc hi.out hg.out hb.out hs) fun D σ H hh => ex3 hh fun α ρ m W hr h => ⟨α,ρ,m,W,hr,PQ.mono (Ext.refl W) h.bind fun ds α1 m1 H1 E1 W1 q J hJ => by
  refine ⟨fun i n σ2 H2 => n = ds.length - i /\ i <= ds.length /\ ∃ α2 m2 ρ2,Ext α1 H1 α2 H2 /\ Wd X.K cl α2 m2 H2 /\ RepE X.K α2 H2 ρ2 σ2 /\ PQ X.K cl ex (zfA gt f (ds.drop i) ρ2 m2) α2 H2 fun fl α' _ H' => zeL X.K D fl α' H',
   ⟨ds.length,by simp,Nat.zero_le _,α1,m1,ρ,Ext.refl W1,W1,hr.mono W E1,q⟩,?_⟩
  rintro i n σ2 H2 ⟨rfl,hi,α2,m2,ρ2,E2,W2,hr2,q2⟩
  obtain ⟨go,stop⟩ := hJ i α2 m2 H2 E2 W2
  by_cases hlt : i < ds.length
  ·have hd : ds[i]? = some ds[i] := by simp [hlt]
   obtain ⟨g1,g2⟩ := go _ hd
   rw [List.drop_eq_getElem_cons hlt,zfA] at q2
   refine .inr ⟨g1,fun σ3 H3 => ∃ α3 m3 ρ3,Ext α1 H1 α3 H3 /\ Wd X.K cl α3 m3 H3 /\ RepE X.K α3 H3 ρ3 σ3 /\ PQ X.K cl ex (zfA gt f (ds.drop (i + 1)) ρ3 m3) α3 H3 fun fl α' _ H' => zeL X.K D fl α' H',
    fun σ3 H3 ⟨α3,m3,ρ3,E3,W3,hr3,q3⟩ => ⟨ds.length - (i + 1),by omega,rfl,hlt,α3,m3,ρ3,E3,W3,hr3,q3⟩,fun x H3 y => ?_⟩
   obtain ⟨sm,rx⟩ := g2 x H3 y
   have Es := Ext.of_same W2 sm
   have W3 := W2.same sm
   refine ⟨α2,ρ2,m2,ds[i],W3,hr2.mono W2 Es,rx,PQ.mono Es q2.bind fun ρ4 α4 m4 H4 E4 W4 q4 σ4 hr4 => ?_⟩
   have E04 := E2.trans (Es.trans E4)
   refine ⟨α4,ρ4,m4,W4,hr4,PQ.mono (Ext.refl W4) q4.bind fun fl α5 m5 H5 E5 W5 q5 => ?_⟩
   cases fl with
   | nx ρ5 => exact fun σ5 hr5 => ⟨α5,m5,ρ5,E04.trans E5,W5,hr5,q5⟩
   | ct ρ5 => exact fun σ5 hr5 => ⟨α5,m5,ρ5,E04.trans E5,W5,hr5,q5⟩
   | bk ρ5 => exact PQ.ok W5 q5
   | rt d => exact PQ.ok W5 q5
  ·have e : i = ds.length := by omega
   subst e
   rw [List.drop_of_length_le (Nat.le_refl _),zfA] at q2
   exact .inl ⟨stop rfl,PQ.ok W2 q2 σ2 hr2⟩⟩⟩
theorem zg2 {n : Nat} (hp : PassesOwn (model X.prog X.w) X.A X.env X.xe) (hc : QT X cl ex c ta) (hb : QSs X cl ex sts f) : QS X cl ex (.While c sts [] pos) (zdB n ta f) :=
 ⟨PS.weak (zoi hp hc.out hb.out) fun D σ H hh => ex3 hh fun α ρ m W hr h => by
  refine ⟨fun k σ2 H2 => ∃ α2 m2 ρ2,Wd X.K cl α2 m2 H2 /\ RepE X.K α2 H2 ρ2 σ2 /\ PQ X.K cl ex (zc8 ta f k ρ2 m2) α2 H2 fun fl α' _ H' => zeL X.K D fl α' H',⟨n,α,m,ρ,W,hr,h⟩,?_⟩
  rintro k σ2 H2 ⟨α2,m2,ρ2,W2,hr2,q2⟩
  cases k with
  | zero => exact q2.elim
  | succ k =>
   rw [zc8] at q2
   refine tDT.use W2 hr2 q2 fun α3 m3 H3 b E3 W3 hr3 q3 => ?_
   cases b with
   | false => exact PQ.ok W3 q3 σ2 hr3
   | true =>
    refine ⟨fun σ4 H4 => ∃ α4 m4 ρ4,Wd X.K cl α4 m4 H4 /\ RepE X.K α4 H4 ρ4 σ4 /\ PQ X.K cl ex (zc8 ta f k ρ4 m4) α4 H4 fun fl α' _ H' => zeL X.K D fl α' H',fun σ4 H4 q4 => ⟨k,Nat.lt_succ_self _,q4⟩,?_⟩
    refine ⟨α3,ρ2,m3,W3,hr3,PQ.mono (Ext.refl W3) q3.bind fun fl α5 m5 H5 E5 W5 q5 => ?_⟩
    cases fl with
    | nx ρ5 => exact fun σ5 hr5 => ⟨α5,m5,ρ5,W5,hr5,q5⟩
    | ct ρ5 => exact fun σ5 hr5 => ⟨α5,m5,ρ5,W5,hr5,q5⟩
    | bk ρ5 => exact PQ.ok W5 q5
    | rt d => exact PQ.ok W5 q5⟩
end
end MD
namespace L2
open PySem PySem.Spec PyProof.Rows
abbrev CQ := PySem.W.Frag -> Hp -> Addr -> List V -> Prop
structure SeqKd (c : CQ) (IsS : Heap -> Addr -> Array Value -> Prop) (IsI : Heap -> Addr -> Addr -> Nat -> Prop) : Prop where
 obj : ∀ h it l i,IsI h it l i -> ∃ o,h.get? it = some o /\ ∀ v,o.data ≠ .cell v
 kp : ∀ (h h' : Heap) it l i,IsI h it l i -> (∀ o,h.get? it = some o -> h'.get? it = some o) -> IsI h' it l i
 seq : ∀ (X : Cx) (pins : List (Addr × Obj)) (σ : St) (H : Hp) (s : Shared) (l : Addr) (xs : List V),Inv X pins σ H s -> c X.K H l xs -> ∃ its : List Value,Vals xs its /\ IsS s.heap l its.toArray
 dr : ∀ (P : Program) (w : World) (A : Around),A.handled = none -> ∀ (it l : Addr),l ≠ it -> ∀ items : Array Value,Draws P w A it [it,l] items.size (fun i v => items[i]? = some v) (fun i h => IsI h it l i /\ IsS h l items)
 ne : ∀ (X : Cx) (pins : List (Addr × Obj)) (σ : St) (H : Hp) (s : Shared) (l : Addr) (xs : List V) (b : Addr),Inv X pins σ H s -> c X.K H l xs -> zd7 X pins H b -> l ≠ b
 inj : ∀ (X : Cx) (pins : List (Addr × Obj)) (σ : St) (H : Hp) (s : Shared) (l : Addr) (xs ys : List V),Inv X pins σ H s -> c X.K H l xs -> c X.K H l ys -> xs = ys
theorem znO {X : Cx} {pins : List (Addr × Obj)} {σ : St} {H : Hp} {s : Shared} {l b : Addr} {o : Obj} (I : Inv X pins σ H s) (e : X.K.lookup l = some o) (f : zd7 X pins H b) : l ≠ b := fun z => by
 subst z
 have hb : X.base.get? l = some o := I.mod.kin l o e
 rcases f.2.2.2.1 with h | h
 ·exact I.ok.noex l o hb h
 ·have h1 := Heap.lt_size hb
  have h2 := I.ok.bsz
  exact absurd (Nat.lt_of_lt_of_le h1 (Nat.le_trans h2 h)) (Nat.lt_irrefl _)
theorem rd_ne {H : Hp} {l b : Addr} {u : HO} (h : Rd H l u) (n : H b = none) : l ≠ b := by
 rcases h with h | ⟨o,h⟩
 ·exact zaz h n
 ·exact zaz h n
theorem sq_lst : SeqKd SqL Heap.IsList Heap.IsListIter where
 obj := seq_lst.obj
 kp := seq_lst.kp
 seq := fun X pins σ H s l xs I e => by
  obtain ⟨its,r,p,_⟩ := I.list e
  exact ⟨its,r,p.isList⟩
 dr := seq_lst.dr
 ne := fun X pins σ H s l xs b I e f => by
  rcases e with e | ⟨o,_,_,e,_⟩
  ·exact rd_ne e f.1
  ·exact znO I e f
 inj := fun X pins σ H s l xs ys I => I.list_inj
theorem sq_tup : SeqKd SqT Heap.IsTuple Heap.IsTupleIter where
 obj := seq_tup.obj
 kp := seq_tup.kp
 seq := fun X pins σ H s l xs I e => by
  obtain ⟨its,r,p,_⟩ := I.tuple e
  exact ⟨its,r,p⟩
 dr := seq_tup.dr
 ne := fun X pins σ H s l xs b I e f => by
  rcases e with e | ⟨o,_,_,e,_⟩
  ·exact rd_ne e f.1
  ·exact znO I e f
 inj := fun X pins σ H s l xs ys I => I.tuple_inj
def IteQ (c : CQ) (K : PySem.W.Frag) (l : Addr) : It :=
 ⟨fun i H => ∃ xs x,c K H l xs /\ xs[i]? = some x,fun i H x H' => ∃ T y,H T = none /\ x = .ref T /\ (∀ xs,c K H l xs -> xs[i]? = some y) /\ H' = upd H T (.tup [.int (i : Int),y]),fun i H => ∃ xs,c K H l xs /\ xs.length = i⟩
theorem zkG {c : CQ} {IsS : Heap -> Addr -> Array Value -> Prop} {IsI : Heap -> Addr -> Addr -> Nat -> Prop} (S : SeqKd c IsS IsI) {P : Program} {w : World} {K : PySem.W.Frag} {elts : List Expr} {kt : Nat} {pt : Pos} {e it l : Addr} (hei : e ≠ it) :
  Turn P w K (.Tuple elts kt pt) (IteQ c K l) [e,it] e (fun i h => (∃ old,IsEnum h e it i old) /\ IsI h it l i) where
 mem := by simp
 obj := fun i h st b hb => by
  obtain ⟨⟨old,he⟩,st⟩ := st
  have q : b = e ∨ b = it := by simpa using hb
  rcases q with rfl | rfl
  ·exact ⟨_,he,fun v z => by cases z⟩
  ·exact S.obj _ _ _ _ st
 keep := fun i h h' st k => ⟨let ⟨old,he⟩ := st.1; ⟨old,k e (by simp) _ he⟩,S.kp _ _ _ _ _ st.2 fun o q => k it (by simp) o q⟩
 item := by
  intro X hP' hw hK hc i pins s σ H E I hf st hg
  subst hP' hw hK
  obtain ⟨xs,y,hl,hy⟩ := hg
  obtain ⟨its,rv,p⟩ := S.seq X pins σ H s l xs I hl
  obtain ⟨u,hu,ru⟩ := rv.get hy
  have fe := hf e (by simp)
  have fi := hf it (by simp)
  have hle : l ≠ e := S.ne X pins σ H s l xs e I hl fe
  have hli : l ≠ it := S.ne X pins σ H s l xs it I hl fi
  have hlt : i < its.toArray.size := by
   have := List.getElem?_eq_some_iff.mp hu
   simpa using this.1
  obtain ⟨⟨old,he⟩,hs⟩ := st
  have het : e < s.heap.objs.size := Heap.lt_size he
  have hit : it < s.heap.objs.size := by obtain ⟨o,q,_⟩ := S.obj _ _ _ _ hs; exact Heap.lt_size q
  refine wpAny_pyNext_enum_itemD (S.dr X.prog X.w X.A.in1 (I.ok.hd hc) it l hli its.toArray) he ⟨hs,p⟩ hlt hei (by simp [hei,Ne.symm hle]) fun x h' tk hx ho' hs' hT hsz hk => ?_
  refine ⟨.ref s.heap.objs.size,rfl,wpAny_letOwnedTupleGo_enum (s := { s with heap := h',toks := tk + 1 }) ho' fun h2 he2 hs2 => ?_⟩
  have hxu : x = u := by
   have h1 : its[i]? = some x := by simpa using hx
   rw [hu] at h1
   exact (Option.some.inj h1).symm
  subst hxu
  have hT2 : h2.get? s.heap.objs.size = some { cls := .type "tuple", data := .seq #[.int i tk,x] } := (hs2.2 _ (Nat.ne_of_gt het)).trans hT
  have new : ObjOk X.prog X.w (upd H s.heap.objs.size (.tup [.int (i : Int),y])) h2 s.heap.objs.size (.tup [.int (i : Int),y]) := ⟨(by show 2 <= sizeLine; decide),[.int i tk,x],.cons ⟨tk,rfl⟩ (.cons ru .nil),⟨_,hT2,rfl,_,rfl⟩,_,hT2,rfl⟩
  refine ⟨.ref s.heap.objs.size,_,I.turn2l fe fi (fun c o c1 c2 q => (hs2.2 c c1).trans (hk c o c1 c2 q)) (Nat.le_refl _) new,rfl,⟨s.heap.objs.size,y,I.hok.fresh (Nat.le_refl _),rfl,fun us h => by rw [S.inj X pins σ H s l us xs I h hl]; exact hy,rfl⟩,⟨⟨x,by simpa using he2⟩,S.kp _ _ _ _ _ hs'.1 fun o q => (hs2.2 it (Ne.symm hei)).trans q⟩,fun b hb => ?_⟩
  have q : b = e ∨ b = it := by simpa using hb
  rcases q with rfl | rfl
  ·rw [zao (Nat.ne_of_lt het)]; exact fe.1
  ·rw [zao (Nat.ne_of_lt hit)]; exact fi.1
 done := by
  intro X hP' hw hK hc i pins s σ H E I hf st hg
  subst hP' hw hK
  obtain ⟨xs,hl,hn⟩ := hg
  obtain ⟨its,rv,p⟩ := S.seq X pins σ H s l xs I hl
  have fe := hf e (by simp)
  have fi := hf it (by simp)
  have hle : l ≠ e := S.ne X pins σ H s l xs e I hl fe
  have hli : l ≠ it := S.ne X pins σ H s l xs it I hl fi
  have hi : i = its.toArray.size := by rw [<- hn,rv.length]; simp
  subst hi
  have W := WalksT.enumerateD (S.dr X.prog X.w X.A.in1 (I.ok.hd hc) it l hli its.toArray) e hei (by simp [hei,Ne.symm hle]) (by simp)
  exact W.done s _ _ ⟨st.1,st.2,p⟩ fun h' tk kk => ⟨rfl,I.turn2 fe fi fun c o c1 c2 q => kk c o (by simp [c1,c2]) q⟩
 self := fun A i s Q E st q => by
  obtain ⟨⟨old,he⟩,_⟩ := st
  exact wpAny_pyIter_enum he q
def zpo (c : CQ) (K : PySem.W.Frag) (te : TE) : TI := fun σ H R => te σ H fun x H1 => ∃ l xs,[x] = [V.ref l] /\ c K H1 l xs /\ R (IteQ c K l) H1
section
variable {X : Cx} {elts : List Expr} {kt : Nat} {pt : Pos} {e : Expr} {te : TE} {p pos : Pos}
theorem ziw {c : CQ} {IsS : Heap -> Addr -> Array Value -> Prop} {IsI : Heap -> Addr -> Addr -> Nat -> Prop} (S : SeqKd c IsS IsI) {pins : List (Addr × Obj)} {σ : St} {H : Hp} {s : Shared} {R : It -> Hp -> Prop} {l : Addr} {h' : Heap} (I : Inv X pins σ H s)
  (he : IsEnum h' (s.heap.objs.size + 1) s.heap.objs.size 0 .none) (hi : IsI h' s.heap.objs.size l 0) (k : ∀ b o,s.heap.get? b = some o -> h'.get? b = some o) (q : R (IteQ c X.K l) H) :
  PIE X pins σ (.Tuple elts kt pt) R (.ref (s.heap.objs.size + 1)) { s with heap := h' } := by
 refine ⟨s.heap.objs.size + 1,[s.heap.objs.size + 1,s.heap.objs.size],_,_,H,rfl,I.kept (t' := s.toks) k,zkG S (Nat.ne_of_gt (Nat.lt_succ_self _)),⟨⟨.none,he⟩,hi⟩,fun b hb => ?_,q⟩
 have e : b = s.heap.objs.size + 1 ∨ b = s.heap.objs.size := by simpa using hb
 rcases e with rfl | rfl
 ·exact I.fpOk (Nat.le_succ _) (I.hok.fresh (Nat.le_succ _))
 ·exact I.fpOk (Nat.le_refl _) (I.hok.fresh (Nat.le_refl _))
theorem zme (hg : Gl X "enumerate") (hm : X.mg "enumerate" = none) (he : PE X e te) (hs : autoParam (starEach [e] X.env = [(false,eval e X.env)]) AutoP.a3._auto_1) : PI X (.Tuple elts kt pt) (.Call (.Name "enumerate" p) [e] [] pos) (zpo SqL X.K te) := by
 intro pins s σ H R I h
 refine Call_ (zdT I hg hm boot_enumerate (PyProof.Rows.callWith_type1 (thn (zbP he zet hs pos pins s σ H (fun zs H1 => ∃ l xs,zs = [V.ref l] /\ SqL X.K H1 l xs /\ R (IteQ SqL X.K l) H1) I h) fun us s1 ⟨vs,H1,I1,r1,q1⟩ => ?_) hs rfl))
 obtain ⟨l,xs,rfl,hl,q⟩ := q1
 obtain ⟨u,rfl,ru⟩ := zb3 r1
 cases ru
 obtain ⟨its,rv,pl⟩ := sq_lst.seq X pins σ H1 s1 l xs I1 hl
 exact call_enumerate_list pl fun h' hen hit _ k => wpAny_pyIter_enum hen (ziw sq_lst I1 hen hit k q)
theorem zmd (hg : Gl X "enumerate") (hm : X.mg "enumerate" = none) (he : PE X e te) (hs : autoParam (starEach [e] X.env = [(false,eval e X.env)]) AutoP.a3._auto_1) : PI X (.Tuple elts kt pt) (.Call (.Name "enumerate" p) [e] [] pos) (zpo SqT X.K te) := by
 intro pins s σ H R I h
 refine Call_ (zdT I hg hm boot_enumerate (PyProof.Rows.callWith_type1 (thn (zbP he zet hs pos pins s σ H (fun zs H1 => ∃ l xs,zs = [V.ref l] /\ SqT X.K H1 l xs /\ R (IteQ SqT X.K l) H1) I h) fun us s1 ⟨vs,H1,I1,r1,q1⟩ => ?_) hs rfl))
 obtain ⟨l,xs,rfl,hl,q⟩ := q1
 obtain ⟨u,rfl,ru⟩ := zb3 r1
 cases ru
 obtain ⟨its,rv,pl⟩ := sq_tup.seq X pins σ H1 s1 l xs I1 hl
 exact zd4 pl fun h' hen hit k => wpAny_pyIter_enum hen (ziw sq_tup I1 hen hit k q)
end
def zls (c1 c2 : CQ) (K : PySem.W.Frag) (l1 l2 : Addr) : It :=
 ⟨fun i H => ∃ xs ys x y,c1 K H l1 xs /\ c2 K H l2 ys /\ xs[i]? = some x /\ ys[i]? = some y,fun i H v H' => ∃ T x y,H T = none /\ v = .ref T /\ (∀ xs,c1 K H l1 xs -> xs[i]? = some x) /\ (∀ ys,c2 K H l2 ys -> ys[i]? = some y) /\ H' = upd H T (.tup [x,y]),fun i H => ∃ xs,c1 K H l1 xs /\ xs.length = i⟩
theorem zlB {c1 c2 : CQ} {IsS1 IsS2 : Heap -> Addr -> Array Value -> Prop} {IsI1 IsI2 : Heap -> Addr -> Addr -> Nat -> Prop} (S1 : SeqKd c1 IsS1 IsI1) (S2 : SeqKd c2 IsS2 IsI2) {P : Program} {w : World} {K : PySem.W.Frag} {elts : List Expr} {kt : Nat} {pt : Pos} {z TI TO i1 i2 l1 l2 : Addr} (nTO : TO ≠ z) (nTI : TI ≠ z) (n1z : i1 ≠ z) (n2z : i2 ≠ z) (nTT : TI ≠ TO) (n1I : TI ≠ i1) (n2I : TI ≠ i2) (n1T : i1 ≠ TO) (n2T : i2 ≠ TO) (n12 : i1 ≠ i2) :
  Turn P w K (.Tuple elts kt pt) (zls c1 c2 K l1 l2) [z,TI,TO,i1,i2] z (fun i h => IsZip h z TI TO .none /\ IsPair h TI (.ref i1) (.ref i2) /\ (∃ a b,IsPair h TO a b) /\ IsI1 h i1 l1 i /\ IsI2 h i2 l2 i) where
 mem := by simp
 obj := fun i h st b hb => by
  obtain ⟨h1,h2,⟨a,c,h3⟩,h4,h5⟩ := st
  simp only [List.mem_cons,List.not_mem_nil,or_false] at hb
  rcases hb with rfl | rfl | rfl | rfl | rfl
  ·exact ⟨_,h1,fun v z => by cases z⟩
  ·exact ⟨_,h2,fun v z => by cases z⟩
  ·exact ⟨_,h3,fun v z => by cases z⟩
  ·exact S1.obj _ _ _ _ h4
  ·exact S2.obj _ _ _ _ h5
 keep := fun i h h' st k => by
  obtain ⟨h1,h2,⟨a,c,h3⟩,h4,h5⟩ := st
  exact ⟨k _ (by simp) _ h1,k _ (by simp) _ h2,⟨a,c,k _ (by simp) _ h3⟩,S1.kp _ _ _ _ _ h4 fun o q => k _ (by simp) o q,S2.kp _ _ _ _ _ h5 fun o q => k _ (by simp) o q⟩
 item := by
  intro X hP' hw hK hc i pins s σ H E I hf st hg
  subst hP' hw hK
  obtain ⟨xs,ys,x,y,hl1,hl2,hx,hy⟩ := hg
  obtain ⟨its1,rv1,p1⟩ := S1.seq X pins σ H s l1 xs I hl1
  obtain ⟨its2,rv2,p2⟩ := S2.seq X pins σ H s l2 ys I hl2
  obtain ⟨u1,hu1,ru1⟩ := rv1.get hx
  obtain ⟨u2,hu2,ru2⟩ := rv2.get hy
  have fz := hf z (by simp)
  have fT := hf TO (by simp)
  have f1 := hf i1 (by simp)
  have f2 := hf i2 (by simp)
  have hlt1 : i < its1.toArray.size := by
   have := List.getElem?_eq_some_iff.mp hu1
   simpa using this.1
  have hlt2 : i < its2.toArray.size := by
   have := List.getElem?_eq_some_iff.mp hu2
   simpa using this.1
  obtain ⟨h1,h2,⟨a,c,h3⟩,h4,h5⟩ := st
  have a1 := S1.ne X pins σ H s l1 xs z I hl1 fz
  have a2 := S1.ne X pins σ H s l1 xs TO I hl1 fT
  have a3 := S1.ne X pins σ H s l1 xs i1 I hl1 f1
  have a4 := S1.ne X pins σ H s l1 xs i2 I hl1 f2
  have b1 := S2.ne X pins σ H s l2 ys z I hl2 fz
  have b2 := S2.ne X pins σ H s l2 ys TO I hl2 fT
  have b3 := S2.ne X pins σ H s l2 ys i1 I hl2 f1
  have b4 := S2.ne X pins σ H s l2 ys i2 I hl2 f2
  refine zcz (S1.dr X.prog X.w X.A.in1 (I.ok.hd hc) i1 l1 a3 its1.toArray) (S2.dr X.prog X.w X.A.in1 (I.ok.hd hc) i2 l2 b4 its2.toArray) h1 h2 h3 ⟨h4,p1⟩ ⟨h5,p2⟩ hlt1 hlt2 nTO nTI n1z n2z n1T n2T
   (by simp [Ne.symm n1z,Ne.symm a1]) (by simp [Ne.symm n1T,Ne.symm a2]) (by simp [Ne.symm n12,Ne.symm a4]) (by simp [Ne.symm n2z,Ne.symm b1]) (by simp [Ne.symm n2T,Ne.symm b2]) (by simp [n12,Ne.symm b3]) fun v1 v2 h' tk e1 e2 q1 q2 q3 q4 q5 q6 q7 => ?_
  refine ⟨.ref s.heap.objs.size,rfl,wpAny_letOwnedTupleGo_zip (s := { s with heap := h',toks := tk }) q1 fun g r1 r2 => ?_⟩
  have hv1 : v1 = u1 := by
   have h1 : its1[i]? = some v1 := by simpa using e1
   rw [hu1] at h1
   exact (Option.some.inj h1).symm
  have hv2 : v2 = u2 := by
   have h1 : its2[i]? = some v2 := by simpa using e2
   rw [hu2] at h1
   exact (Option.some.inj h1).symm
  subst hv1 hv2
  have hzt : z < s.heap.objs.size := Heap.lt_size h1
  have hT2 : g.get? s.heap.objs.size = some { cls := .type "tuple", data := .seq #[v1,v2] } := (r2.2 _ (Nat.ne_of_gt hzt)).trans q5
  have new : ObjOk X.prog X.w (upd H s.heap.objs.size (.tup [x,y])) g s.heap.objs.size (.tup [x,y]) := ⟨(by show 2 <= sizeLine; decide),[v1,v2],.cons ru1 (.cons ru2 .nil),⟨_,hT2,rfl,_,rfl⟩,_,hT2,rfl⟩
  refine ⟨.ref s.heap.objs.size,_,I.turnNl (ch := [z,TO,i1,i2]) (fun b hb => hf b ?_) (fun c o hc q => (r2.2 c ?_).trans (q7 c o ?_ ?_ ?_ ?_ q)) (Nat.le_refl _) new,rfl,⟨s.heap.objs.size,x,y,I.hok.fresh (Nat.le_refl _),rfl,(fun us h => by rw [S1.inj X pins σ H s l1 us xs I h hl1]; exact hx),(fun us h => by rw [S2.inj X pins σ H s l2 us ys I h hl2]; exact hy),rfl⟩,⟨r1,(r2.2 _ nTI).trans (q7 _ _ nTI nTT n1I n2I h2),⟨_,_,(r2.2 _ nTO).trans q2⟩,S1.kp _ _ _ _ _ q3.1 fun o q => (r2.2 _ n1z).trans q,S2.kp _ _ _ _ _ q4.1 fun o q => (r2.2 _ n2z).trans q⟩,fun b hb => ?_⟩
  ·simp only [List.mem_cons,List.not_mem_nil,or_false] at hb ⊢
   rcases hb with h | h | h | h <;> simp [h]
  ·exact fun z => hc (by simp [z])
  ·exact fun z => hc (by simp [z])
  ·exact fun z => hc (by simp [z])
  ·exact fun z => hc (by simp [z])
  ·exact fun z => hc (by simp [z])
  ·have fb := hf b hb
   have lt : b < s.heap.objs.size := by
    simp only [List.mem_cons,List.not_mem_nil,or_false] at hb
    rcases hb with rfl | rfl | rfl | rfl | rfl
    ·exact hzt
    ·exact Heap.lt_size h2
    ·exact Heap.lt_size h3
    ·obtain ⟨o,q,_⟩ := S1.obj _ _ _ _ h4; exact Heap.lt_size q
    ·obtain ⟨o,q,_⟩ := S2.obj _ _ _ _ h5; exact Heap.lt_size q
   rw [zao (Nat.ne_of_lt lt)]
   exact fb.1
 done := by
  intro X hP' hw hK hc i pins s σ H E I hf st hg
  subst hP' hw hK
  obtain ⟨xs,hl1,hn⟩ := hg
  obtain ⟨its1,rv1,p1⟩ := S1.seq X pins σ H s l1 xs I hl1
  have fz := hf z (by simp)
  have f1 := hf i1 (by simp)
  obtain ⟨h1,h2,⟨a,c,h3⟩,h4,h5⟩ := st
  have a1 := S1.ne X pins σ H s l1 xs z I hl1 fz
  have a3 := S1.ne X pins σ H s l1 xs i1 I hl1 f1
  have hi : i = its1.toArray.size := by rw [<- hn,rv1.length]; simp
  subst hi
  refine zcF (S1.dr X.prog X.w X.A.in1 (I.ok.hd hc) i1 l1 a3 its1.toArray) h1 h2 h3 ⟨h4,p1⟩ nTO n1z (by simp [Ne.symm n1z,Ne.symm a1]) fun h' k => ⟨rfl,I.turnN (t' := s.toks) (ch := [z,TO,i1,i2]) (fun b hb => hf b ?_) fun c o hc q => k c o (fun z => hc (by simp [z])) (fun z => hc (by simp [z])) (fun z => hc (by simp [z])) (fun z => hc (by simp [z])) q⟩
  simp only [List.mem_cons,List.not_mem_nil,or_false] at hb ⊢
  rcases hb with h | h | h | h <;> simp [h]
 self := fun A i s Q E st q => wpAny_pyIter_zip st.1 q
def iZipQ (c1 c2 : CQ) (K : PySem.W.Frag) (te1 te2 : TE) : TI := fun σ H R => te1 σ H fun x H1 => te2 σ H1 fun y H2 => ∃ l1 l2 xs ys,[x,y] = [V.ref l1,V.ref l2] /\ c1 K H2 l1 xs /\ c2 K H2 l2 ys /\ R (zls c1 c2 K l1 l2) H2
section
variable {X : Cx} {elts : List Expr} {kt : Nat} {pt : Pos} {e1 e2 : Expr} {te1 te2 : TE} {p pos : Pos}
theorem zjC {c1 c2 : CQ} {IsS1 IsS2 : Heap -> Addr -> Array Value -> Prop} {IsI1 IsI2 : Heap -> Addr -> Addr -> Nat -> Prop} (S1 : SeqKd c1 IsS1 IsI1) (S2 : SeqKd c2 IsS2 IsI2) {pins : List (Addr × Obj)} {σ : St} {H1 : Hp} {s1 : Shared} {R : It -> Hp -> Prop} {l1 l2 : Addr} {h' : Heap} (I1 : Inv X pins σ H1 s1)
  (a1 : IsZip h' (s1.heap.objs.size + 4) (s1.heap.objs.size + 2) (s1.heap.objs.size + 3) .none) (a2 : IsPair h' (s1.heap.objs.size + 2) (.ref s1.heap.objs.size) (.ref (s1.heap.objs.size + 1))) (a3 : IsPair h' (s1.heap.objs.size + 3) .none .none)
  (a4 : IsI1 h' s1.heap.objs.size l1 0) (a5 : IsI2 h' (s1.heap.objs.size + 1) l2 0) (k : ∀ b o,s1.heap.get? b = some o -> h'.get? b = some o) (q : R (zls c1 c2 X.K l1 l2) H1) :
  PIE X pins σ (.Tuple elts kt pt) R (.ref (s1.heap.objs.size + 4)) { s1 with heap := h' } := by
 have nn : ∀ i j : Nat,i ≠ j -> s1.heap.objs.size + i ≠ s1.heap.objs.size + j := fun i j h e => h (by exact Nat.add_left_cancel e)
 refine ⟨s1.heap.objs.size + 4,[s1.heap.objs.size + 4,s1.heap.objs.size + 2,s1.heap.objs.size + 3,s1.heap.objs.size,s1.heap.objs.size + 1],_,_,H1,rfl,I1.kept (t' := s1.toks) k,zlB S1 S2 (nn 3 4 (by decide)) (nn 2 4 (by decide)) (nn 0 4 (by decide)) (nn 1 4 (by decide)) (nn 2 3 (by decide)) (nn 2 0 (by decide)) (nn 2 1 (by decide)) (nn 0 3 (by decide)) (nn 1 3 (by decide)) (nn 0 1 (by decide)),⟨a1,a2,⟨_,_,a3⟩,a4,a5⟩,fun b hb => ?_,q⟩
 have le : s1.heap.objs.size <= b := by
  simp only [List.mem_cons,List.not_mem_nil,or_false] at hb
  rcases hb with h | h | h | h | h
  ·rw [h]; exact Nat.le_add_right _ _
  ·rw [h]; exact Nat.le_add_right _ _
  ·rw [h]; exact Nat.le_add_right _ _
  ·rw [h]; exact Nat.le_refl _
  ·rw [h]; exact Nat.le_add_right _ _
 exact I1.fpOk le (I1.hok.fresh le)
theorem zmb (hg : Gl X "zip") (hm : X.mg "zip" = none) (he1 : PE X e1 te1) (he2 : PE X e2 te2) (hs : autoParam (starEach [e1,e2] X.env = (false,eval e1 X.env) :: starEach [e2] X.env) AutoP.a3._auto_1) (hs2 : autoParam (starEach [e2] X.env = [(false,eval e2 X.env)]) AutoP.a3._auto_1) : PI X (.Tuple elts kt pt) (.Call (.Name "zip" p) [e1,e2] [] pos) (iZipQ SqT SqL X.K te1 te2) := by
 intro pins s σ H R I h
 refine Call_ (zdT I hg hm boot_zip (PyProof.Rows.callWith_type1 (thn (zbP he1 (zbP he2 zet hs2) hs pos pins s σ H (fun zs H1 => ∃ l1 l2 xs ys,zs = [V.ref l1,V.ref l2] /\ SqT X.K H1 l1 xs /\ SqL X.K H1 l2 ys /\ R (zls SqT SqL X.K l1 l2) H1) I h) fun us s1 ⟨vs,H1,I1,r1,q1⟩ => ?_) hs (by rw [hs2]; rfl)))
 obtain ⟨l1,l2,xs,ys,rfl,hl1,hl2,q⟩ := q1
 obtain ⟨u,v,rfl,ru,rv⟩ := zhv r1
 cases ru
 cases rv
 obtain ⟨its1,rv1,p1⟩ := sq_tup.seq X pins σ H1 s1 l1 xs I1 hl1
 obtain ⟨its2,rv2,p2⟩ := sq_lst.seq X pins σ H1 s1 l2 ys I1 hl2
 exact zjw p1 p2 fun h' a1 a2 a3 a4 a5 k => wpAny_pyIter_zip a1 (zjC sq_tup sq_lst I1 a1 a2 a3 a4 a5 k q)
theorem zma (hg : Gl X "zip") (hm : X.mg "zip" = none) (he1 : PE X e1 te1) (he2 : PE X e2 te2) (hs : autoParam (starEach [e1,e2] X.env = (false,eval e1 X.env) :: starEach [e2] X.env) AutoP.a3._auto_1) (hs2 : autoParam (starEach [e2] X.env = [(false,eval e2 X.env)]) AutoP.a3._auto_1) : PI X (.Tuple elts kt pt) (.Call (.Name "zip" p) [e1,e2] [] pos) (iZipQ SqT SqT X.K te1 te2) := by
 intro pins s σ H R I h
 refine Call_ (zdT I hg hm boot_zip (PyProof.Rows.callWith_type1 (thn (zbP he1 (zbP he2 zet hs2) hs pos pins s σ H (fun zs H1 => ∃ l1 l2 xs ys,zs = [V.ref l1,V.ref l2] /\ SqT X.K H1 l1 xs /\ SqT X.K H1 l2 ys /\ R (zls SqT SqT X.K l1 l2) H1) I h) fun us s1 ⟨vs,H1,I1,r1,q1⟩ => ?_) hs (by rw [hs2]; rfl)))
 obtain ⟨l1,l2,xs,ys,rfl,hl1,hl2,q⟩ := q1
 obtain ⟨u,v,rfl,ru,rv⟩ := zhv r1
 cases ru
 cases rv
 obtain ⟨its1,rv1,p1⟩ := sq_tup.seq X pins σ H1 s1 l1 xs I1 hl1
 obtain ⟨its2,rv2,p2⟩ := sq_tup.seq X pins σ H1 s1 l2 ys I1 hl2
 exact zjv p1 p2 fun h' a1 a2 a3 a4 a5 k => wpAny_pyIter_zip a1 (zjC sq_tup sq_tup I1 a1 a2 a3 a4 a5 k q)
end
end L2
set_option autoImplicit false
namespace MD
open PySem PySem.Spec PyProof.Rows L2
theorem Res.bind_assoc {α β γ : Type} (r : Res α) (k : α -> Sto -> Res β) (l : β -> Sto -> Res γ) : (r.bind k).bind l = r.bind fun a m => (k a m).bind l := by
 cases r <;> rfl
theorem Res.bind_ok' {α : Type} (r : Res α) : (r.bind fun a m => .ok a m) = r := by cases r <;> rfl
theorem RepL.append {K : PySem.W.Frag} {α : List Addr} {H : Hp} : ∀ {ds es : List D} {vs ws : List V},RepL K α H ds vs -> RepL K α H es ws -> RepL K α H (ds ++ es) (vs ++ ws)
 | [],_,_,_,h1,h2 => by rw [RepL] at h1; subst h1; exact h2
 | _ :: _,_,_,_,h1,h2 => by
  rw [RepL] at h1
  obtain ⟨v,r,rfl,a,b⟩ := h1
  rw [List.cons_append,RepL]
  exact ⟨v,r ++ _,rfl,a,RepL.append b h2⟩
theorem RepL.one {K : PySem.W.Frag} {α : List Addr} {H : Hp} {d : D} {v : V} (h : Rep K α H d v) : RepL K α H [d] [v] := by
 rw [RepL]
 exact ⟨v,[],rfl,h,by rw [RepL]⟩
theorem RepL.get {K : PySem.W.Frag} {α : List Addr} {H : Hp} : ∀ {ds : List D} {vs : List V} {i : Nat} {d : D},RepL K α H ds vs -> ds[i]? = some d -> ∃ v,vs[i]? = some v /\ Rep K α H d v
 | [],_,_,_,_,e => by simp at e
 | _ :: _,_,0,_,h,e => by
  rw [RepL] at h
  obtain ⟨v,r,rfl,a,b⟩ := h
  simp at e
  subst e
  exact ⟨v,rfl,a⟩
 | _ :: _,_,i + 1,d,h,e => by
  rw [RepL] at h
  obtain ⟨v,r,rfl,a,b⟩ := h
  obtain ⟨w,h1,h2⟩ := RepL.get (i := i) (d := d) b (by simpa using e)
  exact ⟨w,by simpa using h1,h2⟩
section
variable {K : PySem.W.Frag} {cl : Str -> Addr} {ex : XD} {gt : GV} {ta : TV} {fa : EV} {fr : AV}
theorem zjP {n : Nat} {fin : List V -> Hp -> Prop} {σ : L2.St} {H : Hp} (h : ∃ α ρ m,Wd K cl α m H /\ RepE K α H ρ σ /\ PQ K cl ex (zcw n fr gt ta fa ρ m) α H fun ds α' _ H' => ∀ vs,RepL K α' H' ds vs -> fin vs H') :
  zpI n (tDI K cl ex fr) (tDG K cl ex gt) (tDT K cl ex ta) (tD K cl ex fa) fin σ H := by
 obtain ⟨α,ρ,m,W,hr,h⟩ := h
 refine ⟨α,ρ,m,W,hr,PQ.mono (Ext.refl W) h.bind fun ds α1 m1 H1 E1 W1 q J hJ => ?_⟩
 obtain ⟨hk,q⟩ := PQ.if q
 have hr1 := hr.mono W E1
 refine znG (k := ds.length) (fun i ys H2 => ∃ α2 m2 done,Ext α1 H1 α2 H2 /\ Wd K cl α2 m2 H2 /\ RepL K α2 H2 done ys /\ done.length <= i /\ PQ K cl ex ((zen gt ta fa (ρ ++ List.replicate n none) (ds.drop i) m2).bind fun xs m4 => .ok (done ++ xs) m4) α2 H2 fun ds α' _ H' => ∀ vs,RepL K α' H' ds vs -> fin vs H') hk ?_ ?_ ?_ ?_
 ·refine ⟨α1,m1,[],Ext.refl W1,W1,by rw [RepL],Nat.le_refl _,?_⟩
  simp only [List.nil_append,List.drop_zero,Res.bind_ok']
  exact q
 ·rintro i ys H2 ⟨_,_,done,_,_,r,l,_⟩
  rw [<- r.length]
  exact l
 ·rintro i ys H2 hi ⟨α2,m2,done,E2,W2,r2,l2,q2⟩
  have hd : ds[i]? = some ds[i] := by simp [hi]
  obtain ⟨g1,g2⟩ := (hJ i α2 m2 H2 E2 W2).1 _ hd
  refine ⟨g1,fun x H3 y => ?_⟩
  obtain ⟨sm,rx⟩ := g2 x H3 y
  have Es := Ext.of_same W2 sm
  have W3 := W2.same sm
  rw [List.drop_eq_getElem_cons hi,zen,Res.bind_assoc] at q2
  have E23 := E2.trans Es
  refine ⟨α2,ρ ++ List.replicate n none,m2,ds[i],W3,(hr1.mono W1 E23).more n,rx,PQ.mono Es q2.bind fun ρ4 α4 m4 H4 E4 W4 q4 σ4 hr4 => ?_⟩
  rw [Res.bind_assoc] at q4
  refine tDT.use W4 hr4 q4 fun α5 m5 H5 b E5 W5 hr5 q5 => ?_
  have E45 := E4.trans E5
  cases b with
  | false => exact ⟨α5,m5,done,E23.trans E45,W5,(r2.mono W2 Es).mono W3 E45,Nat.le_succ_of_le l2,q5⟩
  | true =>
   have q5' : PQ K cl ex (((fa ρ4 m5).bind fun x m3 => (zen gt ta fa (ρ ++ List.replicate n none) (ds.drop (i + 1)) m3).bind fun xs m4 => .ok (x :: xs) m4).bind fun xs m4 => .ok (done ++ xs) m4) α5 H5 fun ds α' _ H' => ∀ vs,RepL K α' H' ds vs -> fin vs H' := q5
   rw [Res.bind_assoc] at q5'
   refine tD.use W5 hr5 q5' fun α6 m6 H6 d v E6 W6 hr6 rv q6 => ?_
   rw [Res.bind_assoc] at q6
   refine ⟨α6,m6,done ++ [d],E23.trans (E45.trans E6),W6,RepL.append (((r2.mono W2 Es).mono W3 E45).mono W5 E6) (RepL.one rv),by rw [List.length_append]; show done.length + 1 <= i + 1; omega,?_⟩
   simp only [List.append_assoc,List.singleton_append]
   exact q6
 ·rintro ys H2 ⟨α2,m2,done,E2,W2,r2,l2,q2⟩
  rw [List.drop_of_length_le (Nat.le_refl _),zen] at q2
  refine ⟨(hJ ds.length α2 m2 H2 E2 W2).2 rfl,?_⟩
  have q3 : PQ K cl ex (.ok (done ++ []) m2) α2 H2 fun ds α' _ H' => ∀ vs,RepL K α' H' ds vs -> fin vs H' := q2
  rw [List.append_nil] at q3
  exact PQ.ok W2 q3 ys r2
end
def gL1 (ds : List D) (m : Sto) : Res D := .ok (.lst ds) m
def zeN (z : Str) : List D := (List.range z.cps.size).map fun i => .str ⟨#[z.cps.getD i 0]⟩
def zjA (d : D) (m : Sto) : Res (List D) := match d with
 | .tup ds => .ok ds m
 | .lst ds => .ok ds m
 | .str z => .ok (zeN z) m
 | .scr ds => .ok ds m
 | _ => .bad
def aIt (fa : EV) : AV := fun ρ m => (fa ρ m).bind zjA
def zcD (lo : Int) (n : Nat) : List D := (List.range n).map fun i => .int (lo + (i : Nat))
def zpU (ds : List D) (m : Sto) : Res (List D) := match ds with
 | [.int j] => if -(2 ^ 62) <= j /\ j < 2 ^ 62 then .ok (zcD 0 j.toNat) m else .bad
 | _ => .bad
theorem zlT : ∃ f : List D -> Sto -> Res (List D),f = zpU := ⟨_,rfl⟩
def ziV : List D -> Sto -> Res (List D) := Classical.choose zlT
theorem zlU : ziV = zpU := Classical.choose_spec zlT
def zkB (g : List D -> Sto -> Res (List D)) (fr : AV) : AV := fun ρ m => (fr ρ m).bind g
def zbL (i : Nat) : List D -> List D
 | [] => []
 | d :: r => .tup [.int i,d] :: zbL (i + 1) r
def asSq2 (d : D) (m : Sto) : Res (List D) := match d with
 | .tup ds => .ok ds m
 | .lst ds => .ok ds m
 | _ => .bad
def zlq (fa : EV) : AV := fun ρ m => (fa ρ m).bind fun d m1 => (asSq2 d m1).bind fun ds m2 => .ok (zbL 0 ds) m2
def zjF : List D -> List D -> List D
 | x :: xs,y :: ys => .tup [x,y] :: zjF xs ys
 | _,_ => []
def zipD3 : List D -> List D -> List D -> List D
 | x :: xs,y :: ys,z :: zs => .tup [x,y,z] :: zipD3 xs ys zs
 | _,_,_ => []
def zo0 (x y : D) (m : Sto) : Res (List D) := match x,y with
 | .tup xs,.tup ys => if xs.length <= ys.length then .ok (zjF xs ys) m else .bad
 | .tup xs,.lst ys => if xs.length <= ys.length then .ok (zjF xs ys) m else .bad
 | _,_ => .bad
def aZip (fa fb : EV) : AV := fun ρ m => (fa ρ m).bind fun x m1 => (fb ρ m1).bind fun y m2 => zo0 x y m2
def zip3 (x y z : D) (m : Sto) : Res (List D) := match x,y,z with
 | .tup xs,.tup ys,.tup zs => if xs.length <= ys.length /\ xs.length <= zs.length then .ok (zipD3 xs ys zs) m else .bad
 | _,_,_ => .bad
def aZip3 (fa fb fc : EV) : AV := fun ρ m => (fa ρ m).bind fun x m1 => (fb ρ m1).bind fun y m2 => (fc ρ m2).bind fun z m3 => zip3 x y z m3
theorem ziy : ∀ (ds : List D) (k i : Nat) (d : D),(zbL k ds)[i]? = some d -> ∃ e,ds[i]? = some e /\ d = .tup [.int ((k + i : Nat) : Int),e]
 | [],k,i,d,h => by simp [zbL] at h
 | e :: r,k,0,d,h => by
  simp [zbL] at h
  exact ⟨e,rfl,h.symm⟩
 | e :: r,k,i + 1,d,h => by
  obtain ⟨f,h1,h2⟩ := ziy r (k + 1) i d (by simpa [zbL] using h)
  refine ⟨f,by simpa using h1,?_⟩
  rw [h2,show k + 1 + i = k + (i + 1) by omega]
theorem zix : ∀ (ds : List D) (k : Nat),(zbL k ds).length = ds.length
 | [],_ => rfl
 | _ :: r,k => by rw [zbL,List.length_cons,List.length_cons,zix r]
theorem zjE : ∀ (xs ys : List D) (i : Nat) (d : D),(zjF xs ys)[i]? = some d -> ∃ a b,xs[i]? = some a /\ ys[i]? = some b /\ d = .tup [a,b]
 | [],_,i,d,h => by simp [zjF] at h
 | _ :: _,[],i,d,h => by simp [zjF] at h
 | a :: r,b :: s,0,d,h => by
  simp [zjF] at h
  exact ⟨a,b,rfl,rfl,h.symm⟩
 | a :: r,b :: s,i + 1,d,h => by
  obtain ⟨x,y,h1,h2,h3⟩ := zjE r s i d (by simpa [zjF] using h)
  exact ⟨x,y,by simpa using h1,by simpa using h2,h3⟩
theorem zjD : ∀ (xs ys : List D),xs.length <= ys.length -> (zjF xs ys).length = xs.length
 | [],_,_ => by simp [zjF]
 | _ :: _,[],h => by simp at h
 | _ :: r,_ :: s,h => by rw [zjF,List.length_cons,List.length_cons,zjD r s (by simpa using h)]
section
variable {X : Cx} {N0 : List Str} {cl : Str -> Addr} {ex : XD} {a b c e tg it : Expr} {es ifs : List Expr} {fa fb fc : EV} {ta tb : TV} {fr : AV} {pos p : Pos} {gt : GV} {scope : Scope} {xs : List Str} {clo : List (Str × Addr)}
theorem zdo (hc : X.calm = true) (hx : X.xe = fun _ _ => False) (S : CompOk X N0 scope xs clo) (hi : QI X cl ex tg it fr)
  (hg : ∀ C s H fp,QG (X.comp N0 scope xs clo C s H fp) cl ex tg gt) (hf : ∀ C s H fp,PIf (X.comp N0 scope xs clo C s H fp) ifs (tDT X.K cl ex ta)) (he : ∀ C s H fp,QE (X.comp N0 scope xs clo C s H fp) cl ex e fa)
  (hs : autoParam (∀ x,foldedSetIterable it X.env x = pure x) AutoP.a2._auto_1) : QE X cl ex (.ListComp e [⟨tg,it,ifs,0⟩] scope pos) (eFn gL1 (zcw xs.length fr gt ta fa)) :=
 ⟨PE.weak (zqx (g := tDG X.K cl ex gt) (tf := tDT X.K cl ex ta) (te := tD X.K cl ex fa) hc hx S hi.out (fun C s H fp => (hg C s H fp).out) hf (fun C s H fp => (he C s H fp).out) hs) fun σ H Q hh => ex3 hh fun α ρ m W hr h => zjP ⟨α,ρ,m,W,hr,PQ.mono (Ext.refl W) h.bind fun ds α1 m1 H1 E1 W1 q vs rv p hp => PQ.okS W1 (Same.new hp) q _ (zb4 W1 hp rv)⟩⟩
theorem zpY {i : Nat} {y : Str} {py spos : Pos} (hc : X.calm = true) (hx : X.xe = fun _ _ => False) (hN : X.N.Nodup) (hy : X.N[i]? = some y) (hl : X.env.scope.names.lookup y = some .local) (S : CompOk X N0 scope xs clo) (hi : QI X cl ex tg it fr)
  (hg : ∀ C s H fp,QG (X.comp N0 scope xs clo C s H fp) cl ex tg gt) (hf : ∀ C s H fp,PIf (X.comp N0 scope xs clo C s H fp) ifs (tDT X.K cl ex ta)) (he : ∀ C s H fp,QE (X.comp N0 scope xs clo C s H fp) cl ex e fa)
  (hsw : autoParam (swapsWith (.ListComp e [⟨tg,it,ifs,0⟩] scope pos) (some (.Name y py)) spos.line X.env = pure true) AutoP.a4._auto_1)
  (hs : autoParam (∀ x,foldedSetIterable it X.env x = pure x) AutoP.a2._auto_1) : QS X cl ex (.Assign [.Name y py] (.ListComp e [⟨tg,it,ifs,0⟩] scope pos) spos) (zaB (eFn gL1 (zcw xs.length fr gt ta fa)) (gN i)) :=
 ⟨PS.weak (zqa (g := tDG X.K cl ex gt) (tf := tDT X.K cl ex ta) (te := tD X.K cl ex fa) hc hx hN hy hl S hi.out (fun C s H fp => (hg C s H fp).out) hf (fun C s H fp => (he C s H fp).out) hsw hs) fun D σ H hh => ex3 hh fun α ρ m W hr h => zjP ⟨α,ρ,m,W,hr,by
  have h2 : PQ X.K cl ex (((zcw xs.length fr gt ta fa ρ m).bind gL1).bind fun d m1 => (gN i d ρ m1).bind fun ρ1 m2 => .ok (.nx ρ1) m2) α H fun fl α' _ H' => zeL X.K D fl α' H' := h
  rw [Res.bind_assoc] at h2
  exact PQ.mono (Ext.refl W) h2.bind fun ds α1 m1 H1 E1 W1 q vs rv p hp => PQ.okS W1 (Same.new hp) (show PQ X.K cl ex (.ok (.nx (ρ.set i (some (.lst ds)))) m1) α1 H1 fun fl α' _ H' => zeL X.K D fl α' H' from q) _ (((hr.mono W E1).mono W1 (Ext.of_same W1 (Same.new hp))).set (zb4 W1 hp rv))⟩⟩
theorem zcI : PIf X [] (tDT X.K cl ex zcG) := fun pins s σ H Q I hh => ex3 hh fun α ρ m W hr h => zqp pins s σ H Q I (PQ.ok W h)
theorem ziW (hq : QT X cl ex c ta) : PIf X [c] (tDT X.K cl ex ta) := zqo hq.out
theorem PI.or {t t' : TI} (h : PI X tg it t) (h' : PI X tg it t') : PI X tg it fun σ H R => t σ H R ∨ t' σ H R := fun pins s σ H R I q => q.elim (h pins s σ H R I) (h' pins s σ H R I)
end
section
variable {K : PySem.W.Frag} {cl : Str -> Addr} {ex : XD} {α α' : List Addr} {m m1 : Sto} {H H' : Hp} {ρ : En} {σ : L2.St}
theorem tD.at {f : EV} {d : D} {Q : VK} (W : Wd K cl α m H) (hr : RepE K α H ρ σ) (hf : f ρ m = .ok d m1) (hQ : ∀ α1 H1 v,Ext α H α1 H1 -> Wd K cl α1 m1 H1 -> RepE K α1 H1 ρ σ -> Rep K α1 H1 d v -> Q v H1) : tD K cl ex f σ H Q :=
 ⟨α,ρ,m,W,hr,by rw [hf]; exact fun α1 H1 E1 W1 v rv => hQ α1 H1 v E1 W1 (hr.mono W E1) rv⟩
theorem tDA.at {f : AV} {d : List D} {Q : List V -> Hp -> Prop} (W : Wd K cl α m H) (hr : RepE K α H ρ σ) (hf : f ρ m = .ok d m1) (hQ : ∀ α1 H1 v,Ext α H α1 H1 -> Wd K cl α1 m1 H1 -> RepE K α1 H1 ρ σ -> RepL K α1 H1 d v -> Q v H1) : tDA K cl ex f σ H Q :=
 ⟨α,ρ,m,W,hr,by rw [hf]; exact fun α1 H1 E1 W1 v rv => hQ α1 H1 v E1 W1 (hr.mono W E1) rv⟩
theorem tD.exc {f : EV} {τ : Type} {c : Exc} {k : D -> Sto -> Res τ} {R : RD τ} {Q : VK} (W : Wd K cl α m H) (hr : RepE K α H ρ σ) (hf : f ρ m = .exc c m1) (q : PQ K cl ex ((f ρ m).bind k) α H R) : tD K cl ex f σ H Q :=
 ⟨α,ρ,m,W,hr,by rw [hf] at q ⊢; exact q⟩
theorem tDA.exc {f : AV} {τ : Type} {c : Exc} {k : List D -> Sto -> Res τ} {R : RD τ} {Q : List V -> Hp -> Prop} (W : Wd K cl α m H) (hr : RepE K α H ρ σ) (hf : f ρ m = .exc c m1) (q : PQ K cl ex ((f ρ m).bind k) α H R) : tDA K cl ex f σ H Q :=
 ⟨α,ρ,m,W,hr,by rw [hf] at q ⊢; exact q⟩
theorem itd_l {l : Addr} {ds : List D} {vs : List V} (W : Wd K cl α m H) (n : l ∉ α) (h : Rd H l (.lst vs)) (r : RepL K α H ds vs) : ItD K cl α H (Itl K l) ds := fun i α1 m1 H1 E1 W1 => by
 have sq : SqL K H1 l vs := .inl (E1.rd h n)
 refine ⟨fun d e => ?_,fun e => ⟨vs,sq,by rw [e,r.length]; exact Nat.le_refl _⟩⟩
 obtain ⟨v,h1,h2⟩ := (r.mono W E1).get e
 refine ⟨⟨vs,v,sq,h1⟩,fun x H2 y => ?_⟩
 obtain ⟨rfl,y⟩ := y
 have := y vs sq
 rw [h1] at this
 cases this
 exact ⟨Same.refl _,h2⟩
theorem itd_s {l : Addr} {ds : List D} {vs : List V} (W : Wd K cl α m H) (h : LstAt K α H l vs) (r : RepL K α H ds vs) : ItD K cl α H (Itl K l) ds := fun i α1 m1 H1 E1 W1 => by
 have sq : SqL K H1 l vs := ((E1.kp W).lstAt h).sq
 refine ⟨fun d e => ?_,fun e => ⟨vs,sq,by rw [e,r.length]; exact Nat.le_refl _⟩⟩
 obtain ⟨v,h1,h2⟩ := (r.mono W E1).get e
 refine ⟨⟨vs,v,sq,h1⟩,fun x H2 y => ?_⟩
 obtain ⟨rfl,y⟩ := y
 have := y vs sq
 rw [h1] at this
 cases this
 exact ⟨Same.refl _,h2⟩
theorem itd_t {l : Addr} {ds : List D} {vs : List V} (W : Wd K cl α m H) (h : SqT K H l vs) (r : RepL K α H ds vs) : ItD K cl α H (Itt K l) ds := fun i α1 m1 H1 E1 W1 => by
 have sq : SqT K H1 l vs := E1.sqt W h
 refine ⟨fun d e => ?_,fun e => ⟨vs,sq,by rw [e,r.length]; exact Nat.le_refl _⟩⟩
 obtain ⟨v,h1,h2⟩ := (r.mono W E1).get e
 refine ⟨⟨vs,v,sq,h1⟩,fun x H2 y => ?_⟩
 obtain ⟨rfl,y⟩ := y
 have := y vs sq
 rw [h1] at this
 cases this
 exact ⟨Same.refl _,h2⟩
theorem itd_f {f : Nat -> V} {g : Nat -> D} {n : Nat} (hg : ∀ i α H,Rep K α H (g i) (f i)) : ItD K cl α H (Itf f n) ((List.range n).map g) := fun i α1 m1 H1 E1 W1 => by
 refine ⟨fun d e => ?_,fun e => by rw [List.length_map,List.length_range] at e; exact e⟩
 obtain ⟨hi,e⟩ := List.getElem?_eq_some_iff.mp e
 rw [List.length_map,List.length_range] at hi
 simp only [List.getElem_map,List.getElem_range] at e
 subst e
 refine ⟨hi,fun x H2 y => ?_⟩
 obtain ⟨rfl,rfl⟩ := y
 exact ⟨Same.refl _,hg _ _ _⟩
theorem itd_r {lo : Int} {n : Nat} : ItD K cl α H (Itr lo n) (zcD lo n) := fun i α1 m1 H1 E1 W1 => by
 unfold zcD
 refine ⟨fun d e => ?_,fun e => by rw [List.length_map,List.length_range] at e; exact Nat.le_of_eq e.symm⟩
 obtain ⟨hi,e⟩ := List.getElem?_eq_some_iff.mp e
 rw [List.length_map,List.length_range] at hi
 simp only [List.getElem_map,List.getElem_range] at e
 subst e
 refine ⟨hi,fun x H2 y => ?_⟩
 obtain ⟨rfl,rfl⟩ := y
 exact ⟨Same.refl _,by rw [Rep]⟩
theorem zbv {T : Addr} {ds : List D} {vs : List V} (W : Wd K cl α m H) (hT : H T = none) (r : RepL K α H ds vs) : Rep K α (upd H T (.tup vs)) (.tup ds) (.ref T) := by
 rw [Rep]
 exact ⟨T,vs,rfl,.inl zax,r.mono W (Ext.of_same W (Same.new hT))⟩
theorem RepL.two {d e : D} {v w : V} (h : Rep K α H d v) (h' : Rep K α H e w) : RepL K α H [d,e] [v,w] := RepL.append (RepL.one h) (RepL.one h')
def znQ (K : PySem.W.Frag) (cl : Str -> Addr) (c : CQ) (α : List Addr) (H : Hp) (l : Addr) (vs : List V) : Prop := ∀ α1 m1 H1,Ext α H α1 H1 -> Wd K cl α1 m1 H1 -> c K H1 l vs
theorem itd_e {c : CQ} {l : Addr} {ds : List D} {vs : List V} (W : Wd K cl α m H) (h : znQ K cl c α H l vs) (r : RepL K α H ds vs) : ItD K cl α H (IteQ c K l) (zbL 0 ds) := fun i α1 m1 H1 E1 W1 => by
 have sq := h α1 m1 H1 E1 W1
 refine ⟨fun d e => ?_,fun e => ⟨vs,sq,by rw [e,zix,r.length]⟩⟩
 obtain ⟨f,h1,rfl⟩ := ziy ds 0 i d e
 obtain ⟨v,h2,h3⟩ := (r.mono W E1).get h1
 refine ⟨⟨vs,v,sq,h2⟩,fun x H2 y => ?_⟩
 obtain ⟨T,y,hT,rfl,hy,rfl⟩ := y
 have := hy vs sq
 rw [h2] at this
 cases this
 refine ⟨Same.new hT,zbv W1 hT (RepL.two (by rw [Rep,Nat.zero_add]) h3)⟩
theorem itd_z {c1 c2 : CQ} {l1 l2 : Addr} {xs ys : List D} {vs us : List V} (W : Wd K cl α m H) (h : znQ K cl c1 α H l1 vs) (h' : znQ K cl c2 α H l2 us) (r : RepL K α H xs vs) (r' : RepL K α H ys us) (hl : xs.length <= ys.length) : ItD K cl α H (zls c1 c2 K l1 l2) (zjF xs ys) := fun i α1 m1 H1 E1 W1 => by
 have sq := h α1 m1 H1 E1 W1
 have sq' := h' α1 m1 H1 E1 W1
 refine ⟨fun d e => ?_,fun e => ⟨vs,sq,by rw [e,zjD _ _ hl,r.length]⟩⟩
 obtain ⟨x,y,h1,h2,rfl⟩ := zjE xs ys i d e
 obtain ⟨v,h3,h4⟩ := (r.mono W E1).get h1
 obtain ⟨u,h5,h6⟩ := (r'.mono W E1).get h2
 refine ⟨⟨vs,us,v,u,sq,sq',h3,h5⟩,fun x H2 y => ?_⟩
 obtain ⟨T,x,y,hT,rfl,hx,hy,rfl⟩ := y
 have e1 := hx vs sq
 have e2 := hy us sq'
 rw [h3] at e1
 rw [h5] at e2
 cases e1
 cases e2
 exact ⟨Same.new hT,zbv W1 hT (RepL.two h4 h6)⟩
theorem zgO {l : Addr} {vs : List V} (W : Wd K cl α m H) (h : SqT K H l vs) : znQ K cl SqT α H l vs := fun α1 m1 H1 E1 W1 => E1.sqt W h
theorem zlI {l : Addr} {vs : List V} (n : l ∉ α) (h : Rd H l (.lst vs)) : znQ K cl SqL α H l vs := fun α1 m1 H1 E1 W1 => .inl (E1.rd h n)
end
section
variable {X : Cx} {cl : Str -> Addr} {ex : XD} {a b c e tg it : Expr} {es ifs : List Expr} {fa fb fc : EV} {ta tb : TV} {fr : AV} {pos p : Pos} {gt : GV}
theorem zdM (hq : QE X cl ex e fa) : QI X cl ex tg e (aIt fa) :=
 ⟨PI.weak (PI.or (zqr hq.out) (PI.or (pi_tup hq.out) (pi_txt hq.out))) fun σ H R hh => ex3 hh fun α ρ m W hr q => by
  unfold aIt at q
  cases hf : fa ρ m with
  | bad => rw [hf] at q; exact q.elim
  | exc c m1 => exact .inl (tD.exc W hr hf q)
  | ok d m1 =>
   rw [hf] at q
   cases d with
   | lst ds =>
    refine .inl (tD.at W hr hf fun α1 H1 v E1 W1 hr1 rv => ?_)
    rw [Rep] at rv
    obtain ⟨l,vs,rfl,n,h1,h2⟩ := rv
    exact ⟨l,rfl,⟨vs,.inl h1⟩,q α1 H1 E1 W1 _ (itd_l W1 n h1 h2)⟩
   | tup ds =>
    refine .inr (.inl (tD.at W hr hf fun α1 H1 v E1 W1 hr1 rv => ?_))
    rw [Rep] at rv
    obtain ⟨l,vs,rfl,h1,h2⟩ := rv
    exact ⟨l,rfl,⟨vs,h1.sq⟩,q α1 H1 E1 W1 _ (itd_t W1 h1.sq h2)⟩
   | str z =>
    refine .inr (.inr (tD.at W hr hf fun α1 H1 v E1 W1 hr1 rv => ?_))
    rw [Rep] at rv
    exact ⟨z,rv,q α1 H1 E1 W1 _ (itd_f fun i α H => by rw [Rep]; rfl)⟩
   | scr ds =>
    refine .inl (tD.at W hr hf fun α1 H1 v E1 W1 hr1 rv => ?_)
    rw [Rep] at rv
    obtain ⟨l,vs,rfl,h1,h2⟩ := rv
    exact ⟨l,rfl,⟨vs,h1.sq⟩,q α1 H1 E1 W1 _ (itd_s W1 h1 h2)⟩
   | _ => exact q.elim⟩
theorem zcs (hg : Gl X "range") (hm : X.mg "range" = none) (ha : QA X cl ex [a] fr) (hs : autoParam (starEach [a] X.env = [(false,eval a X.env)]) AutoP.a3._auto_1) : QI X cl ex tg (.Call (.Name "range" p) [a] [] pos) (zkB ziV fr) :=
 ⟨PI.weak (zmc hg hm ha.out hs) fun σ H R hh => ex3 hh fun α ρ m W hr q => tDA.use W hr q fun α1 m1 H1 d v E1 W1 hr1 rv q1 => by
  rw [zlU] at q1; unfold zpU at q1
  split at q1
  ·obtain ⟨h1,h2⟩ := PQ.if q1
   rw [RepL] at rv
   obtain ⟨v,r,rfl,a1,a2⟩ := rv
   rw [Rep] at a1
   rw [RepL] at a2
   subst a1 a2
   exact ⟨_,rfl,h1.1,h1.2,PQ.ok W1 h2 _ itd_r⟩
  ·exact q1.elim⟩
variable {elts : List Expr} {kt : Nat} {pt : Pos}
theorem ziX (hg : Gl X "enumerate") (hm : X.mg "enumerate" = none) (hq : QE X cl ex e fa) (hs : autoParam (starEach [e] X.env = [(false,eval e X.env)]) AutoP.a3._auto_1) : QI X cl ex (.Tuple elts kt pt) (.Call (.Name "enumerate" p) [e] [] pos) (zlq fa) :=
 ⟨PI.weak (PI.or (zme hg hm hq.out hs) (zmd hg hm hq.out hs)) fun σ H R hh => ex3 hh fun α ρ m W hr q => by
  unfold zlq at q
  cases hf : fa ρ m with
  | bad => rw [hf] at q; exact q.elim
  | exc c m1 => exact .inl (tD.exc W hr hf q)
  | ok d m1 =>
   rw [hf] at q
   cases d with
   | lst ds =>
    refine .inl (tD.at W hr hf fun α1 H1 v E1 W1 hr1 rv => ?_)
    rw [Rep] at rv
    obtain ⟨l,vs,rfl,n,h1,h2⟩ := rv
    exact ⟨l,vs,rfl,.inl h1,q α1 H1 E1 W1 _ (itd_e W1 (zlI n h1) h2)⟩
   | tup ds =>
    refine .inr (tD.at W hr hf fun α1 H1 v E1 W1 hr1 rv => ?_)
    rw [Rep] at rv
    obtain ⟨l,vs,rfl,h1,h2⟩ := rv
    exact ⟨l,vs,rfl,h1.sq,q α1 H1 E1 W1 _ (itd_e W1 (zgO W1 h1.sq) h2)⟩
   | _ => exact q.elim⟩
theorem qi_zip (hg : Gl X "zip") (hm : X.mg "zip" = none) (h1 : QE X cl ex a fa) (h2 : QE X cl ex b fb) (hs : autoParam (starEach [a,b] X.env = (false,eval a X.env) :: starEach [b] X.env) AutoP.a3._auto_1) (hs2 : autoParam (starEach [b] X.env = [(false,eval b X.env)]) AutoP.a3._auto_1) : QI X cl ex (.Tuple elts kt pt) (.Call (.Name "zip" p) [a,b] [] pos) (aZip fa fb) :=
 ⟨PI.weak (PI.or (zmb hg hm h1.out h2.out hs hs2) (zma hg hm h1.out h2.out hs hs2)) fun σ H R hh => ex3 hh fun α ρ m W hr q => by
  unfold aZip at q
  cases hf : fa ρ m with
  | bad => rw [hf] at q; exact q.elim
  | exc c m1 => exact .inl (tD.exc W hr hf q)
  | ok d m1 =>
   cases hf2 : fb ρ m1 with
   | bad => rw [hf] at q; exact absurd q (by show ¬ PQ X.K cl ex ((fb ρ m1).bind _) _ _ _; rw [hf2]; exact fun z => z)
   | exc c m2 =>
    refine .inl (tD.at W hr hf fun α1 H1 v E1 W1 hr1 rv => ?_)
    rw [hf] at q
    exact tD.exc (k := fun y m2 => zo0 d y m2) W1 hr1 hf2 (PQ.mono E1 q fun _ _ _ _ _ _ z => z)
   | ok d2 m2 =>
    rw [hf] at q
    have q' : PQ X.K cl ex ((fb ρ m1).bind fun y m2 => zo0 d y m2) α H fun ds α' _ H' => ∀ J,ItD X.K cl α' H' J ds -> R J H' := q
    rw [hf2] at q'
    have q2 : PQ X.K cl ex (zo0 d d2 m2) α H fun ds α' _ H' => ∀ J,ItD X.K cl α' H' J ds -> R J H' := q'
    unfold zo0 at q2
    split at q2
    ·obtain ⟨hl,q3⟩ := PQ.if q2
     refine .inr (tD.at W hr hf fun α1 H1 v E1 W1 hr1 rv => tD.at W1 hr1 hf2 fun α2 H2 v2 E2 W2 hr2 rv2 => ?_)
     have rv := rv.mono W1 E2
     rw [Rep] at rv rv2
     obtain ⟨l1,vs,rfl,h1,r1⟩ := rv
     obtain ⟨l2,us,rfl,h2,r2⟩ := rv2
     exact ⟨l1,l2,vs,us,rfl,h1.sq,h2.sq,q3 α2 H2 (E1.trans E2) W2 _ (itd_z W2 (zgO W2 h1.sq) (zgO W2 h2.sq) r1 r2 hl)⟩
    ·obtain ⟨hl,q3⟩ := PQ.if q2
     refine .inl (tD.at W hr hf fun α1 H1 v E1 W1 hr1 rv => tD.at W1 hr1 hf2 fun α2 H2 v2 E2 W2 hr2 rv2 => ?_)
     have rv := rv.mono W1 E2
     rw [Rep] at rv; rw [Rep] at rv2
     obtain ⟨l1,vs,rfl,h1,r1⟩ := rv
     obtain ⟨l2,us,rfl,n,h2,r2⟩ := rv2
     exact ⟨l1,l2,vs,us,rfl,h1.sq,.inl h2,q3 α2 H2 (E1.trans E2) W2 _ (itd_z W2 (zgO W2 h1.sq) (zlI n h2) r1 r2 hl)⟩
    ·exact q2.elim⟩
end
def zkp (fl : Fl) (m : Sto) : Res D := match fl with
 | .nx _ => .ok .non m
 | .rt d => .ok d m
 | _ => .bad
def zbf (n : Nat) (body : SV) : List D -> Sto -> Res D := fun ds m => (body (ds.map some ++ List.replicate (n - ds.length) none) m).bind zkp
def spD (K : PySem.W.Frag) (cl : Str -> Addr) (ex : XD) (n : Nat) (g : List D -> Sto -> Res D) : Sp := fun vs H Q _ => vs.length = n /\ ∃ α m ds,Wd K cl α m H /\ RepL K α H ds vs /\ PQ K cl ex (g ds m) α H fun d α' _ H' => ∀ v,Rep K α' H' d v -> Q v H'
theorem zkS {K : PySem.W.Frag} {α : List Addr} {H : Hp} {N : List Str} : ∀ {ds : List D} {vs : List V},RepL K α H ds vs -> RepE K α H (ds.map some ++ List.replicate (N.length - ds.length) none) (L2.start N vs) := by
 intro ds vs r
 unfold L2.start
 rw [r.length]
 refine RepE.more ⟨by rw [List.length_map,List.length_map,r.length],fun i d e => ?_⟩ _
 rw [List.getElem?_map] at e
 cases h : ds[i]? with
 | none => rw [h] at e; cases e
 | some d' =>
  rw [h] at e
  cases e
  obtain ⟨v,h1,h2⟩ := r.get h
  exact ⟨v,by rw [List.getElem?_map,h1]; rfl,h2⟩
theorem fn_d {K : PySem.W.Frag} {cl : Str -> Addr} {ex : XD} {n : Nat} {N : List Str} {body : SV} {vs : List V} {H : Hp} {Q : VK} {E : XK} (h : spD K cl ex n (zbf N.length body) vs H Q E) : tDS K cl ex body { nx := fun _ H' => Q .non H',rt := Q } (L2.start N vs) H := by
 obtain ⟨_,α,m,ds,W,r,q⟩ := h
 refine ⟨α,_,m,W,zkS r,PQ.mono (Ext.refl W) q.bind fun fl α1 m1 H1 E1 W1 q1 => ?_⟩
 cases fl with
 | nx ρ => exact fun σ _ => PQ.ok W1 q1 _ (by rw [Rep])
 | rt d => exact PQ.ok W1 q1
 | bk ρ => exact q1.elim
 | ct ρ => exact q1.elim
def X0 : XD := fun _ _ _ _ => False
theorem zp3 {X : Cx} {cl : Str -> Addr} {e : Expr} {es : List Expr} {fr : AV} {p pos : Pos} {x : Str} {k n : Nat} {f : Addr} {fd : FuncData} {ps : List Str} {g : List D -> Sto -> Res D} (F : FnOk X.prog X.w X.K X.mg X.base CX0 k f fd ps (spD X.K cl X0 n g)) (hn : n = (e :: es).length) (hr : Room k X.A) (hg : Gl X x) (hm : X.mg x = some (.ref f)) (hk : PySem.W.keepIn X.K (.ref f) = true) (hb : Binds X.K fd ps [])
  (ha : QA X cl X0 (e :: es) fr) (hlen : ∀ ρ m ds m1,fr ρ m = .ok ds m1 -> ds.length = (e :: es).length) (hdb : autoParam ((x == ("__debug__" : Str)) = false) AutoP.a1._auto_1) (he : autoParam (starEach (e :: es) X.env = (false,eval e X.env) :: starEach es X.env) AutoP.a3._auto_1) (hpl : autoParam ((backTo pos (starEach es X.env)).any (·.1) = false) AutoP.a3._auto_1) :
  QE X cl X0 (.Call (.Name x p) (e :: es) [] pos) (eFn g fr) :=
 ⟨PE.weak (zqz (E := E0) F hr hg hm hk hb .nil zot ha.out hdb he hpl) fun σ H Q hh => ex3 hh fun α ρ m W hr h => by
  unfold eFn at h
  cases hf : fr ρ m with
  | bad => rw [hf] at h; exact h.elim
  | exc c m1 => exact tDA.exc W hr hf h
  | ok ds m1 =>
   rw [hf] at h
   refine tDA.at W hr hf fun α1 H1 v E1 W1 hr1 rv => ?_
   refine ⟨?_,α1,m1,ds,W1,by rw [List.append_nil]; exact rv,PQ.mono E1 h fun _ _ _ _ _ _ z => z⟩
   rw [List.append_nil,<- rv.length,hlen ρ m ds m1 hf,hn]⟩
theorem aNil_len : ∀ ρ m ds m1,zaj ρ m = .ok ds m1 -> ds.length = ([] : List Expr).length := fun ρ m ds m1 h => by cases h; rfl
theorem aCons_len {fa : EV} {fr : AV} {e : Expr} {es : List Expr} (h : ∀ ρ m ds m1,fr ρ m = .ok ds m1 -> ds.length = es.length) : ∀ ρ m ds m1,zac fa fr ρ m = .ok ds m1 -> ds.length = (e :: es).length := fun ρ m ds m1 q => by
 unfold zac at q
 cases hf : fa ρ m with
 | ok x m2 =>
  rw [hf] at q
  have q : ((fr ρ m2).bind fun xs m3 => Res.ok (x :: xs) m3) = .ok ds m1 := q
  cases hr : fr ρ m2 with
  | ok xs m3 => rw [hr] at q; cases q; rw [List.length_cons,List.length_cons,h ρ m2 xs _ hr]
  | _ => rw [hr] at q; cases q
 | _ => rw [hf] at q; cases q
end MD
set_option autoImplicit false
namespace L2
open PySem PySem.Spec PyProof.Rows
section
variable {X : Cx}
def rCatQ (K : PySem.W.Frag) : R2 := fun x y H Q => ∃ a b xs ys,x = .ref a /\ y = .ref b /\ MD.TupAt K H a xs /\ MD.TupAt K H b ys /\ xs.length + ys.length <= sizeLine /\ ∀ r H',MD.TupAt K H' r (xs ++ ys) -> Same H H' -> Q (.ref r) H'
end
end L2
namespace MD
open PySem PySem.Spec PyProof.Rows L2
def za2 (x y : D) (m : Sto) : Res D := match x,y with
 | .int i,.int j => .ok (.int (i + j)) m
 | .str a,.str b => if a.length + b.length <= sizeLine then .ok (.str (a ++ b)) m else .bad
 | .tup a,.tup b => if a.length + b.length <= sizeLine then .ok (.tup (a ++ b)) m else .bad
 | .lst a,.lst b => if a.length + b.length <= sizeLine then .ok (.lst (a ++ b)) m else .bad
 | _,_ => .bad
def zfY (x y : D) (m : Sto) : Res D := match x,y with
 | .int i,.int j => .ok (.int (i - j)) m
 | _,_ => .bad
def mulR (x y : D) (m : Sto) : Res D := match x,y with
 | .int i,.int j => if (-(2 ^ 64) < i /\ i < 2 ^ 64) ∨ (-(2 ^ 64) < j /\ j < 2 ^ 64) then .ok (.int (i * j)) m else .bad
 | .str z,.int n => if 0 <= n /\ n <= 1000 /\ z.length <= 1000 then .ok (.str (Txt.mul z n)) m else .bad
 | .tup [d],.int n => if 1 <= n /\ n <= 1000 then .ok (.tup (List.replicate n.toNat d)) m else .bad
 | _,_ => .bad
theorem zmI : ∃ f : D -> D -> Sto -> Res D,f = mulR := ⟨_,rfl⟩
def zc2 : D -> D -> Sto -> Res D := Classical.choose zmI
theorem zfy : zc2 = mulR := Classical.choose_spec zmI
def zra (x y : D) (m : Sto) : Res D := match x,y with
 | .int i,.int j => if 0 < j /\ j < 2 ^ 64 then .ok (.int (i / j)) m else .bad
 | _,_ => .bad
theorem zkq : ∃ f : D -> D -> Sto -> Res D,f = zra := ⟨_,rfl⟩
def zhn : D -> D -> Sto -> Res D := Classical.choose zkq
theorem zkr : zhn = zra := Classical.choose_spec zkq
def zc7 (x y : D) (m : Sto) : Res D := match x,y with
 | .int i,.int j => if 0 < j then .ok (.int (i % j)) m else .bad
 | _,_ => .bad
def zqf (x y : D) (m : Sto) : Res D := match x,y with
 | .int i,.int j => if 0 <= j /\ j <= 1000000 /\ i.natAbs < 2 ^ 64 then .ok (.int (i ^ j.toNat)) m else .bad
 | _,_ => .bad
theorem zl6 : ∃ f : D -> D -> Sto -> Res D,f = zqf := ⟨_,rfl⟩
def zj4 : D -> D -> Sto -> Res D := Classical.choose zl6
theorem zfo : zj4 = zqf := Classical.choose_spec zl6
def shlR (x y : D) (m : Sto) : Res D := match x,y with
 | .int i,.int j => if 0 <= j /\ j <= 1000000 /\ i.natAbs < 2 ^ 64 then .ok (.int (i * 2 ^ j.toNat)) m else .bad
 | _,_ => .bad
theorem zlL : ∃ f : D -> D -> Sto -> Res D,f = shlR := ⟨_,rfl⟩
def zhD : D -> D -> Sto -> Res D := Classical.choose zlL
theorem zlM : zhD = shlR := Classical.choose_spec zlL
def negD (x : D) (m : Sto) : Res D := match x with
 | .int i => .ok (.int (-i)) m
 | _ => .bad
section
variable {X : Cx} {K : PySem.W.Frag} {cl : Str -> Addr} {ex : XD}
theorem zeP {α : List Addr} {H : Hp} {i : Int} : Rep K α H (.int i) (.int i) := by rw [Rep]
theorem repS {α : List Addr} {H : Hp} {i : Str} : Rep K α H (.str i) (.str i) := by rw [Rep]
theorem zjY {α : List Addr} {H : Hp} {i : Bool} : Rep K α H (.bl i) (.bl i) := by rw [Rep]
theorem repN {α : List Addr} {H : Hp} : Rep K α H .non .non := by rw [Rep]
theorem zbR : OpD K cl ex (rI0 fun i j => .int (i - j)) zfY := fun α m H x y vx vy Q W rx ry h => by
 unfold zfY at h
 split at h
 ·rw [Rep] at rx ry; exact ⟨_,_,rx,ry,PQ.ok W h _ zeP⟩
 ·exact h.elim
theorem zja : OpD K cl ex (rI (fun _ j => 0 < j /\ j < 2 ^ 64) fun i j => .int (i / j)) zhn := fun α m H x y vx vy Q W rx ry h => by
 rw [zkr] at h; unfold zra at h
 split at h
 ·rw [Rep] at rx ry; obtain ⟨hc,h⟩ := PQ.if h; exact ⟨_,_,rx,ry,hc,PQ.ok W h _ zeP⟩
 ·exact h.elim
theorem zbe : OpD K cl ex (rI (fun _ j => 0 < j) fun i j => .int (i % j)) zc7 := fun α m H x y vx vy Q W rx ry h => by
 unfold zc7 at h
 split at h
 ·rw [Rep] at rx ry; obtain ⟨hc,h⟩ := PQ.if h; exact ⟨_,_,rx,ry,hc,PQ.ok W h _ zeP⟩
 ·exact h.elim
theorem zew : OpD K cl ex (rI CPow fun i j => .int (i ^ j.toNat)) zj4 := fun α m H x y vx vy Q W rx ry h => by
 rw [zfo] at h; unfold zqf at h
 split at h
 ·rw [Rep] at rx ry; obtain ⟨hc,h⟩ := PQ.if h; exact ⟨_,_,rx,ry,hc,PQ.ok W h _ zeP⟩
 ·exact h.elim
theorem zcL : OpD K cl ex (rI CPow fun i j => .int (i * 2 ^ j.toNat)) zhD := fun α m H x y vx vy Q W rx ry h => by
 rw [zlM] at h; unfold shlR at h
 split at h
 ·rw [Rep] at rx ry; obtain ⟨hc,h⟩ := PQ.if h; exact ⟨_,_,rx,ry,hc,PQ.ok W h _ zeP⟩
 ·exact h.elim
theorem zo2 : UnD K cl ex (rU fun i => .int (-i)) negD := fun α m H x vx Q W rx h => by
 unfold negD at h
 split at h
 ·rw [Rep] at rx; exact ⟨_,rx,PQ.ok W h _ zeP⟩
 ·exact h.elim
theorem zqJ : OpR X (binaryOp .Add) (rCatQ X.K) := by
 intro pins s σ H x y v u Q I rx ry h
 obtain ⟨a,b,xs,ys,rfl,rfl,ha,hb,hz,q⟩ := h
 by_cases hx : xs = []
 ·subst hx
  cases rx
  cases ry
  obtain ⟨its,r1,p1,_⟩ := I.tuple ha.sq
  obtain ⟨its2,r2,p2,_⟩ := I.tuple hb.sq
  cases r1
  obtain ⟨⟨cls,dd,data,sl⟩,ho,hc,n,hd⟩ := id p1
  obtain ⟨⟨cls2,dd2,data2,sl2⟩,ho2,hc2,n2,hd2⟩ := id p2
  simp only at hc hd hc2 hd2
  subst hc hd hc2 hd2
  exact concat_meets ⟨_,ho,rfl⟩ ⟨_,ho2,rfl⟩ noFill_tuple_add seq_tuple_add PySem.F.slot_tuple_add PySem.F.entry_tuple_add (PySem.F.args_tuple_add_2 _ _)
   (tuple_addW0 a b #[] its2.toArray n n2 dd dd2 sl sl2 rfl) ⟨ho,ho2,⟨.ref b,H,I,rfl,q b H (by rw [List.nil_append]; exact hb) (L2.Same.refl H)⟩⟩
 ·refine zqH pins s σ H (.ref a) (.ref b) v u Q I rx ry ⟨a,b,xs,ys,rfl,rfl,ha.sq,hb.sq,hx,hz,fun e => ?_,fun _ p hp => ?_⟩
  ·subst e
   exact q a H (by rw [List.append_nil]; exact ha) (L2.Same.refl H)
  ·exact q p _ (.inl zax) (MD.Same.new hp)
def rCatR : R2 := fun x y H Q => ∃ l b xs zs,x = .ref l /\ y = .ref b /\ Rd H l (.lst xs) /\ Rd H b (.lst zs) /\ xs.length + zs.length <= sizeLine /\ ∀ p,H p = none -> Q (.ref p) (upd H p (.lst (xs ++ zs)))
theorem zqI : OpR X (binaryOp .Add) rCatR := by
 intro pins s σ H x y v u Q I rx ry h
 obtain ⟨l,b,xs,zs,rfl,rfl,hH,hB,hz,q⟩ := h
 cases rx
 cases ry
 obtain ⟨z,its,n,r,e⟩ := hH.ok I.hok
 obtain ⟨z2,its2,n2,r2,e2⟩ := hB.ok I.hok
 have hl := r.length
 have hl2 := r2.length
 refine PySem.P.add_list e e2 ?_ (by rw [List.size_toArray,List.size_toArray]; omega)
 have ea : its.toArray ++ its2.toArray = (its ++ its2).toArray := by simp
 rw [ea]
 exact ⟨.ref _,_,I.lnew (t' := s.toks) (r.append r2) (by rw [List.length_append]; omega),rfl,q _ I.fresh⟩
def rAddA (K : PySem.W.Frag) : R2 := fun x y H Q => (rI0 (fun i j => .int (i + j))) x y H Q ∨ (∃ i j,x = .str i /\ y = .str j /\ i.length + j.length <= sizeLine /\ Q (.str (i ++ j)) H) ∨ rCatQ K x y H Q ∨ rCatR x y H Q
theorem zan : OpR X (binaryOp .Add) (rAddA X.K) := OpR.or op_add (OpR.or zkW (OpR.or zqJ zqI))
theorem zav : OpD K cl ex (rAddA K) za2 := fun α m H x y vx vy Q W rx ry h => by
 unfold za2 at h
 split at h
 ·rw [Rep] at rx ry; exact .inl ⟨_,_,rx,ry,PQ.ok W h _ zeP⟩
 ·rw [Rep] at rx ry; obtain ⟨hc,h⟩ := PQ.if h; exact .inr (.inl ⟨_,_,rx,ry,hc,PQ.ok W h _ repS⟩)
 ·obtain ⟨hc,h⟩ := PQ.if h
  rw [Rep] at rx ry
  obtain ⟨a,xs,rfl,h1,r1⟩ := rx
  obtain ⟨b,ys,rfl,h2,r2⟩ := ry
  refine .inr (.inr (.inl ⟨a,b,xs,ys,rfl,rfl,h1,h2,by rw [<- r1.length,<- r2.length]; exact hc,fun r H' hr sm => ?_⟩))
  exact PQ.okS W sm h _ (by rw [Rep]; exact ⟨r,_,rfl,hr,(RepL.append r1 r2).mono W (Ext.of_same W sm)⟩)
 ·obtain ⟨hc,h⟩ := PQ.if h
  rw [Rep] at rx ry
  obtain ⟨a,xs,rfl,n1,h1,r1⟩ := rx
  obtain ⟨b,ys,rfl,n2,h2,r2⟩ := ry
  refine .inr (.inr (.inr ⟨a,b,xs,ys,rfl,rfl,h1,h2,by rw [<- r1.length,<- r2.length]; exact hc,fun p hp => ?_⟩))
  exact PQ.okS W (Same.new hp) h _ (zb4 W hp (RepL.append r1 r2))
 ·exact h.elim
def rMulQ (K : PySem.W.Frag) : R2 := fun x y H Q => ∃ a v n,x = .ref a /\ y = .int n /\ TupAt K H a [v] /\ 1 <= n /\ n <= 1000 /\ ∀ r H',TupAt K H' r (List.replicate n.toNat v) -> L2.Same H H' -> Q (.ref r) H'
theorem zqE : OpR X (binaryOp .Mult) (rMulQ X.K) := by
 intro pins s σ H x y v u Q I rx ry h
 obtain ⟨a,w,n,rfl,rfl,ha,n1,n2,q⟩ := h
 cases rx
 obtain ⟨t,rfl⟩ := ry
 obtain ⟨its,r1,p1,_⟩ := I.tuple ha.sq
 obtain ⟨u,rfl,ru⟩ := zb3 r1
 obtain ⟨⟨cls,dd,data,sl⟩,ho,hc,k,hd⟩ := id p1
 simp only at hc hd
 subst hc hd
 refine wpAny_binaryOp_repeat_ref (by decide) ⟨_,ho,rfl⟩ (fun s' => typeIs_int s' n t) zeS F.fills_int_mul F.slot_int_rmul zhN F.slot_int_index.lookup
  (call_meets F.slot_int_rmul (typeIs_int s n t) F.entry_int_rmul (F.args_int_rmul_2 _ _) (zig n t a _ k dd sl) ⟨ho,rfl,⟨_,ho,rfl⟩,?_⟩)
 by_cases e : n = 1
 ·subst e
  exact call_meets F.slot_tuple_mul ⟨_,ho,rfl⟩ F.entry_tuple_mul (F.args_tuple_mul_2 _ _) (znV a u t k dd sl) ⟨ho,⟨.ref a,H,I,rfl,q a H ha (L2.Same.refl H)⟩⟩
 ·refine call_meets F.slot_tuple_mul ⟨_,ho,rfl⟩ F.entry_tuple_mul (F.args_tuple_mul_2 _ _) (znU a u n t k dd sl (by omega) n2) ⟨ho,?_⟩
  rw [zko]
  have z : (List.replicate n.toNat w).length <= sizeLine := by
   rw [List.length_replicate]
   have : sizeLine = 16777216 := by decide
   omega
  exact ⟨.ref s.heap.objs.size,upd H s.heap.objs.size (.tup (List.replicate n.toNat w)),I.laid (t' := s.toks) (fun b o e => Heap.get?_push_of_some _ e) (Nat.le_refl _) ⟨z,List.replicate n.toNat u,zjG ru _,⟨_,Heap.get?_push_size _ rfl,rfl,0,rfl⟩,_,Heap.get?_push_size _ rfl,rfl⟩,rfl,q _ _ (.inl zax) (Same.new (I.hok.fresh (Nat.le_refl _)))⟩
theorem zjb {z : Str} {n : Int} (h : 0 <= n /\ n <= 1000 /\ z.length <= 1000) : MulOk z n := by
 obtain ⟨h0,h1,h2⟩ := h
 refine ⟨by simp; omega,fun h3 _ => ?_,fun h3 _ => ?_⟩
 ·have h4 : (1000 : Int) <= (2 ^ 63 - 1) / n := (Int.le_ediv_iff_mul_le (by omega)).mpr (by omega)
  omega
 ·have h6 : z.length * n.toNat <= 1000 * 1000 := Nat.mul_le_mul h2 (by omega)
  have h7 := sizeLine_eq
  unfold Builtin.Str.tooLong
  simp
  omega
def rMulA (K : PySem.W.Frag) : R2 := fun x y H Q => (rI CMul fun i j => .int (i * j)) x y H Q ∨ (∃ z n,x = .str z /\ y = .int n /\ MulOk z n /\ Q (.str (Txt.mul z n)) H) ∨ rMulQ K x y H Q
theorem zaR : OpR X (binaryOp .Mult) (rMulA X.K) := OpR.or op_mul (OpR.or zkV zqE)
theorem RepL.rep {α : List Addr} {H : Hp} {d : D} {v : V} (h : Rep K α H d v) : ∀ n : Nat,RepL K α H (List.replicate n d) (List.replicate n v)
 | 0 => by simp [RepL]
 | n + 1 => by
  rw [List.replicate_succ,List.replicate_succ,RepL]
  exact ⟨v,_,rfl,h,RepL.rep h n⟩
theorem zbm : OpD K cl ex (rMulA K) zc2 := fun α m H x y vx vy Q W rx ry h => by
 rw [zfy] at h; unfold mulR at h
 split at h
 ·rw [Rep] at rx ry; obtain ⟨hc,h⟩ := PQ.if h; exact .inl ⟨_,_,rx,ry,hc,PQ.ok W h _ zeP⟩
 ·rw [Rep] at rx; rw [Rep] at ry; obtain ⟨hc,h⟩ := PQ.if h; exact .inr (.inl ⟨_,_,rx,ry,zjb hc,PQ.ok W h _ repS⟩)
 ·obtain ⟨hc,h⟩ := PQ.if h
  rw [Rep] at rx
  rw [Rep] at ry
  obtain ⟨a,xs,rfl,h1,r1⟩ := rx
  rw [RepL] at r1
  obtain ⟨v,r,rfl,rv,r2⟩ := r1
  rw [RepL] at r2
  subst r2
  refine .inr (.inr ⟨a,v,_,rfl,ry,h1,hc.1,hc.2,fun r H' hr sm => ?_⟩)
  exact PQ.okS W sm h _ (by rw [Rep]; exact ⟨r,_,rfl,hr,(RepL.rep rv _).mono W (Ext.of_same W sm)⟩)
 ·exact h.elim
end
mutual
def py : D -> PyData
 | .bl b => .bool b
 | .int i => .int i
 | .str x => .str x
 | .tup ds => .tuple (pyL ds)
 | .lst ds => .list (pyL ds)
 | _ => .none
def pyL : List D -> List PyData
 | [] => []
 | d :: r => py d :: pyL r
end
mutual
def ze9 : D -> Bool
 | .non => true
 | .bl _ => true
 | .int _ => true
 | .str _ => true
 | .tup ds => pyOkL ds
 | .lst ds => pyOkL ds
 | _ => false
def pyOkL : List D -> Bool
 | [] => true
 | d :: r => ze9 d && pyOkL r
end
def zcE (d : D) : Bool := ze9 d && SeqAt.shaped (py d)
def eqB (x y : D) : Option Bool := match x,y with
 | .int i,.int j => some (decide (i = j))
 | .str a,.str b => some (decide (a = b))
 | .bl a,.bl b => some (decide (a = b))
 | .non,.non => some true
 | .non,.int _ => some false
 | .non,.str _ => some false
 | .non,.bl _ => some false
 | .int _,.non => some false
 | .str _,.non => some false
 | .bl _,.non => some false
 | .int _,.str _ => some false
 | .str _,.int _ => some false
 | .bl _,.str _ => some false
 | .str _,.bl _ => some false
 | x,y => if zcE x && zcE y then some (PyData.eqv (py x) (py y)) else none
def rs (m : Sto) (d : D) : D := match d with
 | .ob k => match m[k]? with
  | some (.lst xs) => .lst xs
  | _ => .ob k
 | d => d
def eqD (x y : D) (m : Sto) : Res D := match eqB (rs m x) (rs m y) with
 | some b => .ok (.bl b) m
 | none => .bad
def neD (x y : D) (m : Sto) : Res D := match eqB (rs m x) (rs m y) with
 | some b => .ok (.bl (!b)) m
 | none => .bad
section
variable {X : Cx} {K : PySem.W.Frag} {cl : Str -> Addr} {ex : XD} {pins : List (Addr × Obj)} {σ : L2.St} {H : Hp} {s : Shared} {α : List Addr}
mutual
theorem zbs (I : Inv X pins σ H s) : ∀ {d : D} {v : V} {u : Value},ze9 d = true -> Rep X.K α H d v -> RelV v u -> ∃ as,Reads s.heap u (py d) as
 | .non,v,u,_,r,rv => by rw [Rep] at r; subst r; cases rv; exact ⟨_,.none⟩
 | .bl b,v,u,_,r,rv => by rw [Rep] at r; subst r; cases rv; exact ⟨_,.bool b⟩
 | .int i,v,u,_,r,rv => by rw [Rep] at r; subst r; obtain ⟨t,rfl⟩ := rv; exact ⟨_,.int i t⟩
 | .str x,v,u,_,r,rv => by rw [Rep] at r; subst r; obtain ⟨t,rfl⟩ := rv; exact ⟨_,.str x t⟩
 | .tup ds,v,u,ok,r,rv => by
  rw [Rep] at r
  obtain ⟨a,xs,rfl,h1,h2⟩ := r
  cases rv
  obtain ⟨its,r1,⟨o,e1,e2,n,e3⟩,_⟩ := I.tuple h1.sq
  obtain ⟨as,h⟩ := rep_readsL I (by rw [ze9] at ok; exact ok) h2 r1
  exact ⟨as,.tuple e1 e2 e3 (by simpa using h)⟩
 | .lst ds,v,u,ok,r,rv => by
  rw [Rep] at r
  obtain ⟨a,xs,rfl,_,h1,h2⟩ := r
  cases rv
  obtain ⟨its,r1,⟨o,n,e1,e2,_,e3⟩,_⟩ := I.list (xs := xs) (.inl h1)
  obtain ⟨as,h⟩ := rep_readsL I (by rw [ze9] at ok; exact ok) h2 r1
  exact ⟨_,.list e1 e2 e3 (by simpa using h)⟩
 | .flt _,_,_,ok,_,_ => by simp [ze9] at ok
 | .byt _,_,_,ok,_,_ => by simp [ze9] at ok
 | .ob _,_,_,ok,_,_ => by simp [ze9] at ok
 | .scr _,_,_,ok,_,_ => by simp [ze9] at ok
theorem rep_readsL (I : Inv X pins σ H s) : ∀ {ds : List D} {vs : List V} {us : List Value},pyOkL ds = true -> RepL X.K α H ds vs -> Vals vs us -> ∃ as,ReadsAll s.heap us (pyL ds) as
 | [],vs,us,_,r,rv => by rw [RepL] at r; subst r; cases rv; exact ⟨_,.nil⟩
 | d :: ds,vs,us,ok,r,rv => by
  rw [RepL] at r
  obtain ⟨v,r',rfl,h1,h2⟩ := r
  rw [pyOkL,Bool.and_eq_true] at ok
  cases rv with
  | cons a b =>
   obtain ⟨as,q1⟩ := zbs I ok.1 h1 a
   obtain ⟨bs,q2⟩ := rep_readsL I ok.2 h2 b
   exact ⟨_,.cons q1 q2⟩
end
def zod (K : PySem.W.Frag) (f : Bool -> Bool) : R2 := fun vx vy H Q => ∃ x y α,Rep K α H x vx /\ Rep K α H y vy /\ zcE x = true /\ zcE y = true /\ Q (.bl (f (PyData.eqv (py x) (py y)))) H
theorem zmq (hu : X.A.units + 64 < cLine) : OpR X (compareOp .Eq) (zod X.K id) := by
 intro pins s σ H vx vy v u Q I rx ry h
 obtain ⟨x,y,α,r1,r2,d1,d2,q⟩ := h
 rw [zcE,Bool.and_eq_true] at d1 d2
 obtain ⟨as,h1⟩ := zbs I d1.1 r1 rx
 obtain ⟨bs,h2⟩ := zbs I d2.1 r2 ry
 exact eq_dataH h1 h2 d1.2 d2.2 hu ⟨.bl _,H,I,rfl,q⟩
theorem zmn (hu : X.A.units + 64 < cLine) : OpR X (compareOp .NotEq) (zod X.K not) := by
 intro pins s σ H vx vy v u Q I rx ry h
 obtain ⟨x,y,α,r1,r2,d1,d2,q⟩ := h
 rw [zcE,Bool.and_eq_true] at d1 d2
 obtain ⟨as,h1⟩ := zbs I d1.1 r1 rx
 obtain ⟨bs,h2⟩ := zbs I d2.1 r2 ry
 exact ne_dataH h1 h2 d1.2 d2.2 hu ⟨.bl _,H,I,rfl,q⟩
def rEqA (K : PySem.W.Frag) : R2 := fun x y H Q => rEq x y H Q ∨ zod K id x y H Q
def rNeA (K : PySem.W.Frag) : R2 := fun x y H Q => rNe x y H Q ∨ zod K not x y H Q
theorem zbu (hu : X.A.units + 64 < cLine) : OpR X (compareOp .Eq) (rEqA X.K) := OpR.or op_eq (zmq hu)
theorem zev (hu : X.A.units + 64 < cLine) : OpR X (compareOp .NotEq) (rNeA X.K) := OpR.or op_ne (zmn hu)
mutual
theorem Rep.bare {K : PySem.W.Frag} {α : List Addr} {H : Hp} : ∀ {d : D} {v : V},ze9 d = true -> Rep K α H d v -> Rep K [] H d v
 | .non,_,_,h => by simpa [Rep] using h
 | .bl _,_,_,h => by simpa [Rep] using h
 | .int _,_,_,h => by simpa [Rep] using h
 | .str _,_,_,h => by simpa [Rep] using h
 | .flt _,_,c,_ => by simp [ze9] at c
 | .byt _,_,c,_ => by simp [ze9] at c
 | .ob _,_,c,_ => by simp [ze9] at c
 | .scr _,_,c,_ => by simp [ze9] at c
 | .tup ds,_,c,h => by
  rw [Rep] at h ⊢
  obtain ⟨a,xs,e,h1,h2⟩ := h
  rw [ze9] at c
  exact ⟨a,xs,e,h1,RepL.bare c h2⟩
 | .lst ds,_,c,h => by
  rw [Rep] at h ⊢
  obtain ⟨a,xs,e,n,h1,h2⟩ := h
  rw [ze9] at c
  exact ⟨a,xs,e,(by simp),h1,RepL.bare c h2⟩
theorem RepL.bare {K : PySem.W.Frag} {α : List Addr} {H : Hp} : ∀ {ds : List D} {vs : List V},pyOkL ds = true -> RepL K α H ds vs -> RepL K [] H ds vs
 | [],_,_,h => by rw [RepL] at h ⊢; exact h
 | _ :: _,_,c,h => by
  rw [RepL] at h ⊢
  obtain ⟨v,r,e,h1,h2⟩ := h
  rw [pyOkL,Bool.and_eq_true] at c
  exact ⟨v,r,e,Rep.bare c.1 h1,RepL.bare c.2 h2⟩
end
def RepW (K : PySem.W.Frag) (α : List Addr) (H : Hp) (x : D) (v : V) : Prop := Rep K α H x v ∨ ∃ xs a ys,x = .lst xs /\ v = .ref a /\ H a = some (.lst ys) /\ RepL K α H xs ys
theorem RepW.bare {x : D} {v : V} (c : zcE x = true) (h : RepW K α H x v) : Rep K [] H x v := by
 rw [zcE,Bool.and_eq_true] at c
 rcases h with h | ⟨xs,a,ys,rfl,rfl,h1,h2⟩
 ·exact h.bare c.1
 ·rw [Rep]
  have c1 := c.1
  rw [ze9] at c1
  exact ⟨a,ys,rfl,(by simp),.inl h1,h2.bare c1⟩
theorem zjU {m : Sto} (W : Wd K cl α m H) {x : D} {v : V} (r : Rep K α H x v) : RepW K α H (rs m x) v := by
 unfold rs
 split
 ·split
  ·rename_i xs hx
   rw [Rep] at r
   obtain ⟨a,h1,rfl⟩ := r
   obtain ⟨ys,h2,h3⟩ := (show MoRep K cl α H a (.lst xs) from W.at' _ a _ h1 hx)
   exact .inr ⟨_,a,ys,rfl,rfl,h2,h3⟩
  ·exact .inl r
 ·exact .inl r
theorem znu {x y : D} {vx vy : V} {b : Bool} (e : eqB x y = some b) (rx : RepW K α H x vx) (ry : RepW K α H y vy) : (scal vx vy = true /\ decide (vx = vy) = b) ∨ (zcE x = true /\ zcE y = true /\ PyData.eqv (py x) (py y) = b) := by
 unfold eqB at e
 split at e
 case h_15 =>
  split at e
  ·rename_i hc
   rw [Bool.and_eq_true] at hc
   exact .inr ⟨hc.1,hc.2,Option.some.inj e⟩
  ·cases e
 all_goals (
  rcases rx with rx | ⟨_,_,_,z,_⟩
  case inr => cases z
  rcases ry with ry | ⟨_,_,_,z,_⟩
  case inr => cases z
  rw [Rep] at rx; rw [Rep] at ry; subst rx ry; refine .inl ⟨rfl,?_⟩; rw [<- Option.some.inj e]; simp)
theorem zcB : OpD K cl ex (rEqA K) eqD := fun α m H x y vx vy Q W rx ry h => by
 unfold eqD at h
 split at h
 ·rename_i b e
  have rx := zjU W rx
  have ry := zjU W ry
  rcases znu e rx ry with ⟨h1,h2⟩ | ⟨h1,h2,h3⟩
  ·exact .inl ⟨h1,by rw [h2]; exact PQ.ok W h _ zjY⟩
  ·exact .inr ⟨_,_,[],rx.bare h1,ry.bare h2,h1,h2,by rw [h3]; exact PQ.ok W h _ zjY⟩
 ·exact h.elim
theorem zh2 : OpD K cl ex (rNeA K) neD := fun α m H x y vx vy Q W rx ry h => by
 unfold neD at h
 split at h
 ·rename_i b e
  have rx := zjU W rx
  have ry := zjU W ry
  rcases znu e rx ry with ⟨h1,h2⟩ | ⟨h1,h2,h3⟩
  ·exact .inl ⟨h1,by rw [h2]; exact PQ.ok W h _ zjY⟩
  ·exact .inr ⟨_,_,[],rx.bare h1,ry.bare h2,h1,h2,by rw [h3]; exact PQ.ok W h _ zjY⟩
 ·exact h.elim
end
def ltS (x y : Str) : Bool := decide (x.cps.toList < y.cps.toList)
def ltD (x y : D) (m : Sto) : Res D := match x,y with
 | .int i,.int j => .ok (.bl (decide (i < j))) m
 | .str a,.str b => .ok (.bl (ltS a b)) m
 | _,_ => .bad
def leD (x y : D) (m : Sto) : Res D := match x,y with
 | .int i,.int j => .ok (.bl (decide (i <= j))) m
 | .str a,.str b => .ok (.bl (!ltS b a)) m
 | _,_ => .bad
def gtD (x y : D) (m : Sto) : Res D := match x,y with
 | .int i,.int j => .ok (.bl (decide (j < i))) m
 | _,_ => .bad
def geD (x y : D) (m : Sto) : Res D := match x,y with
 | .int i,.int j => .ok (.bl (decide (j <= i))) m
 | _,_ => .bad
def isB (x y : D) : Option Bool := match x,y with
 | .bl a,.bl b => some (a == b)
 | .non,.non => some true
 | _,.non => some false
 | _,_ => none
def isD (x y : D) (m : Sto) : Res D := match isB x y with
 | some b => .ok (.bl b) m
 | none => .bad
def zge (x y : D) (m : Sto) : Res D := match isB x y with
 | some b => .ok (.bl (!b)) m
 | none => .bad
section
variable {X : Cx} {K : PySem.W.Frag} {cl : Str -> Addr} {ex : XD}
def rLtA : R2 := fun x y H Q => (rI0 (fun i j => .bl (decide (i < j)))) x y H Q ∨ ∃ i j,x = .str i /\ y = .str j /\ Q (.bl (decide (i.cps.toList < j.cps.toList))) H
theorem zdc : OpR X (compareOp .Lt) rLtA := OpR.or op_lt zmo
theorem zf9 : OpD K cl ex rLtA ltD := fun α m H x y vx vy Q W rx ry h => by
 unfold ltD at h
 split at h
 ·rw [Rep] at rx ry; exact .inl ⟨_,_,rx,ry,PQ.ok W h _ zjY⟩
 ·rw [Rep] at rx ry; exact .inr ⟨_,_,rx,ry,PQ.ok W h _ zjY⟩
 ·exact h.elim
theorem zqN : OpD K cl ex (rI0 (fun i j => .bl (decide (j < i)))) gtD := fun α m H x y vx vy Q W rx ry h => by
 unfold gtD at h
 split at h
 ·rw [Rep] at rx ry; exact ⟨_,_,rx,ry,PQ.ok W h _ zjY⟩
 ·exact h.elim
theorem zqO : OpD K cl ex (rI0 (fun i j => .bl (decide (j <= i)))) geD := fun α m H x y vx vy Q W rx ry h => by
 unfold geD at h
 split at h
 ·rw [Rep] at rx ry; exact ⟨_,_,rx,ry,PQ.ok W h _ zjY⟩
 ·exact h.elim
def rIs (f : Bool -> Bool) : R2 := fun x y H Q => (y = .non /\ Q (.bl (f (decide (x = .non)))) H) ∨ ∃ b c,x = .bl b /\ y = .bl c /\ Q (.bl (f (b == c))) H
theorem zgo : OpR X (compareOp .Is) (rIs id) := OpR.or op_isN op_isT
theorem zfa : OpR X (compareOp .IsNot) (rIs not) := OpR.or zqD zow
def isNon : D -> Bool
 | .non => true
 | _ => false
theorem zlX {α : List Addr} {H : Hp} {x : D} {vx : V} (rx : Rep K α H x vx) : decide (vx = .non) = isNon x := by
 cases x <;> rw [Rep] at rx
 case ob => obtain ⟨_,_,rfl⟩ := rx; rfl
 case tup => obtain ⟨_,_,rfl,_⟩ := rx; rfl
 case lst => obtain ⟨_,_,rfl,_⟩ := rx; rfl
 case scr => obtain ⟨_,_,rfl,_⟩ := rx; rfl
 all_goals (subst rx; rfl)
theorem znb {α : List Addr} {H : Hp} {x y : D} {vx vy : V} {b : Bool} {f : Bool -> Bool} {Q : VK} (e : isB x y = some b) (rx : Rep K α H x vx) (ry : Rep K α H y vy) (q : Q (.bl (f b)) H) : rIs f vx vy H Q := by
 unfold isB at e
 split at e
 ·rw [Rep] at rx ry
  exact .inr ⟨_,_,rx,ry,by rw [Option.some.inj e]; exact q⟩
 ·have h := zlX rx
  rw [Rep] at ry
  exact .inl ⟨ry,by rw [h]; show Q (.bl (f true)) H; rw [Option.some.inj e]; exact q⟩
 ·rename_i hn
  have h := zlX rx
  rw [Rep] at ry
  refine .inl ⟨ry,?_⟩
  have : isNon x = false := by
   cases x with
   | non => exact (hn rfl).elim
   | _ => rfl
  rw [h,this,Option.some.inj e]
  exact q
 ·cases e
theorem zk6 : OpD K cl ex (rIs id) isD := fun α m H x y vx vy Q W rx ry h => by
 unfold isD at h
 split at h
 ·exact znb (f := id) ‹_› rx ry (PQ.ok W h _ zjY)
 ·exact h.elim
theorem zhh : OpD K cl ex (rIs not) zge := fun α m H x y vx vy Q W rx ry h => by
 unfold zge at h
 split at h
 ·exact znb (f := not) ‹_› rx ry (PQ.ok W h _ zjY)
 ·exact h.elim
end
section
variable {K : PySem.W.Frag} {cl : Str -> Addr} {ex : XD} {α : List Addr} {m : Sto} {H : Hp}
theorem Wd.lst (W : Wd K cl α m H) {k : Nat} {a : Addr} {ds : List D} (h1 : α[k]? = some a) (h2 : m[k]? = some (.lst ds)) : ∃ xs,H a = some (.lst xs) /\ RepL K α H ds xs := W.at' k a _ h1 h2
theorem Wd.dct (W : Wd K cl α m H) {k : Nat} {a : Addr} {ds : List (L2.Key × D)} (h1 : α[k]? = some a) (h2 : m[k]? = some (.dct ds)) : ∃ xs,H a = some (.dK xs) /\ RepKV K α H ds xs := W.at' k a _ h1 h2
theorem Wd.set (W : Wd K cl α m H) {k : Nat} {a : Addr} {u : HO} {o : MO} (h1 : α[k]? = some a) (h2 : ∀ _ : Ext α H α (upd H a u),MoRep K cl α (upd H a u) a o) (hn : autoParam (∀ o v,H a ≠ some (.frz o v)) AutoP.a5._auto_1) : Wd K cl α (m.set k o) (upd H a u) /\ Ext α H α (upd H a u) := by
 have ha : a ∈ α := List.mem_of_getElem? h1
 have E : Ext α H α (upd H a u) := by
  refine ⟨⟨[],by simp,fun _ h => nomatch h⟩,fun b o h n => by rw [zao (fun z => n (by rw [z]; exact ha))]; exact h,fun b hb => ?_,fun b o v q => by rw [zao fun z => hn o v (by rw [<- z]; exact q)]; exact q⟩
  by_cases hba : b = a
  ·rw [hba,zax]; exact fun z => nomatch z
  ·rw [zao hba]; exact W.has hb
 refine ⟨⟨by rw [List.length_set]; exact W.len,W.nd,fun j b o' e1 e2 => ?_⟩,E⟩
 by_cases hj : k = j
 ·subst hj
  rw [h1] at e1
  cases e1
  have hk : k < m.length := by rw [<- W.len]; exact (List.getElem?_eq_some_iff.mp h1).1
  rw [List.getElem?_set_self hk] at e2
  cases e2
  exact h2 E
 ·rw [List.getElem?_set_ne hj] at e2
  have hne : b ≠ a := fun z => by
   subst z
   obtain ⟨hk,e3⟩ := List.getElem?_eq_some_iff.mp h1
   obtain ⟨hk2,e4⟩ := List.getElem?_eq_some_iff.mp e1
   exact hj ((List.getElem_inj W.nd).mp (e3.trans e4.symm))
  exact (W.at' j b o' e1 e2).mono W E fun o h => by rw [zao hne]; exact h
end
theorem RepL.atI {K : PySem.W.Frag} {α : List Addr} {H : Hp} {ds : List D} {vs : List V} {i : Int} {d : D} (r : RepL K α H ds vs) (h : L2.atI ds i = some d) : ∃ v,L2.atI vs i = some v /\ Rep K α H d v := by
 unfold L2.atI at h ⊢
 rw [r.length] at h
 cases e : ixN vs.length i with
 | none => rw [e] at h; cases h
 | some j =>
  rw [e] at h
  exact r.get (i := j) h
def zd8 (kvs : List (L2.Key × D)) (k : L2.Key) : Option D := match kvs with
 | [] => none
 | p :: r => if p.1 = k then some p.2 else zd8 r k
def zg5 (kvs : List (L2.Key × D)) (k : L2.Key) (d : D) : List (L2.Key × D) := match kvs with
 | [] => [(k,d)]
 | p :: r => if p.1 = k then (p.1,d) :: r.map (fun q => if q.1 = k then (q.1,d) else q) else p :: zg5 r k d
theorem RepKV.val {K : PySem.W.Frag} {α : List Addr} {H : Hp} {k : L2.Key} : ∀ {ds : List (L2.Key × D)} {vs : List (L2.Key × V)},RepKV K α H ds vs -> (∀ d,zd8 ds k = some d -> ∃ v,ziO vs k = some v /\ Rep K α H d v) /\ (zd8 ds k = none -> ziO vs k = none)
 | [],_,h => by
  cases (show _ = [] from h)
  exact ⟨fun d e => (nomatch e),fun _ => rfl⟩
 | p :: r,_,⟨v,r',e,h1,h2⟩ => by
  subst e
  have ih := RepKV.val (k := k) h2
  unfold zd8
  by_cases hk : p.1 = k
  ·rw [if_pos hk,zeX hk]
   exact ⟨fun d e => by cases e; exact ⟨v,rfl,h1⟩,fun e => nomatch e⟩
  ·rw [if_neg hk,zeY hk]
   exact ih
theorem RepKV.length {K : PySem.W.Frag} {α : List Addr} {H : Hp} : ∀ {ds : List (L2.Key × D)} {vs : List (L2.Key × V)},RepKV K α H ds vs -> ds.length = vs.length
 | [],_,h => by
  have h : _ = [] := h
  subst h; rfl
 | p :: r,_,⟨v,r',e,h1,h2⟩ => by subst e; rw [List.length_cons,List.length_cons,RepKV.length h2]
theorem RepKV.map {K : PySem.W.Frag} {α : List Addr} {H : Hp} {k : L2.Key} {d : D} {v : V} (r : Rep K α H d v) : ∀ {ds : List (L2.Key × D)} {vs : List (L2.Key × V)},RepKV K α H ds vs -> RepKV K α H (ds.map fun q => if q.1 = k then (q.1,d) else q) (vs.map fun q => if q.1 = k then (q.1,v) else q)
 | [],_,h => by
  have h : _ = [] := h
  subst h; rfl
 | p :: t,_,⟨w,r',e,h1,h2⟩ => by
  subst e
  rw [List.map_cons,List.map_cons]
  by_cases hk : p.1 = k
  ·rw [if_pos hk,if_pos hk]
   exact ⟨v,_,rfl,r,RepKV.map r h2⟩
  ·rw [if_neg hk,if_neg hk]
   exact ⟨w,_,rfl,h1,RepKV.map r h2⟩
theorem RepKV.put {K : PySem.W.Frag} {α : List Addr} {H : Hp} {k : L2.Key} {d : D} {v : V} (r : Rep K α H d v) : ∀ {ds : List (L2.Key × D)} {vs : List (L2.Key × V)},RepKV K α H ds vs -> RepKV K α H (zg5 ds k d) (zdP vs k v)
 | [],_,h => by
  have h : _ = [] := h
  subst h
  exact ⟨v,[],rfl,r,rfl⟩
 | p :: t,_,⟨w,r',e,h1,h2⟩ => by
  subst e
  unfold zg5
  by_cases hk : p.1 = k
  ·rw [if_pos hk]
   have e2 : zdP ((p.1,w) :: r') k v = (p.1,v) :: r'.map fun q => if q.1 = k then (q.1,v) else q := by
    unfold zdP
    rw [if_pos (by simp [hk]),List.map_cons,if_pos hk]
   rw [e2]
   exact ⟨v,_,rfl,r,RepKV.map r h2⟩
  ·rw [if_neg hk]
   have ih := RepKV.put (k := k) r h2
   have e2 : zdP ((p.1,w) :: r') k v = (p.1,w) :: zdP r' k v := by
    unfold zdP
    by_cases ha : (r'.any fun kv => decide (kv.1 = k)) = true
    ·rw [if_pos (by rw [List.any_cons,ha,Bool.or_true]),if_pos ha,List.map_cons,if_neg hk]
    ·rw [if_neg ha,if_neg (by rw [List.any_cons]; simp only [decide_eq_false hk,Bool.false_or]; exact ha)]
     rfl
   rw [e2]
   exact ⟨w,_,rfl,h1,ih⟩
def opt {τ : Type} (o : Option τ) (m : Sto) : Res τ := match o with
 | some d => .ok d m
 | none => .bad
def ixD (x y : D) (m : Sto) : Res D := match x,y with
 | .tup ds,.int i => opt (L2.atI ds i) m
 | .lst ds,.int i => opt (L2.atI ds i) m
 | .str z,.int i => if z.length <= sizeLine then opt ((L2.atI z.cps.toList i).map fun c => D.str ⟨#[c]⟩) m else .bad
 | .ob k,.int i => match m[k]? with
  | some (.lst ds) => opt (L2.atI ds i) m
  | some (.dct kvs) => opt (zd8 kvs (.inl i)) m
  | _ => .bad
 | .ob k,.str z => match m[k]? with
  | some (.dct kvs) => opt (zd8 kvs (.inr z)) m
  | _ => .bad
 | _,_ => .bad
section
variable {X : Cx} {K : PySem.W.Frag} {cl : Str -> Addr} {ex : XD}
def rIxD : R2 := fun x y H Q => ∃ a v,x = .ref a /\ DGet H a y (some v) /\ Q v H
theorem zq8 (hu : X.A.units + 1 < cLine) : IxR X rIxD := by
 intro value slice pins s σ H x y v u Q I rx ry h hs
 obtain ⟨a,w,rfl,g,q⟩ := h
 cases rx
 have hT := zjq I g
 unfold subscriptTail
 refine wpAny_bind ?_
 rw [getitemInPython_of_ne hT.not_modules]
 refine wpAny_bind (wpAny_specialOf hT PySem.F.slot_dict_getitem.lookup ?_)
 have fin : wpAny (model X.prog X.w) X.A (subscripted slice false (.ref a) u) (fun r s₃ => wpAny (model X.prog X.w) X.A (letTemporaryGo value (.ref a) r >>= fun _ => pure r) (EP X pins σ Q) X.xe s₃) X.xe s := by
  rw [hs]
  exact wpAny_operating (wpAny_mono (znD hu I g ry fun w' s3 I3 rw' => (⟨w,H,I3,rw',q⟩ : EP X pins σ Q w' s3)) (fun r s₃ h₃ => wpAny_bind (wpAny_letTemporaryGo (wpAny_pure h₃))) fun _ _ x => x)
 first
  | exact wpAny_pure (wpAny_bind fin)
  | exact wpAny_bind (wpAny_pure (wpAny_bind fin))
  | exact wpAny_bind fin
def rIxA (K : PySem.W.Frag) : R2 := fun x y H Q => rIx K x y H Q ∨ rIxD x y H Q
theorem ix_A (hu : X.A.units + 1 < cLine) : IxR X (rIxA X.K) := IxR.or ix_seq (zq8 hu)
theorem zed {τ : Type} {o : Option τ} {α : List Addr} {m : Sto} {H : Hp} {R : RD τ} (h : PQ K cl ex (opt o m) α H R) : ∃ d,o = some d /\ PQ K cl ex (.ok d m) α H R := by
 cases o with
 | none => exact h.elim
 | some d => exact ⟨d,rfl,h⟩
theorem od_ix : OpD K cl ex (rIxA K) ixD := fun α m H x y vx vy Q W rx ry h => by
 unfold ixD at h
 split at h
 ·obtain ⟨d,e,h⟩ := zed h
  rw [Rep] at rx
  rw [Rep] at ry
  obtain ⟨a,xs,rfl,h1,r1⟩ := rx
  obtain ⟨v,e2,rv⟩ := r1.atI e
  exact .inl (.inr (.inl ⟨a,xs,_,v,rfl,ry,h1.sq,e2,PQ.ok W h _ rv⟩))
 ·obtain ⟨d,e,h⟩ := zed h
  rw [Rep] at rx
  rw [Rep] at ry
  obtain ⟨a,xs,rfl,_,h1,r1⟩ := rx
  obtain ⟨v,e2,rv⟩ := r1.atI e
  exact .inl (.inl ⟨a,xs,_,v,rfl,ry,.inl h1,e2,PQ.ok W h _ rv⟩)
 ·obtain ⟨hc,h⟩ := PQ.if h
  obtain ⟨d,e,h⟩ := zed h
  rw [Rep] at rx
  rw [Rep] at ry
  obtain ⟨c,e2,rfl⟩ := Option.map_eq_some_iff.mp e
  exact .inl (.inr (.inr ⟨_,_,c,rx,ry,hc,e2,PQ.ok W h _ repS⟩))
 ·rw [Rep] at rx
  rw [Rep] at ry
  obtain ⟨a,ha,rfl⟩ := rx
  split at h
  ·obtain ⟨d,e,h⟩ := zed h
   obtain ⟨xs,h1,r1⟩ := W.lst ha ‹_›
   obtain ⟨v,e2,rv⟩ := r1.atI e
   exact .inl (.inl ⟨a,xs,_,v,rfl,ry,SqL.of h1,e2,PQ.ok W h _ rv⟩)
  ·obtain ⟨d,e,h⟩ := zed h
   obtain ⟨xs,h1,r1⟩ := W.dct ha ‹_›
   obtain ⟨v,e2,rv⟩ := (RepKV.val r1).1 d e
   refine .inr ⟨a,v,rfl,?_,PQ.ok W h _ rv⟩
   rw [ry,<- e2]
   exact DGet.k (k := .inl _) h1
  ·exact h.elim
 ·rw [Rep] at rx
  rw [Rep] at ry
  obtain ⟨a,ha,rfl⟩ := rx
  split at h
  ·obtain ⟨d,e,h⟩ := zed h
   obtain ⟨xs,h1,r1⟩ := W.dct ha ‹_›
   obtain ⟨v,e2,rv⟩ := (RepKV.val r1).1 d e
   refine .inr ⟨a,v,rfl,?_,PQ.ok W h _ rv⟩
   rw [ry,<- e2]
   exact DGet.k (k := .inr _) h1
  ·exact h.elim
 ·exact h.elim
end
def znE {τ : Type} (xs : List τ) (lo hi : Option Int) : List τ := (xs.drop (HT.sIx xs.length 0 lo)).take (HT.sIx xs.length xs.length hi - HT.sIx xs.length 0 lo)
theorem RepL.take {K : PySem.W.Frag} {α : List Addr} {H : Hp} : ∀ {ds : List D} {vs : List V} (n : Nat),RepL K α H ds vs -> RepL K α H (ds.take n) (vs.take n)
 | [],_,_,h => by rw [RepL] at h; subst h; simp [RepL]
 | _ :: _,_,0,h => by simp [RepL]
 | _ :: _,_,n + 1,h => by
  rw [RepL] at h
  obtain ⟨v,r,rfl,a,b⟩ := h
  rw [List.take_succ_cons,List.take_succ_cons,RepL]
  exact ⟨v,_,rfl,a,RepL.take n b⟩
theorem RepL.drop {K : PySem.W.Frag} {α : List Addr} {H : Hp} : ∀ {ds : List D} {vs : List V} (n : Nat),RepL K α H ds vs -> RepL K α H (ds.drop n) (vs.drop n)
 | _,_,0,h => h
 | [],_,n + 1,h => by rw [RepL] at h; subst h; simp [RepL]
 | _ :: _,_,n + 1,h => by
  rw [RepL] at h
  obtain ⟨v,r,rfl,a,b⟩ := h
  exact RepL.drop n b
theorem RepL.cut {K : PySem.W.Frag} {α : List Addr} {H : Hp} {ds : List D} {vs : List V} (lo hi : Option Int) (r : RepL K α H ds vs) : RepL K α H (znE ds lo hi) (zpx vs lo hi) := by
 unfold znE zpx
 rw [r.length]
 exact RepL.take _ (RepL.drop _ r)
abbrev OV := En -> Sto -> Res (Option Int)
def zeR : OV := fun _ m => .ok none m
def zcC (f : EV) : OV := fun ρ m => (f ρ m).bind fun d m1 => match d with
 | .int i => .ok (some i) m1
 | _ => .bad
def tDO (K : PySem.W.Frag) (cl : Str -> Addr) (ex : XD) (f : OV) : TO := fun σ H Q => ∃ α ρ m,Wd K cl α m H /\ RepE K α H ρ σ /\ PQ K cl ex (f ρ m) α H fun d _ _ H' => Q d H'
structure QO (X : Cx) (cl : Str -> Addr) (ex : XD) (e : Option Expr) (f : OV) : Prop where
 out : PO X e (tDO X.K cl ex f)
theorem PO.weak {X : Cx} {e : Option Expr} {t t' : TO} (h : PO X e t) (w : ∀ σ H Q,t' σ H Q -> t σ H Q) : PO X e t' := fun pins s σ H Q I q => h pins s σ H Q I (w σ H Q q)
def slD (x : D) (lo hi : Option Int) (m : Sto) : Res D := match x with
 | .tup ds => if HT.sIx ds.length 0 lo = 0 /\ HT.sIx ds.length ds.length hi = ds.length then .bad else .ok (.tup (znE ds lo hi)) m
 | .lst ds => .ok (.lst (znE ds lo hi)) m
 | .scr ds => .ok (.lst (znE ds lo hi)) m
 | .str z => if z.length <= sizeLine then .ok (.str (Txt.slice z lo hi)) m else .bad
 | .ob k => match m[k]? with
  | some (.lst ds) => .ok (.lst (znE ds lo hi)) m
  | _ => .bad
 | _ => .bad
def eSl (f : EV) (lo hi : OV) : EV := fun ρ m => (f ρ m).bind fun x m1 => (lo ρ m1).bind fun l m2 => (hi ρ m2).bind fun h m3 => slD x l h m3
section
variable {X : Cx} {cl : Str -> Addr} {ex : XD} {e : Expr} {fa : EV} {lo hi : OV} {el eh : Option Expr} {pos p2 : Pos}
theorem zdm : QO X cl ex none zeR := ⟨PO.weak zqj fun σ H Q hh => ex3 hh fun α ρ m W hr h => PQ.ok W h⟩
theorem zbw (hq : QE X cl ex e fa) : QO X cl ex (some e) (zcC fa) := ⟨PO.weak (zqi hq.out) fun σ H Q hh => ex3 hh fun α ρ m W hr h => tD.use W hr h fun α1 m1 H1 d v E1 W1 hr1 rv q1 => by
 split at q1
 ·rw [Rep] at rv; exact ⟨_,rv,PQ.ok W1 q1⟩
 ·exact q1.elim⟩
theorem tDO.use {K : PySem.W.Frag} {α : List Addr} {m : Sto} {H : Hp} {ρ : En} {σ : L2.St} {τ : Type} {f : OV} {k : Option Int -> Sto -> Res τ} {R : RD τ} {Q : Option Int -> Hp -> Prop} (W : Wd K cl α m H) (hr : RepE K α H ρ σ) (h : PQ K cl ex ((f ρ m).bind k) α H R)
  (hQ : ∀ α1 m1 H1 d,Ext α H α1 H1 -> Wd K cl α1 m1 H1 -> RepE K α1 H1 ρ σ -> PQ K cl ex (k d m1) α1 H1 R -> Q d H1) : tDO K cl ex f σ H Q :=
 ⟨α,ρ,m,W,hr,PQ.mono (Ext.refl W) h.bind fun d α1 m1 H1 E1 W1 q => hQ α1 m1 H1 d E1 W1 (hr.mono W E1) q⟩
theorem zf3 (he : QE X cl ex e fa) (hl : QO X cl ex el lo) (hh : QO X cl ex eh hi) : QE X cl ex (.Subscript e (.Slice el eh none p2) pos) (eSl fa lo hi) :=
 ⟨PE.weak (zon (SlR.or sl_tup (SlR.or zpP sl_txt)) he.out hl.out hh.out) fun σ H Q hh => ex3 hh fun α ρ m W hr h =>
  tD.use W hr h fun α1 m1 H1 d v E1 W1 hr1 rv q1 => tDO.use W1 hr1 q1 fun α2 m2 H2 l E2 W2 hr2 q2 => tDO.use W2 hr2 q2 fun α3 m3 H3 u E3 W3 hr3 q3 => by
   have rv := rv.mono W1 (E2.trans E3)
   unfold slD at q3
   split at q3
   ·split at q3
    ·exact q3.elim
    ·rename_i hn
     rw [Rep] at rv
     obtain ⟨a,xs,rfl,h1,r1⟩ := rv
     refine .inl ⟨a,xs,rfl,h1.sq,by rw [<- r1.length]; exact hn,fun p hp => ?_⟩
     exact PQ.okS W3 (Same.new hp) q3 _ (zbv W3 hp (r1.cut l u))
   ·rw [Rep] at rv
    obtain ⟨a,xs,rfl,_,h1,r1⟩ := rv
    exact .inr (.inl ⟨a,xs,rfl,.inl h1,fun p hp => PQ.okS W3 (Same.new hp) q3 _ (zb4 W3 hp (r1.cut l u))⟩)
   ·rw [Rep] at rv
    obtain ⟨a,xs,rfl,h1,r1⟩ := rv
    exact .inr (.inl ⟨a,xs,rfl,h1.sq,fun p hp => PQ.okS W3 (Same.new hp) q3 _ (zb4 W3 hp (r1.cut l u))⟩)
   ·rw [Rep] at rv
    obtain ⟨hc,q3⟩ := PQ.if q3
    exact .inr (.inr ⟨_,rv,hc,PQ.ok W3 q3 _ repS⟩)
   ·rw [Rep] at rv
    obtain ⟨a,ha,rfl⟩ := rv
    split at q3
    ·obtain ⟨xs,h1,r1⟩ := W3.lst ha ‹_›
     exact .inr (.inl ⟨a,xs,rfl,SqL.of h1,fun p hp => PQ.okS W3 (Same.new hp) q3 _ (zb4 W3 hp (r1.cut l u))⟩)
    ·exact q3.elim
   ·exact q3.elim⟩
end
section
variable {X : Cx} {K : PySem.W.Frag} {cl : Str -> Addr} {ex : XD} {α : List Addr} {m : Sto} {H : Hp}
theorem RepL.one_of {d : D} {vs : List V} (h : RepL K α H [d] vs) : ∃ v,vs = [v] /\ Rep K α H d v := by
 rw [RepL] at h
 obtain ⟨v,r,rfl,a,b⟩ := h
 rw [RepL] at b
 subst b
 exact ⟨v,rfl,a⟩
theorem RepL.two_of {d e : D} {vs : List V} (h : RepL K α H [d,e] vs) : ∃ v w,vs = [v,w] /\ Rep K α H d v /\ Rep K α H e w := by
 rw [RepL] at h
 obtain ⟨v,r,rfl,a,b⟩ := h
 obtain ⟨w,rfl,c⟩ := b.one_of
 exact ⟨v,w,rfl,a,c⟩
def zex (ds : List D) (m : Sto) : Res D := match ds with
 | [.tup xs] => .ok (.int xs.length) m
 | [.lst xs] => .ok (.int xs.length) m
 | [.scr xs] => .ok (.int xs.length) m
 | [.str z] => if z.length <= sizeLine then .ok (.int z.length) m else .bad
 | [.ob k] => match m[k]? with
  | some (.lst xs) => .ok (.int xs.length) m
  | some (.dct xs) => .ok (.int xs.length) m
  | _ => .bad
 | _ => .bad
def rLen (K : PySem.W.Frag) : List V -> Hp -> VK -> Prop := fun xs H Q => (∃ p ys,xs = [.ref p] /\ (SqL K H p ys ∨ SqT K H p ys) /\ Q (.int ys.length) H) ∨ (∃ z,xs = [.str z] /\ z.length <= sizeLine /\ Q (.int z.length) H) ∨ ∃ a kvs,xs = [V.ref a] /\ H a = some (.dK kvs) /\ Q (.int kvs.length) H
theorem znL : CallR X (.builtin "len") (fun xs H Q => ∃ a kvs,xs = [V.ref a] /\ H a = some (.dK kvs) /\ Q (.int kvs.length) H) := by
 intro pins s σ H xs us Q I r h
 obtain ⟨a,kvs,rfl,e,q⟩ := h
 obtain ⟨u,rfl,ru⟩ := zb3 r
 cases ru
 exact d_len I (.inl e) fun t s' I' => ⟨.int kvs.length,H,I',⟨t,rfl⟩,q⟩
theorem zaK : CallR X (.builtin "len") (rLen X.K) := CallR.or ziG (CallR.or ziF znL)
theorem zbX : FnD K cl ex (rLen K) zex := fun α m H x vx Q W rx h => by
 unfold zex at h
 split at h
 ·obtain ⟨v,rfl,rv⟩ := rx.one_of
  rw [Rep] at rv
  obtain ⟨a,xs,rfl,h1,r1⟩ := rv
  exact .inl ⟨a,xs,rfl,.inr h1.sq,by rw [<- r1.length]; exact PQ.ok W h _ zeP⟩
 ·obtain ⟨v,rfl,rv⟩ := rx.one_of
  rw [Rep] at rv
  obtain ⟨a,xs,rfl,_,h1,r1⟩ := rv
  exact .inl ⟨a,xs,rfl,.inl (.inl h1),by rw [<- r1.length]; exact PQ.ok W h _ zeP⟩
 ·obtain ⟨v,rfl,rv⟩ := rx.one_of
  rw [Rep] at rv
  obtain ⟨a,xs,rfl,h1,r1⟩ := rv
  exact .inl ⟨a,xs,rfl,.inl h1.sq,by rw [<- r1.length]; exact PQ.ok W h _ zeP⟩
 ·obtain ⟨v,rfl,rv⟩ := rx.one_of
  rw [Rep] at rv
  subst rv
  obtain ⟨hc,h⟩ := PQ.if h
  exact .inr (.inl ⟨_,rfl,hc,PQ.ok W h _ zeP⟩)
 ·obtain ⟨v,rfl,rv⟩ := rx.one_of
  rw [Rep] at rv
  obtain ⟨a,ha,rfl⟩ := rv
  split at h
  ·obtain ⟨xs,h1,r1⟩ := W.lst ha ‹_›
   exact .inl ⟨a,xs,rfl,.inl (SqL.of h1),by rw [<- r1.length]; exact PQ.ok W h _ zeP⟩
  ·obtain ⟨xs,h1,r1⟩ := W.dct ha ‹_›
   exact .inr (.inr ⟨a,xs,rfl,h1,by rw [<- r1.length]; exact PQ.ok W h _ zeP⟩)
  ·exact h.elim
 ·exact h.elim
def znR (ds : List D) (m : Sto) : Res D := match ds with
 | [.int i] => .ok (.int i) m
 | [.bl b] => .ok (.int (if b then 1 else 0)) m
 | [.str z] => match PySem.intText? z with
  | some n => if z.length <= 640 then .ok (.int n) m else .bad
  | none => .bad
 | _ => .bad
def rInt : List V -> Hp -> VK -> Prop := fun xs H Q => ((∃ i,xs = [.int i] /\ Q (.int i) H) ∨ ∃ k,xs = [.bl k] /\ Q (.int (if k then 1 else 0)) H) ∨ ∃ z n,xs = [.str z] /\ PySem.intText? z = some n /\ z.length <= 640 /\ Q (.int n) H
theorem ziI : CallR X (.type "int") rInt := CallR.or znN ziH
theorem zpu : FnD K cl ex rInt znR := fun α m H x vx Q W rx h => by
 unfold znR at h
 split at h
 ·obtain ⟨v,rfl,rv⟩ := rx.one_of
  rw [Rep] at rv; subst rv
  exact .inl (.inl ⟨_,rfl,PQ.ok W h _ zeP⟩)
 ·obtain ⟨v,rfl,rv⟩ := rx.one_of
  rw [Rep] at rv; subst rv
  exact .inl (.inr ⟨_,rfl,PQ.ok W h _ zeP⟩)
 ·obtain ⟨v,rfl,rv⟩ := rx.one_of
  rw [Rep] at rv; subst rv
  split at h
  ·obtain ⟨hc,h⟩ := PQ.if h
   exact .inr ⟨_,_,rfl,‹_›,hc,PQ.ok W h _ zeP⟩
  ·exact h.elim
 ·exact h.elim
def strF (ds : List D) (m : Sto) : Res D := match ds with
 | [.int i] => if i.natAbs.log2 < 1920 then .ok (.str (toString i)) m else .bad
 | _ => .bad
theorem fd_str : FnD K cl ex (fun xs H Q => ∃ i,xs = [.int i] /\ i.natAbs.log2 < 1920 /\ Q (.str (toString i)) H) strF := fun α m H x vx Q W rx h => by
 unfold strF at h
 split at h
 ·obtain ⟨v,rfl,rv⟩ := rx.one_of
  rw [Rep] at rv; subst rv
  obtain ⟨hc,h⟩ := PQ.if h
  exact ⟨_,rfl,hc,PQ.ok W h _ repS⟩
 ·exact h.elim
def absF (ds : List D) (m : Sto) : Res D := match ds with
 | [.int i] => .ok (.int (if i < 0 then -i else i)) m
 | _ => .bad
theorem zpv : FnD K cl ex (fun xs H Q => ∃ i,xs = [.int i] /\ Q (.int (if i < 0 then -i else i)) H) absF := fun α m H x vx Q W rx h => by
 unfold absF at h
 split at h
 ·obtain ⟨v,rfl,rv⟩ := rx.one_of
  rw [Rep] at rv; subst rv
  exact ⟨_,rfl,PQ.ok W h _ zeP⟩
 ·exact h.elim
def zh7 (ds : List D) (m : Sto) : Res D := match ds with
 | [.int i,.int j] => .ok (.int (if j > i then j else i)) m
 | _ => .bad
theorem znt : FnD K cl ex (fun xs H Q => ∃ i j,xs = [.int i,.int j] /\ Q (.int (if j > i then j else i)) H) zh7 := fun α m H x vx Q W rx h => by
 unfold zh7 at h
 split at h
 ·obtain ⟨v,w,rfl,rv,rw'⟩ := rx.two_of
  rw [Rep] at rv rw'; subst rv rw'
  exact ⟨_,_,rfl,PQ.ok W h _ zeP⟩
 ·exact h.elim
def zoC (ds : List D) (m : Sto) : Res D := match ds with
 | [.int i,.int j] => .ok (.int (if j < i then j else i)) m
 | _ => .bad
theorem zrb : FnD K cl ex (fun xs H Q => ∃ i j,xs = [.int i,.int j] /\ Q (.int (if j < i then j else i)) H) zoC := fun α m H x vx Q W rx h => by
 unfold zoC at h
 split at h
 ·obtain ⟨v,w,rfl,rv,rw'⟩ := rx.two_of
  rw [Rep] at rv rw'; subst rv rw'
  exact ⟨_,_,rfl,PQ.ok W h _ zeP⟩
 ·exact h.elim
def zjJ (ds : List D) (m : Sto) : Res D := match ds with
 | [.lst xs] => .ok (.tup xs) m
 | [.tup xs] => .ok (.tup xs) m
 | [.ob k] => match m[k]? with
  | some (.lst xs) => .ok (.tup xs) m
  | _ => .bad
 | [.str z] => if z.cps.size <= sizeLine then .ok (.tup (zeN z)) m else .bad
 | _ => .bad
def rTup (K : PySem.W.Frag) : List V -> Hp -> VK -> Prop := fun xs H Q => (∃ p ys,xs = [.ref p] /\ ((SqL K H p ys /\ ∀ l,H l = none -> Q (.ref l) (upd H l (.tup ys))) ∨ (SqT K H p ys /\ Q (.ref p) H))) ∨ ∃ z,xs = [.str z] /\ z.cps.size <= sizeLine /\ ∀ l,H l = none -> Q (.ref l) (upd H l (.tup ((List.range z.cps.size).map (sgn z))))
theorem zbF (hc : X.calm = true) : CallR X (.type "tuple") (rTup X.K) := CallR.or zhs (zgg hc)
theorem zlW {z : Str} : RepL K α H (zeN z) ((List.range z.cps.size).map (sgn z)) := by
 unfold zeN
 generalize List.range z.cps.size = l
 induction l with
 | nil => simp [RepL]
 | cons i r ih => rw [List.map_cons,List.map_cons,RepL]; exact ⟨_,_,rfl,by rw [Rep]; rfl,ih⟩
theorem zeJ : FnD K cl ex (rTup K) zjJ := fun α m H x vx Q W rx h => by
 unfold zjJ at h
 split at h
 ·obtain ⟨v,rfl,rv⟩ := rx.one_of
  rw [Rep] at rv
  obtain ⟨a,xs,rfl,_,h1,r1⟩ := rv
  exact .inl ⟨a,xs,rfl,.inl ⟨.inl h1,fun l hl => PQ.okS W (Same.new hl) h _ (zbv W hl r1)⟩⟩
 ·obtain ⟨v,rfl,rv⟩ := rx.one_of
  have rv2 := rv
  rw [Rep] at rv
  obtain ⟨a,xs,rfl,h1,r1⟩ := rv
  exact .inl ⟨a,xs,rfl,.inr ⟨h1.sq,PQ.ok W h _ rv2⟩⟩
 ·obtain ⟨v,rfl,rv⟩ := rx.one_of
  rw [Rep] at rv
  obtain ⟨a,ha,rfl⟩ := rv
  split at h
  ·obtain ⟨xs,h1,r1⟩ := W.lst ha ‹_›
   exact .inl ⟨a,xs,rfl,.inl ⟨SqL.of h1,fun l hl => PQ.okS W (Same.new hl) h _ (zbv W hl r1)⟩⟩
  ·exact h.elim
 ·obtain ⟨v,rfl,rv⟩ := rx.one_of
  rw [Rep] at rv; subst rv
  obtain ⟨hc,h⟩ := PQ.if h
  exact .inr ⟨_,rfl,hc,fun l hl => PQ.okS W (Same.new hl) h _ (zbv W hl zlW)⟩
 ·exact h.elim
def zd5 : List D -> Option (List Int)
 | [] => some []
 | .int i :: r => (zd5 r).map (i :: ·)
 | _ => none
def asStrs : List D -> Option (List Str)
 | [] => some []
 | .str i :: r => (asStrs r).map (i :: ·)
 | _ => none
theorem zc6 : ∀ {ds : List D} {ns : List Int} {vs : List V},zd5 ds = some ns -> RepL K α H ds vs -> vs = ns.map V.int
 | [],ns,vs,e,r => by cases e; rw [RepL] at r; exact r
 | d :: t,ns,vs,e,r => by
  unfold zd5 at e
  split at e
  ·exact absurd ‹d :: t = []› (by simp)
  ·rename_i i t' e1
   cases e1
   obtain ⟨ms,e2,rfl⟩ := Option.map_eq_some_iff.mp e
   rw [RepL] at r
   obtain ⟨v,r',rfl,a,b⟩ := r
   rw [Rep] at a
   subst a
   rw [zc6 e2 b]
   rfl
  ·cases e
def lOf (d : D) (m : Sto) : Option (List D) := match d with
 | .lst xs => some xs
 | .ob k => match m[k]? with
  | some (.lst xs) => some xs
  | _ => none
 | _ => none
theorem zmX {d : D} {v : V} {xs : List D} (W : Wd K cl α m H) (e : lOf d m = some xs) (rv : Rep K α H d v) : ∃ p ys,v = .ref p /\ SqL K H p ys /\ RepL K α H xs ys := by
 unfold lOf at e
 split at e
 ·cases e; rw [Rep] at rv; obtain ⟨a,ys,rfl,_,h1,r1⟩ := rv; exact ⟨a,ys,rfl,.inl h1,r1⟩
 ·rw [Rep] at rv
  obtain ⟨a,ha,rfl⟩ := rv
  split at e
  ·cases e; obtain ⟨ys,h1,r1⟩ := W.lst ha ‹_›; exact ⟨a,ys,rfl,SqL.of h1,r1⟩
  ·cases e
 ·cases e
def zpJ (ns : List Int) : Prop := (∀ a,a ∈ ns -> 0 <= a /\ a <= 2 ^ 50) /\ ns.length <= 1000
instance (ns : List Int) : Decidable (zpJ ns) := by unfold zpJ; infer_instance
def zpL (ds : List D) (m : Sto) : Res D := match ds with
 | [d] => match (lOf d m).bind zd5 with
  | some ns => if zpJ ns then .ok (.int ns.sum) m else .bad
  | none => .bad
 | _ => .bad
theorem zpt : FnD K cl ex (fun xs H Q => ∃ (l : Addr) (ns : List Int),xs = [.ref l] /\ SqL K H l (ns.map V.int) /\ (∀ a,a ∈ ns -> 0 <= a /\ a <= 2 ^ 50) /\ ns.length <= 1000 /\ Q (.int ns.sum) H) zpL := fun α m H x vx Q W rx h => by
 unfold zpL at h
 split at h
 ·split at h
  ·rename_i ns e
   obtain ⟨hc,h⟩ := PQ.if h
   obtain ⟨v,rfl,rv⟩ := rx.one_of
   obtain ⟨xs,e1,e2⟩ := Option.bind_eq_some_iff.mp e
   obtain ⟨p,ys,rfl,h1,r1⟩ := zmX W e1 rv
   rw [zc6 e2 r1] at h1
   exact ⟨p,ns,rfl,h1,hc.1,hc.2,PQ.ok W h _ zeP⟩
  ·exact h.elim
 ·exact h.elim
end
def zeU (ty : D -> Sto -> Bool) (g : D -> List D -> Sto -> Res D) (fo : EV) (fr : AV) : EV := fun ρ m => (fo ρ m).bind fun o m1 => if ty o m1 = true then (fr ρ m1).bind fun ds m2 => g o ds m2 else .bad
def MtD (K : PySem.W.Frag) (cl : Str -> Addr) (ex : XD) (r : V -> List V -> Hp -> VK -> Prop) (g : D -> List D -> Sto -> Res D) : Prop :=
 ∀ (α : List Addr) (m : Sto) (H : Hp) (x : D) (xs : List D) (vx : V) (vs : List V) (Q : VK),Wd K cl α m H -> Rep K α H x vx -> RepL K α H xs vs -> PQ K cl ex (g x xs m) α H (fun d α' _ H' => ∀ v,Rep K α' H' d v -> Q v H') -> r vx vs H Q
def isStr (d : D) (_ : Sto) : Bool := match d with
 | .str _ => true
 | _ => false
def zdU (d : D) (m : Sto) : Bool := match d with
 | .lst _ => true
 | .ob k => match m[k]? with
  | some (.lst _) => true
  | _ => false
 | _ => false
def zoK (d : D) (_ : Sto) : Bool := match d with
 | .tup _ => true
 | _ => false
section
variable {X : Cx} {K : PySem.W.Frag} {cl : Str -> Addr} {ex : XD} {α : List Addr} {m : Sto} {H : Hp} {o e : Expr} {es : List Expr} {fo : EV} {fr : AV} {name : Str} {apos cpos : Pos} {T id : String} {r : V -> List V -> Hp -> VK -> Prop} {g : D -> List D -> Sto -> Res D} {ty : D -> Sto -> Bool}
theorem zhw {d : D} {v : V} (h : zdU d m = true) (W : Wd K cl α m H) (r : Rep K α H d v) : tyV K "list" v H := by
 unfold zdU at h
 split at h
 ·rw [Rep] at r; obtain ⟨a,ys,rfl,_,h1,r1⟩ := r; exact .inl ⟨rfl,ys,.inl h1⟩
 ·rw [Rep] at r
  obtain ⟨a,ha,rfl⟩ := r
  split at h
  ·obtain ⟨ys,h1,_⟩ := W.lst ha ‹_›; exact .inl ⟨rfl,ys,SqL.of h1⟩
  ·cases h
 ·cases h
theorem tBM_of (hty : ∀ {α : List Addr} {m : Sto} {H : Hp} {d : D} {v : V},ty d m = true -> Wd X.K cl α m H -> Rep X.K α H d v -> tyV X.K T v H) (hd : MtD X.K cl ex r g) : ∀ σ H Q,tD X.K cl ex (zeU ty g fo fr) σ H Q -> tBM X.K T r (tD X.K cl ex fo) (tDA X.K cl ex fr) σ H Q := fun σ H Q hh => ex3 hh fun α ρ m W hr h =>
 tD.use W hr h fun α1 m1 H1 d v E1 W1 hr1 rv q1 => by
  obtain ⟨ht,q1⟩ := PQ.if q1
  exact ⟨hty ht W1 rv,tDA.use W1 hr1 q1 fun α2 m2 H2 ds vs E2 W2 hr2 rvs q2 => hd α2 m2 H2 d ds v vs Q W2 (rv.mono W1 E2) rvs q2⟩
theorem zl5 (pa : PlainAttrs T) (slot : Slot T name id) (hty : typeOf (.builtin id) = pure (.type "method_descriptor")) (hm : MtR X id r) (hT : ∀ {α : List Addr} {m : Sto} {H : Hp} {d : D} {v : V},ty d m = true -> Wd X.K cl α m H -> Rep X.K α H d v -> tyV X.K T v H) (hd : MtD X.K cl ex r g) (ho : QE X cl ex o fo) (ha : QA X cl ex (e :: es) fr)
  (hbase : autoParam (attributeBase o name X.env (eval o X.env) = eval o X.env) AutoP.a3._auto_1)
  (hfew : autoParam (((backTo cpos (starEach (e :: es) X.env)).all (fun x => !x.1) && (backToKw cpos (keywordEach [] X.env)).all (fun x => x.1.isSome)
   && decide ((e :: es).length + ([] : List Keyword).length + (if ([] : List Keyword).isEmpty then 0 else 1) < 30)) = true) AutoP.a3._auto_1)
  (hline : autoParam ((apos.endLine == cpos.line) = true) AutoP.a3._auto_1) (hs : autoParam (starEach (e :: es) X.env = (false,eval e X.env) :: starEach es X.env) AutoP.a3._auto_1) (hplain : autoParam ((backTo cpos (starEach es X.env)).any (·.1) = false) AutoP.a3._auto_1) :
  QE X cl ex (.Call (.Attribute o name apos) (e :: es) [] cpos) (zeU ty g fo fr) :=
 ⟨PE.weak (pe_bm pa slot hty hm ho.out ha.out hbase hfew hline hs hplain) (tBM_of hT hd)⟩
def zcS (o : D) (ds : List D) (m : Sto) : Res D := match o,ds with
 | .ob k,[d] => match m[k]? with
  | some (.lst xs) => if xs.length < sizeLine then .ok .non (m.set k (.lst (xs ++ [d]))) else .bad
  | _ => .bad
 | _,_ => .bad
theorem zdR : MtD K cl ex zl0 zcS := fun α m H x xs vx vs Q W rx rxs h => by
 unfold zcS at h
 split at h
 ·split at h
  ·rename_i k d _ ds e
   obtain ⟨hc,h⟩ := PQ.if h
   rw [Rep] at rx
   obtain ⟨a,ha,rfl⟩ := rx
   obtain ⟨v,rfl,rv⟩ := rxs.one_of
   obtain ⟨ys,h1,r1⟩ := W.lst ha e
   obtain ⟨W2,E2⟩ := W.set (u := .lst (ys ++ [v])) (o := .lst (ds ++ [d])) ha fun E => ⟨_,zax,RepL.append (r1.mono W E) (RepL.one (rv.mono W E))⟩
   exact ⟨a,ys,v,rfl,rfl,h1,by rw [<- r1.length]; exact hc,h _ _ E2 W2 _ repN⟩
  ·exact h.elim
 ·exact h.elim
def popM (o : D) (ds : List D) (m : Sto) : Res D := match o,ds with
 | .ob k,[.int i] => match m[k]? with
  | some (.lst xs) => if -(2 ^ 63) <= i /\ i < 2 ^ 63 then match seqIndex? i xs.length with
   | some j => match xs[j]? with
    | some d => .ok d (m.set k (.lst (xs.eraseIdx j)))
    | none => .bad
   | none => .bad else .bad
  | _ => .bad
 | _,_ => .bad
theorem RepL.erase {ds : List D} {vs : List V} (j : Nat) (r : RepL K α H ds vs) : RepL K α H (ds.eraseIdx j) (vs.eraseIdx j) := by
 rw [List.eraseIdx_eq_take_drop_succ,List.eraseIdx_eq_take_drop_succ]
 exact RepL.append (r.take j) (r.drop (j + 1))
theorem md_pop : MtD K cl ex zpb popM := fun α m H x xs vx vs Q W rx rxs h => by
 unfold popM at h
 split at h
 ·split at h
  ·rename_i k i _ ds e
   obtain ⟨hc,h⟩ := PQ.if h
   rw [Rep] at rx
   obtain ⟨a,ha,rfl⟩ := rx
   obtain ⟨v,rfl,rv⟩ := rxs.one_of
   rw [Rep] at rv
   subst rv
   obtain ⟨ys,h1,r1⟩ := W.lst ha e
   split at h
   ·rename_i j ej
    split at h
    ·rename_i d ed
     obtain ⟨w,hw,rw'⟩ := r1.get ed
     obtain ⟨W2,E2⟩ := W.set (u := .lst (ys.eraseIdx j)) (o := .lst (ds.eraseIdx j)) ha fun E => ⟨_,zax,(r1.mono W E).erase j⟩
     exact ⟨a,ys,i,j,w,rfl,rfl,h1,hc.1,hc.2,by rw [<- r1.length]; exact ej,hw,h _ _ E2 W2 _ (rw'.mono W E2)⟩
    ·exact h.elim
   ·exact h.elim
  ·exact h.elim
 ·exact h.elim
end
section
variable {X : Cx} {K : PySem.W.Frag} {cl : Str -> Addr} {ex : XD} {α : List Addr} {m : Sto} {H : Hp}
theorem zk8 : MtM X "tuple.index" (fun x xs H Q => ∃ (a : Addr) (ns : List Int) (v : Int) (j : Nat) (h : j < ns.length),x = .ref a /\ xs = [.int v] /\ SqT X.K H a (ns.map V.int) /\ ns[j] = v /\ (∀ m (hm : m < ns.length),m < j -> ns[m] ≠ v) /\ Q (.int (j : Int)) H) := by
 intro pins s σ H x xs v us Q I rx rs h
 obtain ⟨a,ns,z,j,hj,rfl,rfl,ha,hz,hno,q⟩ := h
 cases rx
 obtain ⟨u,rfl,t,rfl⟩ := zb3 rs
 obtain ⟨its,r,p,_⟩ := I.tuple ha
 have hlen : ns.length = its.length := by rw [<- r.length,List.length_map]
 have hat : ∀ m (hm : m < ns.length),∃ t',its[m]'(by omega) = .int ns[m] t' := fun m hm => by
  obtain ⟨t',e⟩ := zly r (i := m) (v := its[m]'(by omega)) (by simp)
  refine ⟨t',?_⟩
  rw [e,znk hm]
 have f1 : ziu (.int z) = true := rfl
 have f2 : (ns.map V.int).all ziu = true := by simp [ziu]
 obtain ⟨⟨cls,dd,data,sl⟩,ho,hc,n,hd⟩ := id p
 simp only at hc hd
 subst hc hd
 refine call_meets PySem.F.slot_tuple_index ⟨_,ho,rfl⟩ PySem.F.entry_tuple_index (PySem.F.args_tuple_index_2 _ _) (zgL a its.toArray n dd sl (.int z t) (eqU (.int z)) j (by simp; omega) ?_ ?_) ⟨ho,?_,?_⟩
 ·obtain ⟨t',e⟩ := hat j hj
  simp only [List.getElem_toArray]
  rw [e,hz]
  show eqV (.int z) (.int z) = true
  simp [eqV]
 ·intro m hm hmj
  have hm2 : m < ns.length := by simp at hm; omega
  obtain ⟨t',e⟩ := hat m hm2
  simp only [List.getElem_toArray]
  rw [e]
  show eqV (.int ns[m]) (.int z) = false
  have := hno m hm2 hmj
  simp [eqV,this]
 ·intro y hy
  exact zka (x := .int z) ⟨t,rfl⟩ f1 r f2 y (by simpa using hy)
 ·exact ⟨.int (j : Int),H,I.tok _,⟨_,rfl⟩,q⟩
def tBMQ (K : PySem.W.Frag) (r : V -> List V -> Hp -> VK -> Prop) (to : TE) (t : TA) : TE := fun σ H Q => to σ H fun x H1 => (∃ p xs,x = .ref p /\ TupAt K H1 p xs) /\ t σ H1 fun ys H2 => r x ys H2 Q
theorem pe_bmQ {o e : Expr} {to : TE} {t : TA} {name : Str} {apos cpos : Pos} {id : String} {r : V -> List V -> Hp -> VK -> Prop} (slot : Slot "tuple" name id) (hty : typeOf (.builtin id) = pure (.type "method_descriptor")) (hm : MtR X id r) (ho : PE X o to) (ha : PA X [e] t)
  (hbase : autoParam (attributeBase o name X.env (eval o X.env) = eval o X.env) AutoP.a3._auto_1)
  (hfew : autoParam (((backTo cpos (starEach [e] X.env)).all (fun x => !x.1) && (backToKw cpos (keywordEach [] X.env)).all (fun x => x.1.isSome) && decide (([e] : List Expr).length + ([] : List Keyword).length + (if ([] : List Keyword).isEmpty then 0 else 1) < 30)) = true) AutoP.a3._auto_1)
  (hline : autoParam ((apos.endLine == cpos.line) = true) AutoP.a3._auto_1) (hs : autoParam (starEach [e] X.env = [(false,eval e X.env)]) AutoP.a3._auto_1) :
  PE X (.Call (.Attribute o name apos) [e] [] cpos) (tBMQ X.K r to t) := by
 intro pins s σ H Q I h
 refine wpAny_Call_method_late hbase hfew hline rfl (thn (ho pins s σ H _ I h) fun v s1 ⟨x,H1,I1,r1,⟨p,xs,ex,hp⟩,q1⟩ => ?_)
 subst ex
 cases r1
 obtain ⟨ob,h1,h2,h3⟩ : ∃ ob,s1.heap.get? p = some ob /\ ob.cls = .type "tuple" /\ ob.dict = none := by
  rcases hp with hp | ⟨o,_,_,k1,k2,k3,_⟩
  ·obtain ⟨_,_,_,⟨ob,h1,h2,_⟩,od,h3,h4⟩ := (show ObjOk X.prog X.w H1 s1.heap p (.tup xs) from I1.hok p _ hp)
   rw [h1] at h3
   cases h3
   exact ⟨ob,h1,h2,h4⟩
  ·exact ⟨o,I1.kIn p o k1,k2,k3⟩
 refine ⟨"tuple", id,PySem.F.plainAttrs_tuple,slot,hty,⟨ob,h1,h2⟩,fun a e => by cases e; exact ⟨ob,h1,h3⟩,?_⟩
 have hA := ha cpos pins s1 σ H1 _ I1 q1
 rw [hs] at hA ⊢
 refine Calls.callWith_builtin rfl (Calls.evalArgs_plain ?_)
 exact thn hA fun us s2 ⟨vs,H2,I2,r2,q2⟩ => hm pins s2 σ H2 (.ref p) vs (.ref p) us Q I2 rfl r2 q2
def zdi (o : D) (ds : List D) (m : Sto) : Res D := match o,ds with
 | .tup xs,[.int v] => match zd5 xs with
  | some ns => if v ∈ ns then .ok (.int (ns.idxOf v)) m else .bad
  | none => .bad
 | _,_ => .bad
theorem zmN : MtD K cl ex (fun x xs H Q => ∃ (a : Addr) (ns : List Int) (v : Int) (j : Nat) (h : j < ns.length),x = .ref a /\ xs = [.int v] /\ SqT K H a (ns.map V.int) /\ ns[j] = v /\ (∀ m (hm : m < ns.length),m < j -> ns[m] ≠ v) /\ Q (.int (j : Int)) H) zdi := fun α m H x xs vx vs Q W rx rxs h => by
 unfold zdi at h
 split at h
 ·split at h
  ·rename_i ns e
   obtain ⟨hc,h⟩ := PQ.if h
   rw [Rep] at rx
   obtain ⟨a,ys,rfl,h1,r1⟩ := rx
   obtain ⟨v,rfl,rv⟩ := rxs.one_of
   rw [Rep] at rv
   subst rv
   have hl := List.idxOf_lt_length_of_mem hc
   rw [zc6 e r1] at h1
   refine ⟨a,ns,_,_,hl,rfl,rfl,h1.sq,List.getElem_idxOf hl,fun k hk hlt z => ?_,PQ.ok W h _ zeP⟩
   have := List.not_of_lt_findIdx (xs := ns) (p := (· == _)) (by unfold List.idxOf at hlt; exact hlt)
   simp [z] at this
  ·exact h.elim
 ·exact h.elim
theorem zhS {o e : Expr} {fo : EV} {fr : AV} {apos cpos : Pos} (ho : QE X cl ex o fo) (ha : QA X cl ex [e] fr)
  (hbase : autoParam (attributeBase o "index" X.env (eval o X.env) = eval o X.env) AutoP.a3._auto_1)
  (hfew : autoParam (((backTo cpos (starEach [e] X.env)).all (fun x => !x.1) && (backToKw cpos (keywordEach [] X.env)).all (fun x => x.1.isSome) && decide (([e] : List Expr).length + ([] : List Keyword).length + (if ([] : List Keyword).isEmpty then 0 else 1) < 30)) = true) AutoP.a3._auto_1)
  (hline : autoParam ((apos.endLine == cpos.line) = true) AutoP.a3._auto_1) (hs : autoParam (starEach [e] X.env = [(false,eval e X.env)]) AutoP.a3._auto_1) :
  QE X cl ex (.Call (.Attribute o "index" apos) [e] [] cpos) (zeU zoK zdi fo fr) :=
 ⟨PE.weak (pe_bmQ PySem.F.slot_tuple_index PySem.F.type_tuple_index zk8 ho.out ha.out hbase hfew hline hs) fun σ H Q hh => ex3 hh fun α ρ m W hr h => tD.use W hr h fun α1 m1 H1 d v E1 W1 hr1 rv q1 => by
  obtain ⟨ht,q1⟩ := PQ.if q1
  refine ⟨?_,tDA.use W1 hr1 q1 fun α2 m2 H2 ds vs E2 W2 hr2 rvs q2 => zmN α2 m2 H2 d ds v vs Q W2 (rv.mono W1 E2) rvs q2⟩
  cases d with
  | tup ds => rw [Rep] at rv; obtain ⟨a,ys,rfl,h1,_⟩ := rv; exact ⟨a,ys,rfl,h1⟩
  | _ => cases ht⟩
def tyN (d : D) (m : Sto) : Option String := match d with
 | .non => some "NoneType"
 | .bl _ => some "bool"
 | .int _ => some "int"
 | .str _ => some "str"
 | .flt _ => some "float"
 | .tup _ => some "tuple"
 | .lst _ => some "list"
 | .ob k => match m[k]? with
  | some (.lst _) => some "list"
  | some (.dct _) => some "dict"
  | _ => none
 | _ => none
def isiB (t n : String) : Bool := t == n || (t == "bool" && n == "int")
def isiD (n : String) (d : D) (m : Sto) : Res D := match tyN d m with
 | some t => .ok (.bl (isiB t n)) m
 | none => .bad
def zoY : List String := ["int", "bool", "str", "tuple", "list", "dict"]
theorem zq4 {d : D} {t n : String} (h : tyN d m = some t) (hn : n ∈ zoY) : PySem.W.kitOne K (.type t) (.type n) = some (isiB t n) := by
 have ht : t ∈ ["NoneType", "bool", "int", "str", "float", "tuple", "list", "dict"] := by
  unfold tyN at h
  split at h <;> first | (cases h; simp; done) | (split at h <;> first | (cases h; simp; done) | cases h) | cases h
 simp only [zoY,List.mem_cons,List.not_mem_nil,or_false] at hn ht
 rcases hn with rfl | rfl | rfl | rfl | rfl | rfl <;> rcases ht with rfl | rfl | rfl | rfl | rfl | rfl | rfl | rfl <;> rfl
theorem znM {n : String} (hn : n ∈ zoY) : CallR X (.builtin "isinstance") (fun xs H Q => ∃ cl α m d v t,xs = [v,.ty n] /\ Wd X.K cl α m H /\ Rep X.K α H d v /\ tyN d m = some t /\ Q (.bl (isiB t n)) H) := by
 intro pins s σ H xs us Q I r h
 obtain ⟨cl,α,m,d,v,t,rfl,W,rv,ht,q⟩ := h
 obtain ⟨u,w,rfl,ru,rw'⟩ := zhv r
 cases rw'
 have kt := zq4 (K := X.K) ht hn
 have old : ∀ {t' : Value},TyOf X.K H v t' -> t' = .type t -> wpAny (model X.prog X.w) X.A (call (.builtin "isinstance") [u,.type n]) (EP X pins σ Q) X.xe s := fun {t'} ty e => by
  subst e
  exact zm9 I ru ty kt fun tk => ⟨.bl _,H,I.tok _,rfl,q⟩
 unfold tyN at ht
 split at ht
 ·cases ht; rw [Rep] at rv; subst rv; exact old .non rfl
 ·cases ht; rw [Rep] at rv; subst rv; exact old (.bl _) rfl
 ·cases ht; rw [Rep] at rv; subst rv; exact old (.int _) rfl
 ·cases ht; rw [Rep] at rv; subst rv; exact old (.str _) rfl
 ·cases ht; rw [Rep] at rv; subst rv; exact old (.flt _) rfl
 ·cases ht
  rw [Rep] at rv
  obtain ⟨a,xs,rfl,h1,_⟩ := rv
  rcases h1 with h1 | ⟨o,_,_,k1,k2,_⟩
  ·exact old (.tup h1) rfl
  ·cases ru
   exact PySem.W.kia_one PySem.W.kitx_tuple I.kIn ⟨o,I.kIn a o k1,k2⟩ kt (fun z => nomatch z) fun tk => ⟨.bl _,H,I.tok _,rfl,q⟩
 ·cases ht
  rw [Rep] at rv
  obtain ⟨a,xs,rfl,_,h1,_⟩ := rv
  rcases h1 with h1 | ⟨o,h1⟩
  ·exact old (.lst h1) rfl
  ·exact old (.frz h1) rfl
 ·rw [Rep] at rv
  obtain ⟨a,ha,rfl⟩ := rv
  split at ht
  ·cases ht; obtain ⟨xs,h1,_⟩ := W.lst ha ‹_›; exact old (.lst h1) rfl
  ·cases ht; obtain ⟨xs,h1,_⟩ := W.dct ha ‹_›; exact old (.dK h1) rfl
  ·cases ht
 ·cases ht
theorem qe_isi {e : Expr} {fa : EV} {p p2 pos : Pos} {x : Str} {n : String} (hn : n ∈ zoY) (hg : Gl X "isinstance") (hm : X.mg "isinstance" = none) (hg2 : Gl X x) (hm2 : X.mg x = none) (hv : bootBuiltins x = some (.type n)) (ha : QE X cl ex e fa) (hx : autoParam (x ≠ "__name__") AutoP.a1._auto_1) (hdb : autoParam ((x == ("__debug__" : Str)) = false) AutoP.a1._auto_1)
  (he : autoParam (starEach [e,.Name x p2] X.env = (false,eval e X.env) :: starEach [.Name x p2] X.env) AutoP.a3._auto_1) (he2 : autoParam (starEach [.Name x p2] X.env = (false,eval (.Name x p2) X.env) :: starEach [] X.env) AutoP.a3._auto_1) (hpl : autoParam ((backTo pos (starEach [.Name x p2] X.env)).any (·.1) = false) AutoP.a3._auto_1) :
  QE X cl ex (.Call (.Name "isinstance" p) [e,.Name x p2] [] pos) (eUn (isiD n) fa) :=
 ⟨PE.weak (zj5 (znM hn) hg hm boot_isinstance (zbP ha.out (zbP (zqA (v := .ty n) hg2 hm2 hv rfl hx hdb) zet he2) he) (by decide) (by decide) he hpl) fun σ H Q hh => ex3 hh fun α ρ m W hr h => tD.use W hr h fun α1 m1 H1 d v E1 W1 hr1 rv q1 => by
  unfold isiD at q1
  split at q1
  ·exact ⟨cl,α1,m1,d,v,_,rfl,W1,rv,‹_›,PQ.ok W1 q1 _ zjY⟩
  ·exact q1.elim⟩
def inB (x : D) (ds : List D) : Option Bool := if zcE x && (pyOkL ds && PyData.canLayAll0 (pyL ds)) then some ((pyL ds).any fun y => PyData.eqv y (py x)) else none
def inO (x y : D) (m : Sto) : Option Bool := match y with
 | .tup ds => inB x ds
 | .lst ds => inB x ds
 | .ob k => match m[k]? with
  | some (.lst ds) => inB x ds
  | some (.dct kvs) => match x with
   | .int i => some (zd8 kvs (.inl i)).isSome
   | .str z => some (zd8 kvs (.inr z)).isSome
   | _ => none
  | _ => none
 | .str j => match x with
  | .str i => some (!(Builtin.Str.occurrences j i 0 j.length 1).isEmpty)
  | _ => none
 | _ => none
def inD (x y : D) (m : Sto) : Res D := match inO x y m with
 | some b => .ok (.bl b) m
 | none => .bad
def zh4 (x y : D) (m : Sto) : Res D := match inO x y m with
 | some b => .ok (.bl (!b)) m
 | none => .bad
def rInS (K : PySem.W.Frag) (f : Bool -> Bool) : R2 := fun vx vy H Q => ∃ (α : List Addr) (x : D) (ds : List D) (p : Addr) (ys : List V),vy = .ref p /\ (SqL K H p ys ∨ SqT K H p ys) /\ RepL K α H ds ys /\ Rep K α H x vx /\ zcE x = true /\ pyOkL ds = true /\ PyData.canLayAll0 (pyL ds) = true /\ Q (.bl (f ((pyL ds).any fun y => PyData.eqv y (py x)))) H
def rInD (f : Bool -> Bool) : R2 := fun x y H Q => ∃ a o,y = .ref a /\ DGet H a x o /\ Q (.bl (f o.isSome)) H
def rInT (f : Bool -> Bool) : R2 := fun x y H Q => ∃ i j,x = .str i /\ y = .str j /\ Q (.bl (f (!(Builtin.Str.occurrences j i 0 j.length 1).isEmpty))) H
def zpX (K : PySem.W.Frag) (f : Bool -> Bool) : R2 := fun x y H Q => rInS K f x y H Q ∨ rInD f x y H Q ∨ rInT f x y H Q
theorem op_inS (hu : X.A.units + 65 < cLine) : OpR X (compareOp .In) (rInS X.K id) := by
 intro pins s σ H vx vy v u Q I rx ry h
 obtain ⟨α,x,ds,p,ys,rfl,sq,r1,r2,d1,ok,cL,q⟩ := h
 cases ry
 rw [zcE,Bool.and_eq_true] at d1
 obtain ⟨bs,h2⟩ := zbs I d1.1 r2 rx
 have c2 := SeqAt.canLay_of_shaped d1.2
 have rm := PyProof.Rows.room_in_shaped (A := X.A) (xs := pyL ds) d1.2 hu
 rcases sq with sq | sq
 ·obtain ⟨its,rv,⟨o,n,e1,e2,_,e3⟩,_⟩ := I.list sq
  obtain ⟨as,h1⟩ := rep_readsL I ok r1 rv
  exact SeqAt.in_list_reads (Reads.list e1 e2 e3 (by simpa using h1)) h2 cL c2 rm ⟨.bl _,H,I,rfl,q⟩
 ·obtain ⟨its,rv,⟨o,e1,e2,n,e3⟩,_⟩ := I.tuple sq
  obtain ⟨as,h1⟩ := rep_readsL I ok r1 rv
  exact SeqAt.in_tuple_reads (Reads.tuple e1 e2 e3 (by simpa using h1)) h2 cL c2 rm ⟨.bl _,H,I,rfl,q⟩
theorem zmk (hu : X.A.units + 65 < cLine) : OpR X (compareOp .NotIn) (rInS X.K not) := by
 intro pins s σ H vx vy v u Q I rx ry h
 obtain ⟨α,x,ds,p,ys,rfl,sq,r1,r2,d1,ok,cL,q⟩ := h
 cases ry
 rw [zcE,Bool.and_eq_true] at d1
 obtain ⟨bs,h2⟩ := zbs I d1.1 r2 rx
 have c2 := SeqAt.canLay_of_shaped d1.2
 have rm := PyProof.Rows.room_in_shaped (A := X.A) (xs := pyL ds) d1.2 hu
 rcases sq with sq | sq
 ·obtain ⟨its,rv,⟨o,n,e1,e2,_,e3⟩,_⟩ := I.list sq
  obtain ⟨as,h1⟩ := rep_readsL I ok r1 rv
  exact SeqAt.notIn_list_reads (Reads.list e1 e2 e3 (by simpa using h1)) h2 cL c2 rm ⟨.bl _,H,I,rfl,q⟩
 ·obtain ⟨its,rv,⟨o,e1,e2,n,e3⟩,_⟩ := I.tuple sq
  obtain ⟨as,h1⟩ := rep_readsL I ok r1 rv
  exact SeqAt.notIn_tuple_reads (Reads.tuple e1 e2 e3 (by simpa using h1)) h2 cL c2 rm ⟨.bl _,H,I,rfl,q⟩
theorem op_inD (hu : X.A.units + 1 < cLine) : OpR X (compareOp .In) (rInD id) := by
 intro pins s σ H x y v u Q I rx ry h
 obtain ⟨a,o,rfl,g,q⟩ := h
 cases ry
 exact d_in hu I g rx fun s' I' => ⟨.bl _,H,I',rfl,q⟩
theorem zml (hu : X.A.units + 1 < cLine) : OpR X (compareOp .NotIn) (rInD not) := by
 intro pins s σ H x y v u Q I rx ry h
 obtain ⟨a,o,rfl,g,q⟩ := h
 cases ry
 exact zrh hu I g rx fun s' I' => ⟨.bl _,H,I',rfl,q⟩
theorem hu65 {A : Around} {k : Nat} (hr : Room k A) : A.units + 65 < cLine := by have := hr.un; omega
theorem zpf {k : Nat} (hr : Room k X.A) : OpR X (compareOp .In) (zpX X.K id) := OpR.or (op_inS (hu65 hr)) (OpR.or (op_inD (znf hr)) zmp)
theorem zmm {k : Nat} (hr : Room k X.A) : OpR X (compareOp .NotIn) (zpX X.K not) := OpR.or (zmk (hu65 hr)) (OpR.or (zml (znf hr)) zhU)
theorem zne {f : Bool -> Bool} {x y : D} {vx vy : V} {b : Bool} {Q : VK} (W : Wd K cl α m H) (e : inO x y m = some b) (rx : Rep K α H x vx) (ry : Rep K α H y vy) (q : Q (.bl (f b)) H) : zpX K f vx vy H Q := by
 have seq : ∀ {ds : List D} {p : Addr} {ys : List V},inB x ds = some b -> vy = .ref p -> (SqL K H p ys ∨ SqT K H p ys) -> RepL K α H ds ys -> zpX K f vx vy H Q := fun {ds p ys} e1 e2 e3 e4 => by
  unfold inB at e1
  split at e1
  ·rename_i hc
   rw [Bool.and_eq_true,Bool.and_eq_true] at hc
   exact .inl ⟨α,x,ds,p,ys,e2,e3,e4,rx,hc.1,hc.2.1,hc.2.2,by rw [Option.some.inj e1]; exact q⟩
  ·cases e1
 unfold inO at e
 split at e
 ·rw [Rep] at ry; obtain ⟨a,ys,rfl,h1,r1⟩ := ry; exact seq e rfl (.inr h1.sq) r1
 ·rw [Rep] at ry; obtain ⟨a,ys,rfl,_,h1,r1⟩ := ry; exact seq e rfl (.inl (.inl h1)) r1
 ·rw [Rep] at ry
  obtain ⟨a,ha,rfl⟩ := ry
  split at e
  ·obtain ⟨ys,h1,r1⟩ := W.lst ha ‹_›; exact seq e rfl (.inl (SqL.of h1)) r1
  ·obtain ⟨ys,h1,r1⟩ := W.dct ha ‹_›
   have key : ∀ {k : L2.Key},vx = kV k -> some (zd8 _ k).isSome = some b -> zpX K f vx (.ref a) H Q := fun {k} e1 e2 => by
    refine .inr (.inl ⟨a,ziO ys k,rfl,by rw [e1]; exact DGet.k h1,?_⟩)
    have : (ziO ys k).isSome = b := by
     rw [<- Option.some.inj e2]
     cases h : zd8 _ k with
     | none => rw [(RepKV.val r1).2 h]; rfl
     | some d => obtain ⟨v,hv,_⟩ := (RepKV.val r1).1 d h; rw [hv]; rfl
    rw [this]
    exact q
   split at e
   ·rw [Rep] at rx; exact key (k := .inl _) rx e
   ·rw [Rep] at rx; exact key (k := .inr _) rx e
   ·cases e
  ·cases e
 ·split at e
  ·rw [Rep] at rx; rw [Rep] at ry; exact .inr (.inr ⟨_,_,rx,ry,by rw [Option.some.inj e]; exact q⟩)
  ·cases e
 ·cases e
theorem od_in : OpD K cl ex (zpX K id) inD := fun α m H x y vx vy Q W rx ry h => by
 unfold inD at h
 split at h
 ·exact zne (f := id) W ‹_› rx ry (PQ.ok W h _ zjY)
 ·exact h.elim
theorem zoz : OpD K cl ex (zpX K not) zh4 := fun α m H x y vx vy Q W rx ry h => by
 unfold zh4 at h
 split at h
 ·exact zne (f := not) W ‹_› rx ry (PQ.ok W h _ zjY)
 ·exact h.elim
end
section
variable {X : Cx} {cl : Str -> Addr} {ex : XD} {o i e value : Expr} {fo fi fv : EV} {fr : AV} {pos p pos' : Pos}
def zie (d : D) : Option L2.Key := match d with
 | .int i => some (.inl i)
 | .str z => some (.inr z)
 | _ => none
def putS (x y v : D) (m : Sto) : Res Unit := match x with
 | .ob k => match m[k]?,zie y with
  | some (.dct kvs),some q => if kvs.length < sizeLine then .ok () (m.set k (.dct (zg5 kvs q v))) else .bad
  | some (.lst ds),some (.inl i) => match ixN ds.length i with
   | some j => .ok () (m.set k (.lst (ds.set j v)))
   | none => .bad
  | _,_ => .bad
 | _ => .bad
theorem zid {K : PySem.W.Frag} {α : List Addr} {H : Hp} {d : D} {v : V} {k : L2.Key} (h : zie d = some k) (r : Rep K α H d v) : v = kV k := by
 unfold zie at h
 split at h
 ·cases h; rw [Rep] at r; exact r
 ·cases h; rw [Rep] at r; exact r
 ·cases h
def zf5 (x y v : D) (m : Sto) : Res Unit := match x with
 | .ob k => match m[k]? with
  | some (.dct kvs) => match zie y with
   | some q => if kvs.length < sizeLine then .ok () (m.set k (.dct (zg5 kvs q v))) else .bad
   | none => .bad
  | _ => .bad
 | _ => .bad
def zkR (fo fi fv : EV) : SV := fun ρ m => (fv ρ m).bind fun v m1 => (fo ρ m1).bind fun x m2 => (fi ρ m2).bind fun y m3 => (zf5 x y v m3).bind fun _ m4 => .ok (.nx ρ) m4
theorem zl3 (hu : X.A.units + 1 < cLine) (ho : QE X cl ex o fo) (hi : QE X cl ex i fi) (hv : QE X cl ex value fv) (hs : swapsWith value (some (.Subscript o i pos')) pos.line X.env = pure false) :
  QS X cl ex (.Assign [.Subscript o i pos'] value pos) (zkR fo fi fv) :=
 ⟨PS.weak (zqd hu ho.out hi.out hv.out hs) fun D σ H hh => ex3 hh fun α ρ m W hr h => tD.use W hr h fun α1 m1 H1 dv v E1 W1 hr1 rv q1 => tD.use W1 hr1 q1 fun α2 m2 H2 dx x E2 W2 hr2 rx q2 => tD.use W2 hr2 q2 fun α3 m3 H3 dy y E3 W3 hr3 ry q3 => by
  have rv := rv.mono W1 (E2.trans E3)
  have rx := rx.mono W2 E3
  unfold zf5 at q3
  split at q3
  ·rw [Rep] at rx
   obtain ⟨a,ha,rfl⟩ := rx
   split at q3
   ·rename_i k _ kvs e
    split at q3
    ·rename_i q ek
     split at q3
     ·rename_i hc
      obtain ⟨ys,h1,r1⟩ := W3.dct ha e
      obtain ⟨W4,E4⟩ := W3.set (u := .dK (zdP ys q v)) (o := .dct (zg5 kvs q dv)) ha fun E => ⟨_,zax,RepKV.put (rv.mono W3 E) (r1.mono W3 E)⟩
      refine ⟨a,_,rfl,by rw [zid ek ry]; exact DPut.k h1 (by rw [<- r1.length]; exact hc),?_⟩
      exact (show PQ X.K cl ex (.ok (.nx ρ) (m3.set k (.dct (zg5 kvs q dv)))) α3 H3 fun fl α' _ H' => zeL X.K D fl α' H' from q3) _ _ E4 W4 _ (hr3.mono W3 E4)
     ·exact q3.elim
    ·exact q3.elim
   ·exact q3.elim
  ·exact q3.elim⟩
def zfr : List (Str × EV) -> En -> Sto -> Res (List (L2.Key × D))
 | [],_,m => .ok [] m
 | (k,f) :: r,ρ,m => (f ρ m).bind fun d m1 => (zfr r ρ m1).bind fun ps m2 => .ok ((.inr k,d) :: ps) m2
def zmM (more : List (L2.Key × D)) : List (L2.Key × D) := more.foldl (fun acc kv => zg5 acc kv.1 kv.2) []
def zhp (fs : List (Str × EV)) : EV := fun ρ m => (zfr fs ρ m).bind fun ps m1 => .ok (.ob m1.length) (m1 ++ [.dct (zmM ps)])
inductive QPs (X : Cx) (cl : Str -> Addr) (ex : XD) : List (Option Expr) -> List Expr -> List (Str × EV) -> Prop where
 | nil : QPs X cl ex [] [] []
 | cons {k : Str} {j} {pk : Pos} {v : Expr} {f : EV} {ks : List (Option Expr)} {vs : List Expr} {fs : List (Str × EV)} : QE X cl ex v f -> QPs X cl ex ks vs fs -> QPs X cl ex (some (.Constant (.str k) j pk) :: ks) (v :: vs) ((k,f) :: fs)
theorem QPs.pps {ks : List (Option Expr)} {vs : List Expr} {fs : List (Str × EV)} (h : QPs X cl ex ks vs fs) : PPs X pos ks vs (fs.map fun q => (tC (.str q.1),tD X.K cl ex q.2)) := by
 induction h with
 | nil => exact zqe
 | cons hv _ ih => exact zok zpd hv.out ih
theorem QPs.keys {ks : List (Option Expr)} {vs : List Expr} {fs : List (Str × EV)} (h : QPs X cl ex ks vs fs) : ks.all (·.isSome) = true /\ ks.length = vs.length /\ ks.length = fs.length := by
 induction h with
 | nil => exact ⟨rfl,rfl,rfl⟩
 | cons _ _ ih => exact ⟨by rw [List.all_cons,ih.1]; rfl,by rw [List.length_cons,List.length_cons,ih.2.1],by rw [List.length_cons,List.length_cons,ih.2.2]⟩
theorem zhz {K : PySem.W.Frag} {σ : L2.St} {ρ : En} {R : RD (List (L2.Key × D))} : ∀ (fs : List (Str × EV)) {α : List Addr} {m : Sto} {H : Hp} {Q : List (V × V) -> Hp -> Prop},Wd K cl α m H -> RepE K α H ρ σ -> PQ K cl ex (zfr fs ρ m) α H R →
  (∀ α1 m1 H1 ps vs,Ext α H α1 H1 -> Wd K cl α1 m1 H1 -> RepE K α1 H1 ρ σ -> ps.length = fs.length -> RepKV K α1 H1 ps vs -> R ps α1 m1 H1 -> Q (vs.map fun kv => (kV kv.1,kv.2)) H1) -> zjN (fs.map fun q => (tC (.str q.1),tD K cl ex q.2)) σ H Q
 | [],α,m,H,Q,W,hr,h,hQ => hQ α m H [] [] (Ext.refl W) W hr rfl rfl (PQ.ok W h)
 | (k,f) :: r,α,m,H,Q,W,hr,h,hQ => by
  refine tD.use W hr h fun α1 m1 H1 d v E1 W1 hr1 rv q1 => ?_
  refine zhz (R := fun ps α2 m2 H2 => R ((.inr k,d) :: ps) α2 m2 H2) r W1 hr1 (PQ.mono (Ext.refl W1) q1.bind fun ps α2 m2 H2 E2 W2 q2 => PQ.ok W2 q2) fun α2 m2 H2 ps vs E2 W2 hr2 hl rps q2 => ?_
  exact hQ α2 m2 H2 ((.inr k,d) :: ps) ((.inr k,v) :: vs) (E1.trans E2) W2 hr2 (by rw [List.length_cons,List.length_cons,hl]) ⟨v,vs,rfl,rv.mono W1 E2,rps⟩ q2
theorem zhO {K : PySem.W.Frag} {α : List Addr} {H : Hp} : ∀ (ps : List (L2.Key × D)) {vs : List (L2.Key × V)} {qs : List (L2.Key × D)} {us : List (L2.Key × V)},RepKV K α H ps vs -> RepKV K α H qs us -> RepKV K α H (ps.foldl (fun acc kv => zg5 acc kv.1 kv.2) qs) (zcM us vs)
 | [],_,_,_,h,h' => by
  cases (show _ = [] from h)
  exact h'
 | p :: r,_,_,_,⟨v,r',e,h1,h2⟩,h' => by
  subst e
  exact (show RepKV K α H _ (zcM (zdP _ p.1 v) r') from zhO r h2 (RepKV.put h1 h'))
theorem zp2 {ks : List (Option Expr)} {vs : List Expr} {fs : List (Str × EV)} (h : QPs X cl ex ks vs fs) (h0 : ks ≠ []) (h15 : ks.length <= 15) : QE X cl ex (.Dict ks vs pos) (zhp fs) :=
 ⟨PE.weak (zqw h.pps h.keys.1 h.keys.2.1 h0 h15) fun σ H Q hh => ex3 hh fun α ρ m W hr q p hp => by
  have s0 := Same.new (o := .dK []) hp
  have W0 := W.same s0
  have E0 := Ext.of_same W s0
  refine zhz (R := fun ps α1 m1 H1 => PQ X.K cl ex (.ok (.ob m1.length) (m1 ++ [.dct (zmM ps)])) α H fun d α' _ H' => ∀ v,Rep X.K α' H' d v -> Q v H') fs W0 (hr.mono W E0) ?_ fun α1 m1 H1 ps us E1 W1 hr1 hl rps q1 => ?_
  ·cases hf : zfr fs ρ m with
   | ok ps m1 => rw [show zhp fs ρ m = (zfr fs ρ m).bind _ from rfl,hf] at q; exact fun _ _ _ _ => q
   | exc c m1 => rw [show zhp fs ρ m = (zfr fs ρ m).bind _ from rfl,hf] at q; exact fun α2 H2 E2 W2 => q α2 H2 (E0.trans E2) W2
   | bad => rw [show zhp fs ρ m = (zfr fs ρ m).bind _ from rfl,hf] at q; exact q
  have pn : p ∉ α := W.nin hp
  have pk : H1 p = some (.dK []) := E1.keep p _ zax pn
  have E01 : Ext α H α1 H1 := E0.trans E1
  have pn1 : p ∉ α1 := fun z => by
   obtain ⟨β,rfl,hb⟩ := E1.pre
   rcases List.mem_append.mp z with z | z
   ·exact pn z
   ·have := hb p z
    rw [zax] at this
    cases this
  refine ⟨pk,us,rfl,by rw [<- rps.length,hl,<- h.keys.2.2]; exact h15,?_⟩
  have keep : ∀ a o,H1 a = some o -> a ≠ p -> upd H1 p (.dK (zcM [] us)) a = some o := fun a o e n => by rw [zao n]; exact e
  have kp : Kp α1 H1 (α1 ++ [p]) (upd H1 p (.dK (zcM [] us))) := by
   refine ⟨⟨[p],rfl⟩,(fun a xs e => keep a _ e fun z => by rw [z,pk] at e; cases e),fun a xs n e => ?_⟩
   have hap : a ≠ p := fun z => by
    rcases e with e | ⟨_,e⟩ <;> rw [z,pk] at e <;> cases e
   refine ⟨fun z => ?_,?_⟩
   ·rcases List.mem_append.mp z with z | z
    ·exact n z
    ·exact hap (List.mem_singleton.mp z)
   ·rcases e with e | ⟨o,e⟩
    ·exact .inl (keep a _ e hap)
    ·exact .inr ⟨o,keep a _ e hap⟩
  have W2 := W1.join (u := .dK (zcM [] us)) (o := .dct (zmM ps)) pn1 kp ⟨_,zax,zhO ps (rps.kp kp) (show RepKV X.K _ _ [] [] from rfl)⟩
  have E2 : Ext α H (α1 ++ [p]) (upd H1 p (.dK (zcM [] us))) := by
   obtain ⟨β,hβ,hb⟩ := E01.pre
   refine ⟨⟨β ++ [p],by rw [hβ,List.append_assoc],fun b hbm => ?_⟩,fun a o e n => ?_,fun a ha => ?_,fun a o u e => keep a _ (E01.frzs a o u e) (zaz e hp)⟩
   ·rcases List.mem_append.mp hbm with z | z
    ·exact hb b z
    ·rw [List.mem_singleton.mp z]; exact hp
   ·exact keep a o (E01.keep a o e n) (zaz e hp)
   ·rw [zao (fun z => pn (by rw [<- z]; exact ha))]; exact E01.there a ha
  refine q1 _ _ E2 W2 _ ?_
  rw [Rep]
  refine ⟨p,?_,rfl⟩
  rw [<- W1.len,List.getElem?_append_right (Nat.le_refl _)]
  simp⟩
end
structure FnX (P : Program) (w : World) (K : PySem.W.Frag) (mg : Str -> Option Value) (base : Heap) (cl : Str -> Addr) (x : Str) (k n : Nat) (g : List D -> Sto -> Res D) : Prop where
 ex : ∃ (f : Addr) (fd : FuncData) (ps : List Str),mg x = some (.ref f) /\ PySem.W.keepIn K (.ref f) = true /\ Binds K fd ps [] /\ FnOk P w K mg base CX0 k f fd ps (spD K cl X0 n g)
theorem qe_fn {X : Cx} {cl : Str -> Addr} {e : Expr} {es : List Expr} {fr : AV} {p pos : Pos} {x : Str} {k n : Nat} {g : List D -> Sto -> Res D} (h : FnX X.prog X.w X.K X.mg X.base cl x k n g) (hn : n = (e :: es).length) (hr : Room k X.A) (hg : Gl X x)
  (ha : QA X cl X0 (e :: es) fr) (hlen : ∀ ρ m ds m1,fr ρ m = .ok ds m1 -> ds.length = (e :: es).length) (hdb : autoParam ((x == ("__debug__" : Str)) = false) AutoP.a1._auto_1) (he : autoParam (starEach (e :: es) X.env = (false,eval e X.env) :: starEach es X.env) AutoP.a3._auto_1) (hpl : autoParam ((backTo pos (starEach es X.env)).any (·.1) = false) AutoP.a3._auto_1) :
  QE X cl X0 (.Call (.Name x p) (e :: es) [] pos) (eFn g fr) := by
 obtain ⟨f,fd,ps,h1,h2,h3,h4⟩ := h.ex
 exact zp3 h4 hn hr hg h1 h2 h3 ha hlen hdb he hpl
theorem FnX.mk' {P : Program} {w : World} {K : PySem.W.Frag} {mg : Str -> Option Value} {base : Heap} {cl : Str -> Addr} {x qual : Str} {st : Stmt} {f : Addr} {fd : FuncData} {N ps : List Str} {k n : Nat} {body : SV} (F : Fun K x qual st f fd) (b : Binds K fd ps []) (m : mg x = some (.ref f)) (S : FnScope N ps (zai st)) (hn : n = ps.length)
  (h : ∀ (cdv : Value) (A : Around) (outer : List PySem.Env) (s : Shared) (H : Hp) (E : XK),Room k (A.deeper (envOfC qual (zai st) s.heap.objs.size f cdv)) -> QSs (zlu CX0 P w K mg base N qual (zai st) f cdv A outer s H E).nox cl X0 (zbA st) body) : FnX P w K mg base cl x (k + 1) n (zbf N.length body) :=
 ⟨f,fd,ps,m,F.kp,b,F.ok S (fun vs H Q E h => by rw [<- hn]; exact h.1) fun cdv A outer s H vs Q E hr q => ⟨_,(h cdv A outer s H E hr).out,fn_d q⟩⟩
mutual
def clsd (n : Nat) : D -> Bool
 | .ob k => decide (k < n)
 | .tup ds => clsdL n ds
 | .lst ds => clsdL n ds
 | .scr ds => clsdL n ds
 | _ => true
def clsdL (n : Nat) : List D -> Bool
 | [] => true
 | d :: r => clsd n d && clsdL n r
end
section
variable {K : PySem.W.Frag} {cl : Str -> Addr} {ex : XD} {α β : List Addr} {m m1 : Sto} {H : Hp}
mutual
theorem Rep.clsd : ∀ {d : D} {v : V},Rep K α H d v -> MD.clsd α.length d = true
 | .non,_,_ => by simp [MD.clsd]
 | .bl _,_,_ => by simp [MD.clsd]
 | .int _,_,_ => by simp [MD.clsd]
 | .str _,_,_ => by simp [MD.clsd]
 | .flt _,_,_ => by simp [MD.clsd]
 | .byt _,_,_ => by simp [MD.clsd]
 | .ob k,_,h => by
  rw [Rep] at h
  obtain ⟨a,h1,_⟩ := h
  rw [MD.clsd]
  exact decide_eq_true (List.getElem?_eq_some_iff.mp h1).1
 | .tup ds,_,h => by
  rw [Rep] at h
  obtain ⟨_,_,_,_,h2⟩ := h
  rw [MD.clsd]
  exact RepL.clsd h2
 | .lst ds,_,h => by
  rw [Rep] at h
  obtain ⟨_,_,_,_,_,h2⟩ := h
  rw [MD.clsd]
  exact RepL.clsd h2
 | .scr ds,_,h => by
  rw [Rep] at h
  obtain ⟨_,_,_,_,h2⟩ := h
  rw [MD.clsd]
  exact RepL.clsd h2
theorem RepL.clsd : ∀ {ds : List D} {vs : List V},RepL K α H ds vs -> clsdL α.length ds = true
 | [],_,_ => by simp [clsdL]
 | _ :: _,_,h => by
  rw [RepL] at h
  obtain ⟨_,_,_,h1,h2⟩ := h
  rw [clsdL,Bool.and_eq_true]
  exact ⟨Rep.clsd h1,RepL.clsd h2⟩
end
mutual
theorem Rep.less : ∀ {d : D} {v : V},MD.clsd α.length d = true -> Rep K (α ++ β) H d v -> Rep K α H d v
 | .non,_,_,h => by simpa [Rep] using h
 | .bl _,_,_,h => by simpa [Rep] using h
 | .int _,_,_,h => by simpa [Rep] using h
 | .str _,_,_,h => by simpa [Rep] using h
 | .flt _,_,_,h => by simpa [Rep] using h
 | .byt _,_,_,h => by simpa [Rep] using h
 | .ob k,_,c,h => by
  rw [Rep] at h ⊢
  obtain ⟨a,h1,h2⟩ := h
  rw [MD.clsd] at c
  rw [List.getElem?_append_left (of_decide_eq_true c)] at h1
  exact ⟨a,h1,h2⟩
 | .tup ds,_,c,h => by
  rw [Rep] at h ⊢
  obtain ⟨a,xs,e,h1,h2⟩ := h
  rw [MD.clsd] at c
  exact ⟨a,xs,e,h1,RepL.less c h2⟩
 | .lst ds,_,c,h => by
  rw [Rep] at h ⊢
  obtain ⟨a,xs,e,n,h1,h2⟩ := h
  rw [MD.clsd] at c
  exact ⟨a,xs,e,fun z => n (List.mem_append_left _ z),h1,RepL.less c h2⟩
 | .scr ds,_,c,h => by
  rw [Rep] at h ⊢
  obtain ⟨a,xs,e,h1,h2⟩ := h
  rw [MD.clsd] at c
  refine ⟨a,xs,e,?_,RepL.less c h2⟩
  rcases h1 with h1 | h1
  ·exact .inl ⟨fun z => h1.1 (List.mem_append_left _ z),h1.2⟩
  ·exact .inr h1
theorem RepL.less : ∀ {ds : List D} {vs : List V},clsdL α.length ds = true -> RepL K (α ++ β) H ds vs -> RepL K α H ds vs
 | [],_,_,h => by rw [RepL] at h ⊢; exact h
 | _ :: _,_,c,h => by
  rw [RepL] at h ⊢
  obtain ⟨v,r,e,h1,h2⟩ := h
  rw [clsdL,Bool.and_eq_true] at c
  exact ⟨v,r,e,Rep.less c.1 h1,RepL.less c.2 h2⟩
end
theorem RepKV.less {H0 : Hp} : ∀ {ds : List (L2.Key × D)} {vs us : List (L2.Key × V)},RepKV K α H0 ds us -> RepKV K (α ++ β) H ds vs -> RepKV K α H ds vs
 | [],_,_,_,h => h
 | _ :: _,_,_,⟨_,_,_,c1,c2⟩,⟨v,r,e,h1,h2⟩ => ⟨v,r,e,h1.less c1.clsd,RepKV.less c2 h2⟩
theorem RepF.less {H0 : Hp} : ∀ {ds : List (Str × D)} {vs us : List (Str × V)},RepF K α H0 ds us -> RepF K (α ++ β) H ds vs -> RepF K α H ds vs
 | [],_,_,_,h => h
 | _ :: _,_,_,⟨_,_,_,c1,c2⟩,⟨v,r,e,h1,h2⟩ => ⟨v,r,e,h1.less c1.clsd,RepF.less c2 h2⟩
theorem Wd.less {H0 : Hp} (W0 : Wd K cl α m H0) (W : Wd K cl (α ++ β) m1 H) (e : m1.take m.length = m) : Wd K cl α m H := by
 refine ⟨W0.len,(List.nodup_append.mp W.nd).1,fun k a o h1 h2 => ?_⟩
 have hk := (List.getElem?_eq_some_iff.mp h1).1
 have hm : k < m.length := (List.getElem?_eq_some_iff.mp h2).1
 have h3 : m1[k]? = some o := by
  rw [<- e,List.getElem?_take_of_lt hm] at h2
  exact h2
 have q := W.at' k a o (by rw [List.getElem?_append_left hk]; exact h1) h3
 have q0 := W0.at' k a o h1 h2
 cases o with
 | lst ds => obtain ⟨xs,a1,a2⟩ := q; obtain ⟨_,_,b2⟩ := q0; exact ⟨xs,a1,a2.less b2.clsd⟩
 | dct ds => obtain ⟨xs,a1,a2⟩ := q; obtain ⟨_,_,b2⟩ := q0; exact ⟨xs,a1,RepKV.less b2 a2⟩
 | ins c ds => obtain ⟨dx,xs,a1,a2⟩ := q; obtain ⟨_,_,_,b2⟩ := q0; exact ⟨dx,xs,a1,RepF.less b2 a2⟩
 | hid => exact q
end
def frz (m : Sto) (n : Nat) (d : D) : D := match d with
 | .ob k => if n <= k then match m[k]? with
  | some (.lst xs) => .lst xs
  | _ => .ob k else .ob k
 | d => d
open Classical in
def locF (g : List D -> Sto -> Res D) : List D -> Sto -> Res D := fun ds m => (g ds m).bind fun d m1 => if m1.take m.length = m /\ clsd m.length (frz m1 m.length d) = true then .ok (frz m1 m.length d) m else .bad
theorem znp (m : Sto) (n : Nat) (d : D) : frz m n d = d ∨ ∃ k xs,d = .ob k /\ n <= k /\ m[k]? = some (.lst xs) /\ frz m n d = .lst xs := by
 cases d with
 | ob k =>
  by_cases hk : n <= k
  ·cases h : m[k]? with
   | none => left; simp [frz,h]
   | some o =>
    cases o with
    | lst xs => right; exact ⟨k,xs,rfl,hk,h,by simp [frz,hk,h]⟩
    | dct _ => left; simp [frz,h]
    | ins _ _ => left; simp [frz,h]
    | hid => left; simp [frz,h]
  ·left; simp [frz,hk]
 | _ => left; rfl
theorem zpW {K : PySem.W.Frag} {cl : Str -> Addr} {α β : List Addr} {m m1 : Sto} {H : Hp} {d : D} {v : V} (W : Wd K cl (α ++ β) m1 H) (e : α.length = m.length) (c : clsd m.length (frz m1 m.length d) = true) (r : Rep K (α ++ β) H d v) : Rep K α H (frz m1 m.length d) v := by
 rw [<- e] at c ⊢
 rcases znp m1 α.length d with h | ⟨k,xs,rfl,hk,hx,h⟩
 ·rw [h] at c ⊢
  exact Rep.less c r
 ·rw [h] at c ⊢
  rw [Rep] at r
  obtain ⟨a,h1,rfl⟩ := r
  obtain ⟨ys,h2,r2⟩ := W.lst h1 hx
  rw [clsd] at c
  rw [Rep]
  refine ⟨a,ys,rfl,fun z => ?_,.inl h2,r2.less c⟩
  obtain ⟨j,hj,hja⟩ := List.mem_iff_getElem.mp z
  obtain ⟨hk2,hka⟩ := List.getElem?_eq_some_iff.mp h1
  have : j = k := (List.getElem_inj (i := j) (j := k) (h₀ := by rw [List.length_append]; omega) (h₁ := hk2) W.nd).mp (by rw [List.getElem_append_left hj,hja,hka])
  omega
open Classical in
theorem FnX.loc {P : Program} {w : World} {K : PySem.W.Frag} {mg : Str -> Option Value} {base : Heap} {cl : Str -> Addr} {x : Str} {k n : Nat} {g : List D -> Sto -> Res D} (h : FnX P w K mg base cl x k n g) : FnX P w K mg base cl x k n (locF g) := by
 obtain ⟨f,fd,ps,h1,h2,h3,h4⟩ := h.ex
 refine ⟨f,fd,ps,h1,h2,h3,h4.imp fun vs H Q E ⟨hn,α,m,ds,W,r,q⟩ => ⟨hn,α,m,ds,W,r,?_⟩⟩
 unfold locF at q
 cases hg : g ds m with
 | bad => rw [hg] at q; exact q.elim
 | exc c m1 => rw [hg] at q; exact q
 | ok d m1 =>
  rw [hg] at q
  have q' : PQ K cl X0 (if m1.take m.length = m /\ clsd m.length (frz m1 m.length d) = true then .ok (frz m1 m.length d) m else .bad) α H fun d α' _ H' => ∀ v,Rep K α' H' d v -> Q v H' := q
  obtain ⟨⟨c1,c2⟩,q2⟩ := PQ.if q'
  intro α1 H1 E1 W1 v rv
  obtain ⟨β,rfl,hb⟩ := E1.pre
  have E2 : Ext α H α H1 := ⟨⟨[],by simp,fun _ h => nomatch h⟩,E1.keep,E1.there,E1.frzs⟩
  exact q2 α H1 E2 (W.less W1 c1) v (zpW W1 W.len c2 rv)
theorem fnO {P : Program} {w : World} {K : PySem.W.Frag} {mg : Str -> Option Value} {base : Heap} {cl : Str -> Addr} {x qual : Str} {st : Stmt} {f : Addr} {fd : FuncData} {N ps : List Str} {k n : Nat} {body : SV} (F : Fun K x qual st f fd) (S : FnScope N ps (zai st)) (hn : n = ps.length)
  (h : ∀ (cdv : Value) (A : Around) (outer : List PySem.Env) (s : Shared) (H : Hp) (E : XK),Room k (A.deeper (envOfC qual (zai st) s.heap.objs.size f cdv)) -> QSs (zlu CX0 P w K mg base N qual (zai st) f cdv A outer s H E).nox cl X0 (zbA st) body) : FnOk P w K mg base CX0 (k + 1) f fd ps (spD K cl X0 n (zbf N.length body)) :=
 F.ok S (fun vs H Q E h => by rw [<- hn]; exact h.1) fun cdv A outer s H vs Q E hr q => ⟨_,(h cdv A outer s H E hr).out,fn_d q⟩
def spLaw (K : PySem.W.Frag) : Sp := fun vs H Q _ => ∃ (a : Addr) (ns : List Int),vs = [.ref a] /\ SqL K H a (ns.map V.int) /\ ns.length <= 63 /\ ∀ H',Q (.bl true) H'
theorem zhP {K : PySem.W.Frag} {α : List Addr} {H : Hp} : ∀ ns : List Int,RepL K α H (ns.map D.int) (ns.map V.int)
 | [] => by simp [RepL]
 | a :: r => by
  rw [List.map_cons,List.map_cons,RepL]
  exact ⟨_,_,rfl,by rw [Rep],zhP r⟩
theorem law_sp {K : PySem.W.Frag} {cl : Str -> Addr} {g : List D -> Sto -> Res D} (h : ∀ ns : List Int,ns.length <= 63 -> ∃ a m,g [.scr (ns.map D.int)] [] = .ok a m /\ a = .bl true) : ∀ vs H Q E,spLaw K vs H Q E -> spD K cl X0 1 g vs H Q E := by
 rintro vs H Q E ⟨a,ns,rfl,hS,hlen,q⟩
 obtain ⟨_,m',e,rfl⟩ := h ns hlen
 refine ⟨rfl,[],[],[.scr (ns.map D.int)],⟨rfl,List.nodup_nil,fun k a o h => by simp at h⟩,?_,?_⟩
 ·rw [RepL]
  refine ⟨_,_,rfl,?_,by rw [RepL]⟩
  rw [Rep]
  refine ⟨a,_,rfl,?_,zhP ns⟩
  rcases hS with hS | hS
  ·exact .inl ⟨by simp,hS⟩
  ·exact .inr hS
 ·rw [e]
  intro α' H' _ _ v r
  rw [Rep] at r
  subst r
  exact q H'
theorem law_fn {P : Program} {w : World} {K : PySem.W.Frag} {mg : Str -> Option Value} {base : Heap} {cl : Str -> Addr} {k : Nat} {f : Addr} {fd : FuncData} {ps : List Str} {g : List D -> Sto -> Res D} (F : FnOk P w K mg base CX0 k f fd ps (spD K cl X0 1 g)) (h : ∀ ns : List Int,ns.length <= 63 -> ∃ a m,g [.scr (ns.map D.int)] [] = .ok a m /\ a = .bl true) : FnOk P w K mg base CX0 k f fd ps (spLaw K) := F.imp (law_sp h)
theorem usS {us : List Value} {n : Nat} (hl : us.length = n + 1) : ∃ a r,us = a :: r /\ r.length = n := by
 cases us with
 | nil => exact absurd hl (by simp)
 | cons a r => exact ⟨a,r,rfl,Nat.succ.inj hl⟩
theorem us0 {us : List Value} (hl : us.length = 0) : us = [] := List.length_eq_zero_iff.mp hl
theorem us1 {us : List Value} (hl : us.length = 1) : ∃ (a0 : Value),us = [a0] := by
 obtain ⟨a0,r,rfl,h⟩ := usS hl
 obtain rfl := us0 h
 exact ⟨a0,rfl⟩
theorem us2 {us : List Value} (hl : us.length = 2) : ∃ (a0 a1 : Value),us = [a0,a1] := by
 obtain ⟨a0,r,rfl,h⟩ := usS hl
 obtain ⟨a1,rfl⟩ := us1 h
 exact ⟨a0,a1,rfl⟩
theorem us3 {us : List Value} (hl : us.length = 3) : ∃ (a0 a1 a2 : Value),us = [a0,a1,a2] := by
 obtain ⟨a0,r,rfl,h⟩ := usS hl
 obtain ⟨a1,a2,rfl⟩ := us2 h
 exact ⟨a0,a1,a2,rfl⟩
theorem us4 {us : List Value} (hl : us.length = 4) : ∃ (a0 a1 a2 a3 : Value),us = [a0,a1,a2,a3] := by
 obtain ⟨a0,r,rfl,h⟩ := usS hl
 obtain ⟨a1,a2,a3,rfl⟩ := us3 h
 exact ⟨a0,a1,a2,a3,rfl⟩
theorem us5 {us : List Value} (hl : us.length = 5) : ∃ (a0 a1 a2 a3 a4 : Value),us = [a0,a1,a2,a3,a4] := by
 obtain ⟨a0,r,rfl,h⟩ := usS hl
 obtain ⟨a1,a2,a3,a4,rfl⟩ := us4 h
 exact ⟨a0,a1,a2,a3,a4,rfl⟩
def maxV (ns : List Int) : Int := ns.getD (argBest (fun i j => decide (ns.getD i 0 > ns.getD j 0)) (ns.length - 1)) 0
theorem zpE {ns : List Int} {its : List Value} (r : Vals (ns.map V.int) its) : ∃ xs : Array (Int × Tok),its.toArray = intItems xs /\ xs.size = ns.length /\ ∀ i,numAt xs i = ns.getD i 0 := by
 induction ns generalizing its with
 | nil => cases r; exact ⟨#[],by simp [intItems],rfl,fun i => by simp [numAt]⟩
 | cons a ns ih =>
  cases r with
  | cons h r =>
   obtain ⟨t,rfl⟩ := h
   obtain ⟨xs,e,hs,hx⟩ := ih r
   refine ⟨⟨(a,t) :: xs.toList⟩,?_,by simp [hs],fun i => ?_⟩
   ·have e' := congrArg Array.toList e
    simp only [intItems] at e' ⊢
    apply Array.ext'
    simpa using e'
   ·cases i with
    | zero => rfl
    | succ i =>
     have := hx i
     simpa [numAt] using this
theorem zgG {bt : Nat -> Nat -> Bool} : ∀ n,argBest bt n <= n
 | 0 => Nat.le_refl _
 | n + 1 => by
  unfold argBest
  split
  ·exact Nat.le_refl _
  ·exact Nat.le_succ_of_le (zgG n)
theorem zjy (f : Nat -> Int) : ∀ n i,i <= n -> f i <= f (argBest (fun i j => decide (f i > f j)) n)
 | 0,i,h => by
  have : i = 0 := by omega
  subst this
  exact Int.le_refl _
 | n + 1,i,h => by
  unfold argBest
  by_cases c : f (n + 1) > f (argBest (fun i j => decide (f i > f j)) n)
  ·rw [if_pos (decide_eq_true c)]
   rcases Nat.lt_or_ge n i with hi | hi
   ·rw [show i = n + 1 by omega]; exact Int.le_refl _
   ·have := zjy f n i hi
    omega
  ·rw [if_neg (by rw [decide_eq_true_eq]; exact c)]
   rcases Nat.lt_or_ge n i with hi | hi
   ·rw [show i = n + 1 by omega]; omega
   ·exact zjy f n i hi
theorem zoO {ns : List Int} {i : Nat} (h : i < ns.length) : ns.getD i 0 ∈ ns := by
 rw [List.getD_eq_getElem?_getD,List.getElem?_eq_getElem h]
 exact List.getElem_mem h
theorem zoD {ns : List Int} (h : ns ≠ []) : maxV ns ∈ ns := zoO (by have := zgG (bt := fun i j => decide (ns.getD i 0 > ns.getD j 0)) (ns.length - 1); have := List.length_pos_iff.mpr h; omega)
theorem zq2 {ns : List Int} {a : Int} (h : a ∈ ns) : a <= maxV ns := by
 obtain ⟨i,hi,rfl⟩ := List.mem_iff_getElem.mp h
 have := zjy (fun i => ns.getD i 0) (ns.length - 1) i (by omega)
 have e : ns.getD i 0 = ns[i] := by rw [List.getD_eq_getElem?_getD,List.getElem?_eq_getElem hi]; rfl
 rw [<- e]
 exact this
end MD
set_option autoImplicit false
namespace HT
open PySem PySem.Spec PyProof.Rows L2
end HT
namespace MD
open PySem PySem.Spec PyProof.Rows L2
def slA (x : D) (lo hi : Option Int) (m : Sto) : Res D := match x with
 | .tup ds => .ok (.tup (znE ds lo hi)) m
 | d => slD d lo hi m
def eSlA (f : EV) (lo hi : OV) : EV := fun ρ m => (f ρ m).bind fun x m1 => (lo ρ m1).bind fun l m2 => (hi ρ m2).bind fun h m3 => slA x l h m3
end MD
set_option autoImplicit false
namespace HT
open PySem PySem.Spec PyProof.Rows L2
end HT
namespace MD
open PySem PySem.Spec PyProof.Rows L2
section
variable {X : Cx} {K : PySem.W.Frag} {cl : Str -> Addr} {ex : XD} {α : List Addr} {m : Sto} {H : Hp} {pos : Pos}
theorem zof : QE X cl ex (.Dict [] [] pos) (zhp []) :=
 ⟨PE.weak zoq fun σ H Q hh => ex3 hh fun α ρ m W hr q p hp => by
  obtain ⟨W2,E2⟩ := W.new (u := .dK []) (o := .dct []) hp ⟨_,zax,(show RepKV X.K _ _ [] [] from rfl)⟩
  have q' : PQ X.K cl ex (.ok (.ob m.length) (m ++ [.dct []])) α H fun d α' _ H' => ∀ v,Rep X.K α' H' d v -> Q v H' := q
  refine q' _ _ E2 W2 _ ?_
  rw [Rep]
  refine ⟨p,?_,rfl⟩
  rw [<- W.len,List.getElem?_append_right (Nat.le_refl _),Nat.sub_self]
  rfl⟩
end
def zej : Nat := 1000000
def zgu : SV := by walk_at "#,Bv?v8uX1uMu8S!N%y[f=6;!"
def za4 : List D -> Sto -> Res D := zbf 3 zgu
def zdv : SV := by walk_at "#9x0ut,Bu`v8uX!wVOvmx172x2wW1u?5u?e5W<u85Wu`wX"
def zbz : List D -> Sto -> Res D := locF (zbf 5 zdv)
def zkh : SV := by walk_at "#;r1vn"
def zb6 : List D -> Sto -> Res D := zbf 2 zkh
def zef : SV := by walk_at "#;e1%x3vA!1vB"
def zbg : List D -> Sto -> Res D := zbf 3 zef
def zkn : SV := by walk_at "#mx32y]vA!7CwYwZ"
def zfR : List D -> Sto -> Res D := zbf 5 zkn
def zgB : SV := by walk_at "#mvouXuqv?x.vC8"
def zbW : List D -> Sto -> Res D := zbf 1 zgB
def zkf : SV := by walk_at "#q{v!1;!vpu_uaxhy^y_1vD7urwZ"
def zfK : List D -> Sto -> Res D := zbf 3 zkf
def zgA : SV := by walk_at "#,x+w[!u?8w=vq:uB/uY,uu!bAv:uNvrxkmx3v;TASuN8Wub]v:uNvrv*m{w.uN8v6v2]v:uNvrxl,v3^5uN8uuuNu9Gmx3v;TASuNNw]ub];TA"
def zcR : List D -> Sto -> Res D := zbf 9 zgA
def zik : SV := by walk_at "#w^wA;Bpw^x4;vsvp!"
def zbK : List D -> Sto -> Res D := zbf 2 zik
def zke : SV := by walk_at "#myHE{xvCN%y`wZvqx^3uYw_{yfyI"
def zdu : List D -> Sto -> Res D := zbf 2 zke
def zfJ : SV := by walk_at "#w^wAwXpw^x4m{zPf.u_NC.vs];5"
def zcd : List D -> Sto -> Res D := zbf 4 zfJ
def zkj : SV := by walk_at "#w`=:v8xm%yaf2ybwa<vq/uBAuY9{{RusCubvEGu8u:%uU2{|JvCNu7Jw[u78x_uD:;u:"
def zfO : List D -> Sto -> Res D := zbf 9 zkj
def zir : SV := by walk_at "#,uKycuMvtPucu.%{}.r1N$7uMv'Kxn1NbkwX"
def zbh : List D -> Sto -> Res D := zbf 4 zir
def zkg : SV := by walk_at "#myd2ybwa<"
def zeg : List D -> Sto -> Res D := zbf 2 zkg
section
variable {X : Cx} {K : PySem.W.Frag} {cl : Str -> Addr} {ex : XD} {o i : Expr} {fo fi : EV} {pos : Pos}
def putL (x y v : D) (m : Sto) : Res Unit := match x,y with
 | .ob k,.int i => match m[k]? with
  | some (.lst ds) => match ixN ds.length i with
   | some j => .ok () (m.set k (.lst (ds.set j v)))
   | none => .bad
  | _ => .bad
 | _,_ => .bad
def gI (fo fi : EV) : GV := fun d ρ m => (fo ρ m).bind fun x m1 => (fi ρ m1).bind fun y m2 => (putL x y d m2).bind fun _ m3 => .ok ρ m3
theorem RepL.put {α : List Addr} {H : Hp} {d : D} {v : V} (h : Rep K α H d v) : ∀ {ds : List D} {vs : List V} (j : Nat),RepL K α H ds vs -> RepL K α H (ds.set j d) (vs.set j v)
 | [],vs,j,r => by
  rw [RepL] at r
  subst r
  simp [RepL]
 | e :: ds,vs,j,r => by
  rw [RepL] at r
  obtain ⟨u,us,rfl,r1,r2⟩ := r
  cases j with
  | zero => rw [List.set_cons_zero,List.set_cons_zero,RepL]; exact ⟨v,us,rfl,h,r2⟩
  | succ j => rw [List.set_cons_succ,List.set_cons_succ,RepL]; exact ⟨u,_,rfl,r1,RepL.put h j r2⟩
theorem zpZ (ho : QE X cl ex o fo) (hi : QE X cl ex i fi) (ha : autoParam (∀ v,assign (.Subscript o i pos) X.env v = (do
   let ov <- holding [v] (eval o X.env)
   let iv <- holding [v,ov] (eval i X.env)
   standAt pos
   holding [v,ov,iv] (setItem ov iv v)
   release [v,ov,iv] [])) AutoP.a2._auto_1) : QG X cl ex (.Subscript o i pos) (gI fo fi) :=
 ⟨PG.weak (pg_sub ho.out hi.out znZ ha) fun v σ H Q ⟨α,ρ,m,d,W,hr,rv,h⟩ => tD.use W hr h fun α1 m1 H1 dx x E1 W1 hr1 rx q1 => tD.use W1 hr1 q1 fun α2 m2 H2 dy y E2 W2 hr2 ry q2 => by
  have rv := rv.mono W (E1.trans E2)
  have rx := rx.mono W1 E2
  unfold putL at q2
  split at q2
  ·rw [Rep] at rx
   rw [Rep] at ry
   obtain ⟨a,ha,rfl⟩ := rx
   subst ry
   split at q2
   ·rename_i ds e
    split at q2
    ·rename_i j' ej
     obtain ⟨ys,h1,r1⟩ := W2.lst ha e
     obtain ⟨W4,E4⟩ := W2.set (u := .lst (ys.set j' v)) (o := .lst (ds.set j' d)) ha fun E => ⟨_,zax,RepL.put (rv.mono W2 E) j' (r1.mono W2 E)⟩
     refine ⟨a,ys,_,j',rfl,rfl,h1,by rw [<- r1.length]; exact ej,?_⟩
     exact (show PQ X.K cl ex (.ok ρ (m2.set _ (.lst (ds.set j' d)))) α2 H2 _ from q2) _ _ E4 W4 _ (hr2.mono W2 E4)
    ·exact q2.elim
   ·exact q2.elim
  ·exact q2.elim⟩
end
end MD
namespace L2
open PySem PySem.Spec PyProof.Rows
variable {X : Cx} {e : Expr} {te : TE} {pos : Pos}
end L2
set_option autoImplicit false
namespace MD
open PySem PySem.Spec PyProof.Rows L2
def zqT (x y : D) (m : Sto) : Res D := match x,y with
 | .int i,.int j => if i.natAbs.log2 < 1100 /\ j.natAbs.log2 < 1100 then .ok (.int (i * j)) m else .bad
 | _,_ => .bad
theorem zmJ : ∃ f : D -> D -> Sto -> Res D,f = zqT := ⟨_,rfl⟩
def zqU : D -> D -> Sto -> Res D := Classical.choose zmJ
theorem zmK : zqU = zqT := Classical.choose_spec zmJ
theorem ziJ {a : Int} (h : a.natAbs.log2 < 1100) : Builtin.Int.intBits a <= 2 ^ 20 := by
 unfold Builtin.Int.intBits
 split
 ·exact Nat.zero_le _
 ·exact Nat.le_trans (Nat.succ_le_of_lt h) (by decide)
theorem zg6 {X : Cx} : OpR X (binaryOp .Mult) (rI IntMulOk fun i j => .int (i * j)) := opI fun _ _ _ _ _ _ _ hc q => mul_int q hc
theorem zhg {K : PySem.W.Frag} {cl : Str -> Addr} {ex : XD} : OpD K cl ex (rI IntMulOk fun i j => .int (i * j)) zqU := fun α m H x y vx vy Q W rx ry h => by
 rw [zmK] at h; unfold zqT at h
 split at h
 ·rw [Rep] at rx ry; obtain ⟨hc,h⟩ := PQ.if h; exact ⟨_,_,rx,ry,IntMulOk.of_bits (ziJ hc.1) (ziJ hc.2),PQ.ok W h _ zeP⟩
 ·exact h.elim
open Classical in
def grd {τ : Type} (k : Nat) (o : MO) (m : Sto) (r : Res τ) : Res τ := if m[k]? = some o then r else .bad
theorem zpp {τ : Type} {k : Nat} {o : MO} {m : Sto} {r : Res τ} (h : m[k]? = some o) : grd k o m r = r := if_pos h
def zmR (k : Nat) (o : MO) (g : GV) (body : SV) : List D -> En -> Sto -> Res Fl
 | [],ρ,m => grd k o m (.ok (.nx ρ) m)
 | d :: r,ρ,m => grd k o m ((g d ρ m).bind fun ρ1 m1 => (body ρ1 m1).bind fun fl m2 => match fl with
  | .nx ρ2 => zmR k o g body r ρ2 m2
  | .ct ρ2 => zmR k o g body r ρ2 m2
  | .bk ρ2 => .ok (.nx ρ2) m2
  | .rt d => .ok (.rt d) m2)
abbrev OI := En -> Sto -> Res (Nat × MO × List D)
def asObj (d : D) (m : Sto) : Res (Nat × MO × List D) := match d with
 | .ob k => match m[k]? with
  | some (.lst xs) => .ok (k,.lst xs,xs) m
  | _ => .bad
 | _ => .bad
def aObj (fa : EV) : OI := fun ρ m => (fa ρ m).bind asObj
def sForO (it : OI) (g : GV) (body : SV) : SV := fun ρ m => (it ρ m).bind fun t m1 => zmR t.1 t.2.1 g body t.2.2 ρ m1
def zem (k : Nat) (o : MO) (g : GV) (c : TV) (el : EV) (ρ : En) : List D -> Sto -> Res (List D)
 | [],m => grd k o m (.ok [] m)
 | d :: r,m => grd k o m ((g d ρ m).bind fun ρ1 m1 => (c ρ1 m1).bind fun b m2 => if b = true then (el ρ1 m2).bind fun x m3 => (zem k o g c el ρ r m3).bind fun xs m4 => .ok (x :: xs) m4 else zem k o g c el ρ r m2)
def ItO (K : PySem.W.Frag) (cl : Str -> Addr) (α : List Addr) (H : Hp) (J : It) (k : Nat) (o : MO) (ds : List D) : Prop :=
 ∀ (i : Nat) (α1 : List Addr) (m1 : Sto) (H1 : Hp),Ext α H α1 H1 -> Wd K cl α1 m1 H1 -> m1[k]? = some o -> (∀ d,ds[i]? = some d -> J.go i H1 /\ ∀ x H2,J.yld i H1 x H2 -> Same H1 H2 /\ Rep K α1 H2 d x) /\ (i = ds.length -> J.stop i H1)
def zkk : SV := by walk_at "#,F{~v?9x0ut,Kx5Kx5Kx5Kx5wbwbwbwbwbu`v8uXx+1vuF|!wV,uaeS!FyerWxcxoFAF|#v?uju5xp%yfwYxc|$vmx17.r%yfwY5];ygv+xqyU7xqyh!xqv*B"
def zei : List D -> Sto -> Res D := zbf 5 zkk
def ziq : SV := by walk_at "#Oxrv[vFvZvkwc$vv^wdBvmyivko$vGvkwc$,r^wd!uM,Kxn^wd!|%wdwXpOxs1uKv*ex[v*8,x[v*u`u.ex[yhSS5we|&Swe|'wV,rSWF|(F|)wV,rSWerWFyeF|*F|+wV;rKxnWF|,!"
def zaA : List D -> Sto -> Res D := zbf 5 ziq
def znn : SV := by walk_at "#;vCuvwfP<"
def zaN : List D -> Sto -> Res D := zbf 2 znn
def zfP : SV := by walk_at "#9x&owPvAvn82v7.vnwg;ruuuvvw$vn"
def zba : List D -> Sto -> Res D := zbf 3 zfP
def zgx : SV := by walk_at "#9v74Gucqv)5Nu,|-]qv)we*u,xk2xtRf<pv:we*9|.v;Nuv4d$.v97=*w`2v7.v97$v;SNuv4G$8$vq:uB/uYu,v*2whvox`vEGx.uau:Su7w]v97<puLvFv)weAu5xu!B9x&owP.xvyj8zz4xw.xvyjFxwvAuv4|/$Fxw=Au,xl2v7vD2ztv6<pu,|0$"
def zcQ : List D -> Sto -> Res D := zbf 8 zgx
def zfQ : SV := by walk_at "#,uK|1uMOxx3*2v74yk$2x0<vtwiuvPuD:9wQwjvwvxG4xywkuD/,Suuua5SF3u:Fyke8ua5u:FGbAvmx1W2uUv6us2|2RubuswlvH2x/wYvIyN4A4xy4|34|44|5.xc/wl"
def zcf : List D -> Sto -> Res D := zbf 8 zfQ
def zil : SV := by walk_at "#9v7yJutqv)7F3u,wA]v:7F3u,x6]u.8uvPucu,x4C2xtRC<"
def zdY : List D -> Sto -> Res D := zbf 4 zil
def zgy : SV := by walk_at "#9whvouXvCBu`w_|6RJ58wgvHvIwjvw4/4u4wk<vIwjvwvx/4G4uZwk<vB"
def zcg : List D -> Sto -> Res D := zbf 3 zgy
def zim : SV := by walk_at "#9wQoowjvx|7uD6u.!%wQoyG*4xo4|8wgvHPfvIooyNvxyl<vIooo4A4xoyG|9wl"
def zdZ : List D -> Sto -> Res D := zbf 3 zim
def zin : SV := by walk_at "#9|:waut9whvox`vIowjvxuZ<=*w_|;RfuD3vHfvI4u44uZ4xywk<C2|<R<"
def zc3 : List D -> Sto -> Res D := zbf 4 zin
end MD
set_option autoImplicit false
namespace L2
open PySem PySem.Spec PyProof.Rows
end L2
namespace MD
open PySem L2
variable {K : PySem.W.Frag} {cl : Str -> Addr} {ex : XD}
end MD
set_option autoImplicit false
namespace MD
open PySem PySem.Spec PyProof.Rows L2
def zld (ds : List D) (m : Sto) : Res D := match ds with
 | [.int j] => if 0 <= j /\ j <= 1000 then .ok (.lst (zcD 0 j.toNat)) m else .bad
 | _ => .bad
theorem zjX {K : PySem.W.Frag} {α : List Addr} {H : Hp} : ∀ (l : List Nat),RepL K α H (l.map fun i : Nat => D.int (0 + (i : Nat))) (l.map fun i : Nat => V.int (i : Int))
 | [] => by simp [RepL]
 | i :: r => by
  rw [List.map_cons,List.map_cons,RepL]
  exact ⟨_,_,rfl,by rw [Rep,Int.zero_add],zjX r⟩
section
variable {X : Cx} {cl : Str -> Addr} {ex : XD} {a : Expr} {fr : AV} {p p2 pos pos2 : Pos}
theorem zp1 (hc : X.calm = true) (hg : Gl X "list") (hm : X.mg "list" = none) (hg2 : Gl X "range") (hm2 : X.mg "range" = none) (ha : QA X cl ex [a] fr)
  (he : autoParam (starEach [Expr.Call (.Name "range" p2) [a] [] pos2] X.env = (false,eval (Expr.Call (.Name "range" p2) [a] [] pos2) X.env) :: starEach [] X.env) AutoP.a3._auto_1) (hpl : autoParam ((backTo pos (starEach [] X.env)).any (·.1) = false) AutoP.a3._auto_1)
  (he2 : autoParam (starEach [a] X.env = (false,eval a X.env) :: starEach [] X.env) AutoP.a3._auto_1) (hpl2 : autoParam ((backTo pos2 (starEach [] X.env)).any (·.1) = false) AutoP.a3._auto_1) :
  QE X cl ex (.Call (.Name "list" p) [.Call (.Name "range" p2) [a] [] pos2] [] pos) (eFn zld fr) :=
 ⟨PE.weak (zfq (zht hc) hg hm boot_list (zbP (zfq zoW hg2 hm2 boot_range ha.out (by decide) (by decide) he2 hpl2) zet he) (by decide) (by decide) he hpl) fun σ H Q hh => ex3 hh fun α ρ m W hr h => tDA.use W hr h fun α1 m1 H1 d v E1 W1 hr1 rv q1 => by
  unfold zld at q1
  split at q1
  ·rename_i j
   obtain ⟨hj,q2⟩ := PQ.if q1
   obtain ⟨v,rfl,r1⟩ := rv.one_of
   rw [Rep] at r1
   subst r1
   refine ⟨j,rfl,hj.1,by omega,fun q hq => ?_⟩
   refine ⟨q,j.toNat,rfl,?_,by omega,fun l hl => ?_⟩
   ·rw [zax]
    congr 2
    omega
   ·have W2 := W1.same (Same.new (o := .rng 0 j) hq)
    have s3 : Same H1 (upd (upd H1 q (.rng 0 j)) l (.lst ((List.range j.toNat).map fun i : Nat => V.int (i : Int)))) := fun b o e => Same.new hl b o (Same.new hq b o e)
    exact PQ.okS W1 s3 q2 _ (zb4 W2 hl (zjX _))
  ·exact q1.elim⟩
end
def zps (c f : Str) (x : D) (m : Sto) : Res D := match x with
 | .ob k => match m[k]? with
  | some (.ins c' fs) => if c' = c then opt (fs.lookup f) m else .bad
  | _ => .bad
 | _ => .bad
def zcy (c f : Str) (fa : EV) : EV := fun ρ m => (fa ρ m).bind (zps c f)
def zhT (f : Str) (v : D) : List (Str × D) -> List (Str × D)
 | [] => [(f,v)]
 | (g,x) :: r => if g = f then (g,v) :: r else (g,x) :: zhT f v r
def zn0 (c f : Str) (x y : D) (m : Sto) : Res Unit := match x with
 | .ob k => match m[k]? with
  | some (.ins c' fs) => if c' = c /\ fs.length < 1000 then .ok () (m.set k (.ins c (zhT f y fs))) else .bad
  | _ => .bad
 | _ => .bad
def zec (c f : Str) (fo fv : EV) : SV := fun ρ m => (fv ρ m).bind fun y m1 => (fo ρ m1).bind fun x m2 => (zn0 c f x y m2).bind fun _ m3 => .ok (.nx ρ) m3
def zii (c mth : Str) (x : D) (m : Sto) : Bool := match x with
 | .ob k => match m[k]? with
  | some (.ins c' fs) => decide (c' = c) && (fs.lookup mth).isNone
  | _ => false
 | _ => false
def zda (c mth : Str) (g : List D -> Sto -> Res D) (fo : EV) (fr : AV) : EV := fun ρ m => (fo ρ m).bind fun x m1 => if zii c mth x m1 = true then (fr ρ m1).bind fun ds m2 => g (x :: ds) m2 else .bad
def mkEnd (n : Nat) (v : D) (m : Sto) : Res D := match v with
 | .non => .ok (.ob n) m
 | _ => .bad
def mkM (c : Str) (g : List D -> Sto -> Res D) (ds : List D) (m : Sto) : Res D := (g (.ob m.length :: ds) (m ++ [.ins c []])).bind (mkEnd m.length)
section
variable {K : PySem.W.Frag} {cl : Str -> Addr} {ex : XD} {α : List Addr} {m : Sto} {H : Hp}
theorem RepF.look {f : Str} : ∀ {ds : List (Str × D)} {xs : List (Str × V)},RepF K α H ds xs -> (∀ d,ds.lookup f = some d -> ∃ v,xs.lookup f = some v /\ Rep K α H d v) /\ (ds.lookup f = none -> xs.lookup f = none)
 | [],_,h => by
  cases (show _ = [] from h)
  exact ⟨fun d e => (nomatch e),fun _ => rfl⟩
 | p :: ds,_,⟨v,r,rfl,h1,h2⟩ => by
  obtain ⟨a,b⟩ := RepF.look (f := f) h2
  obtain ⟨g,x⟩ := p
  simp only [List.lookup_cons]
  cases hg : f == g with
  | true => exact ⟨fun d e => by simp only [Option.some.injEq] at e; subst e; exact ⟨v,rfl,h1⟩,fun e => by simp at e⟩
  | false => exact ⟨a,b⟩
theorem RepF.put {f : Str} {d : D} {v : V} (hv : Rep K α H d v) : ∀ {ds : List (Str × D)} {xs : List (Str × V)},RepF K α H ds xs -> RepF K α H (zhT f d ds) (zf4 f v xs)
 | [],_,h => by
  cases (show _ = [] from h)
  exact ⟨v,[],rfl,hv,rfl⟩
 | p :: ds,_,⟨u,r,rfl,h1,h2⟩ => by
  obtain ⟨g,x⟩ := p
  unfold zhT zf4
  by_cases hg : g = f
  ·rw [if_pos hg]
   show RepF K α H ((g,d) :: ds) (if g = f then (g,v) :: r else (g,u) :: zf4 f v r)
   rw [if_pos hg]
   exact ⟨v,r,rfl,hv,h2⟩
  ·rw [if_neg hg]
   show RepF K α H ((g,x) :: zhT f d ds) (if g = f then (g,v) :: r else (g,u) :: zf4 f v r)
   rw [if_neg hg]
   exact ⟨u,_,rfl,h1,RepF.put hv h2⟩
theorem RepF.length : ∀ {ds : List (Str × D)} {xs : List (Str × V)},RepF K α H ds xs -> ds.length = xs.length
 | [],_,h => by cases (show _ = [] from h); rfl
 | p :: ds,_,⟨u,r,rfl,h1,h2⟩ => by rw [List.length_cons,List.length_cons,RepF.length h2]
theorem Wd.ins (W : Wd K cl α m H) {k : Nat} {a : Addr} {c : Str} {ds : List (Str × D)} (h1 : α[k]? = some a) (h2 : m[k]? = some (.ins c ds)) : ∃ dx xs,H a = some (.ins (cl c) dx xs) /\ RepF K α H ds xs := W.at' k a _ h1 h2
end
section
variable {X : Cx} {cl : Str -> Addr} {ex : XD} {o e value : Expr} {es : List Expr} {c f m x : Str} {pos pos' apos p : Pos} {fa fv : EV} {fr : AV} {k n : Nat} {g : List D -> Sto -> Res D}
theorem zbl (he : QE X cl ex e fa) (hc : Cls X.K (cl c)) (hn : NoAttr X.K (cl c) f) (hb : autoParam (attributeBase e f X.env (eval e X.env) = eval e X.env) AutoP.a3._auto_1) : QE X cl ex (.Attribute e f pos) (zcy c f fa) :=
 ⟨PE.weak (pe_fld he.out hb) fun σ H Q hh => ex3 hh fun α ρ m W hr h => tD.use W hr h fun α1 m1 H1 d v E1 W1 hr1 rv h1 => by
  unfold zps at h1
  split at h1
  ·rename_i k
   split at h1
   ·rename_i c' fs hk
    obtain ⟨hcc,h2⟩ := PQ.if h1
    clear h1
    subst hcc
    rw [Rep] at rv
    obtain ⟨a,ha,rfl⟩ := rv
    obtain ⟨dx,xs,hx,rf⟩ := W1.ins ha hk
    cases hl : fs.lookup f with
    | none => rw [hl] at h2; exact h2.elim
    | some d =>
     rw [hl] at h2
     obtain ⟨v,hv,rv⟩ := rf.look.1 d hl
     exact ⟨a,_,dx,xs,v,rfl,hx,hc,hn,hv,PQ.ok W1 h2 v rv⟩
   ·exact h1.elim
  ·exact h1.elim⟩
theorem zhR (ho : QE X cl ex o fa) (hv : QE X cl ex value fv) (hc : Cls X.K (cl c)) (hn : NoAttr X.K (cl c) f) (hs : autoParam (swapsWith value (some (.Attribute o f pos')) pos.line X.env = pure false) AutoP.a3._auto_1) : QS X cl ex (.Assign [.Attribute o f pos'] value pos) (zec c f fa fv) :=
 ⟨PS.weak (ps_fld ho.out hv.out hs) fun D σ H hh => ex3 hh fun α ρ m W hr h => tD.use W hr h fun α1 m1 H1 d v E1 W1 hr1 rv h1 => tD.use W1 hr1 h1 fun α2 m2 H2 d2 v2 E2 W2 hr2 rv2 h2 => by
  unfold zn0 at h2
  split at h2
  ·rename_i k
   split at h2
   ·rename_i c' fs hk
    by_cases hcc : c' = c /\ fs.length < 1000
    ·rw [if_pos hcc] at h2
     obtain ⟨rfl,hl⟩ := hcc
     rw [Rep] at rv2
     obtain ⟨a,ha,rfl⟩ := rv2
     obtain ⟨dx,xs,hx,rf⟩ := W2.ins ha hk
     have rv' := rv.mono W1 E2
     refine ⟨a,_,dx,xs,rfl,hx,hc,hn,by rw [<- rf.length]; exact hl,?_⟩
     obtain ⟨W3,E3⟩ := W2.set (u := .ins (cl c') dx (zf4 f v xs)) (o := .ins c' (zhT f d fs)) ha fun E => ⟨dx,_,zax,(rf.put rv').mono W2 E⟩
     exact h2 _ _ E3 W3 _ (hr2.mono W2 E3)
    ·rw [if_neg hcc] at h2
     exact h2.elim
   ·exact h2.elim
  ·exact h2.elim⟩
structure FnM (P : Program) (w : World) (K : PySem.W.Frag) (mg : Str -> Option Value) (base : Heap) (cl : Str -> Addr) (c m : Str) (k n : Nat) (g : List D -> Sto -> Res D) : Prop where
 ex : ∃ (f : Addr) (fd : FuncData) (ps : List Str),Meth K (cl c) m f /\ Binds K fd ps [] /\ FnOk P w K mg base CX0 k f fd ps (spD K cl X0 n g)
structure FnC (P : Program) (w : World) (K : PySem.W.Frag) (mg : Str -> Option Value) (base : Heap) (cl : Str -> Addr) (c : Str) (k n : Nat) (g : List D -> Sto -> Res D) : Prop where
 ex : ∃ (f : Addr) (fd : FuncData) (ps : List Str),mg c = some (.ref (cl c)) /\ Mk K (cl c) f /\ Binds K fd ps [] /\ FnOk P w K mg base CX0 k f fd ps (spD K cl X0 n g)
theorem zih {K : PySem.W.Frag} {α : List Addr} {mm : Sto} {H : Hp} {d : D} {v : V} (W : Wd K cl α mm H) (h : zii c m d mm = true) (rv : Rep K α H d v) : ∃ a dx fs,v = .ref a /\ H a = some (.ins (cl c) dx fs) /\ fs.lookup m = none := by
 unfold zii at h
 split at h
 ·rename_i k
  split at h
  ·rename_i c' fs hk
   rw [Bool.and_eq_true,decide_eq_true_eq,Option.isNone_iff_eq_none] at h
   obtain ⟨rfl,h2⟩ := h
   rw [Rep] at rv
   obtain ⟨a,ha,rfl⟩ := rv
   obtain ⟨dx,xs,hx,rf⟩ := W.ins ha hk
   exact ⟨a,dx,xs,rfl,hx,rf.look.2 h2⟩
  ·cases h
 ·cases h
theorem zdO {pl : Sem Bool} (h : FnM X.prog X.w X.K X.mg X.base cl c m k n g) (ho : QE X cl X0 o fa) (hc : Cls X.K (cl c)) (hn : n = (e :: es).length + 1) (hr : Room k X.A) (ha : QA X cl X0 (e :: es) fr) (hlen : ∀ ρ m ds m1,fr ρ m = .ok ds m1 -> ds.length = (e :: es).length)
  (hst : autoParam (starEach (e :: es) X.env = (false,eval e X.env) :: starEach es X.env) AutoP.a3._auto_1) (hpl : autoParam ((backTo pos (starEach es X.env)).any (·.1) = false) AutoP.a3._auto_1)
  (ht : autoParam (eval (.Call (.Attribute o m apos) (e :: es) [] pos) X.env = (do
   let ov <- eval o X.env
   standAt apos.atName
   let (f,first) <- holding [ov] (getMethod ov m pl)
   callWith pos f first (backTo pos (starEach (e :: es) X.env)) (backToKw pos (keywordEach [] X.env)))) AutoP.a3._auto_1) : QE X cl X0 (.Call (.Attribute o m apos) (e :: es) [] pos) (zda c m g fa fr) := by
 obtain ⟨f,fd,ps,h1,h2,h3⟩ := h.ex
 refine ⟨PE.weak (zqu (E := E0) ho.out hc h1 h3 hr h2 .nil zot ha.out hst hpl ht) fun σ H Q hh => ex3 hh fun α ρ mm W hr h => tD.use W hr h fun α1 m1 H1 d v E1 W1 hr1 rv q1 => ?_⟩
 obtain ⟨hi,q1⟩ := PQ.if q1
 obtain ⟨a,dx,fs,rfl,ea,el⟩ := zih W1 hi rv
 refine ⟨a,dx,fs,rfl,ea,el,?_⟩
 cases hf : fr ρ m1 with
 | bad => rw [hf] at q1; exact q1.elim
 | exc c m2 => exact tDA.exc W1 hr1 hf q1
 | ok ds m2 =>
  rw [hf] at q1
  refine tDA.at W1 hr1 hf fun α2 H2 vs E2 W2 hr2 rvs => ?_
  refine ⟨?_,α2,m2,d :: ds,W2,?_,PQ.mono E2 q1 fun _ _ _ _ _ _ z => z⟩
  ·rw [List.append_nil,List.length_cons,<- rvs.length,hlen ρ m1 ds m2 hf,hn]
  ·rw [List.append_nil,RepL]
   exact ⟨_,_,rfl,rv.mono W1 E2,rvs⟩
theorem zdn {pl : Sem Bool} (h : FnM X.prog X.w X.K X.mg X.base cl c m k n g) (ho : QE X cl X0 o fa) (hc : Cls X.K (cl c)) (hn : n = 1) (hr : Room k X.A)
  (ht : autoParam (eval (.Call (.Attribute o m apos) [] [] pos) X.env = (do
   let ov <- eval o X.env
   standAt apos.atName
   let (f,first) <- holding [ov] (getMethod ov m pl)
   callWith pos f first (backTo pos (starEach [] X.env)) (backToKw pos (keywordEach [] X.env)))) AutoP.a3._auto_1) : QE X cl X0 (.Call (.Attribute o m apos) [] [] pos) (zda c m g fa zaj) := by
 obtain ⟨f,fd,ps,h1,h2,h3⟩ := h.ex
 refine ⟨PE.weak (zoo (E := E0) ho.out hc h1 h3 hr h2 .nil zot ht) fun σ H Q hh => ex3 hh fun α ρ mm W hr h => tD.use W hr h fun α1 m1 H1 d v E1 W1 hr1 rv q1 => ?_⟩
 obtain ⟨hi,q1⟩ := PQ.if q1
 obtain ⟨a,dx,fs,rfl,ea,el⟩ := zih W1 hi rv
 refine ⟨a,dx,fs,rfl,ea,el,?_⟩
 refine ⟨by rw [hn]; rfl,α1,m1,[d],W1,?_,q1⟩
 rw [List.append_nil,RepL]
 exact ⟨_,_,rfl,rv,by rw [RepL]⟩
theorem zqX {K : PySem.W.Frag} {α : List Addr} {mm : Sto} {H : Hp} {ds : List D} {vs : List V} {Q : VK} {R : RD D} (W : Wd K cl α mm H) (r : RepL K α H ds vs) (hl : n = ds.length + 1) (h : PQ K cl X0 (mkM c g ds mm) α H R) (hR : ∀ d α' m' H',R d α' m' H' -> ∀ v,Rep K α' H' d v -> Q v H') :
  ∀ x dx,H x = none -> H dx = none -> dx ≠ x -> spD K cl X0 n g (.ref x :: (vs ++ [])) (upd (upd H dx (.own x)) x (.ins (cl c) dx [])) (fun v H2 => v = .non /\ Q (.ref x) H2) E0 := by
 intro x dx hx hdx hne
 have sm : Same H (upd H dx (.own x)) := Same.new hdx
 have Wa := W.same sm
 have Ea := Ext.of_same W sm
 have hx2 : upd H dx (.own x) x = none := by rw [zao (Ne.symm hne)]; exact hx
 obtain ⟨Wb,Eb⟩ := Wa.new (u := .ins (cl c) dx []) (o := .ins c []) hx2 ⟨dx,[],zax,rfl⟩
 have hob : Rep K (α ++ [x]) (upd (upd H dx (.own x)) x (.ins (cl c) dx [])) (.ob mm.length) (.ref x) := by
  rw [Rep]
  refine ⟨x,?_,rfl⟩
  rw [<- W.len,List.getElem?_append_right (Nat.le_refl _)]
  simp
 refine ⟨by rw [List.append_nil,List.length_cons,<- r.length,hl],α ++ [x],mm ++ [.ins c []],.ob mm.length :: ds,Wb,?_,?_⟩
 ·rw [List.append_nil,RepL]
  exact ⟨_,_,rfl,hob,(r.mono W Ea).mono Wa Eb⟩
 ·unfold mkM at h
  refine PQ.mono (Ea.trans Eb) h.bind fun d α1 m1 H1 E1 W1 q v rv => ?_
  cases d with
  | non =>
   rw [Rep] at rv
   exact ⟨rv,hR _ _ _ _ (PQ.ok W1 (show PQ K cl X0 (.ok (.ob mm.length) m1) α1 H1 R from q)) _ (hob.mono Wb E1)⟩
  | _ => exact q.elim
theorem zp0 (h : FnC X.prog X.w X.K X.mg X.base cl c k n g) (hn : n = (e :: es).length + 1) (hr : Room (k + 1) X.A) (hg : Gl X c) (ha : QA X cl X0 (e :: es) fr) (hlen : ∀ ρ m ds m1,fr ρ m = .ok ds m1 -> ds.length = (e :: es).length) (hdb : autoParam ((c == ("__debug__" : Str)) = false) AutoP.a1._auto_1)
  (he : autoParam (starEach (e :: es) X.env = (false,eval e X.env) :: starEach es X.env) AutoP.a3._auto_1) (hpl : autoParam ((backTo pos (starEach es X.env)).any (·.1) = false) AutoP.a3._auto_1) : QE X cl X0 (.Call (.Name c p) (e :: es) [] pos) (eFn (mkM c g) fr) := by
 obtain ⟨f,fd,ps,h1,h2,h3,h4⟩ := h.ex
 refine ⟨PE.weak (zqv (E := E0) h2 h4 hr hg h1 h3 .nil zot ha.out hdb he hpl) fun σ H Q hh => ex3 hh fun α ρ mm W hr h => ?_⟩
 unfold eFn at h
 cases hf : fr ρ mm with
 | bad => rw [hf] at h; exact h.elim
 | exc c m2 => exact tDA.exc W hr hf h
 | ok ds m1 =>
  rw [hf] at h
  exact tDA.at W hr hf fun α1 H1 v E1 W1 hr1 rv => zqX W1 rv (by rw [hn,hlen ρ mm ds m1 hf]) (PQ.mono E1 h fun _ _ _ _ _ _ z => z) fun _ _ _ _ z => z
theorem FnM.mk' {P : Program} {w : World} {K : PySem.W.Frag} {mg : Str -> Option Value} {base : Heap} {cl : Str -> Addr} {c x qual : Str} {st : Stmt} {f : Addr} {fd : FuncData} {N ps : List Str} {k n : Nat} {body : SV} (F : Fun K x qual st f fd) (b : Binds K fd ps []) (m : Meth K (cl c) x f) (S : FnScope N ps (zai st)) (hn : n = ps.length)
  (h : ∀ (cdv : Value) (A : Around) (outer : List PySem.Env) (s : Shared) (H : Hp) (E : XK),Room k (A.deeper (envOfC qual (zai st) s.heap.objs.size f cdv)) -> QSs (zlu CX0 P w K mg base N qual (zai st) f cdv A outer s H E).nox cl X0 (zbA st) body) : FnM P w K mg base cl c x (k + 1) n (zbf N.length body) :=
 ⟨f,fd,ps,m,b,F.ok S (fun vs H Q E h => by rw [<- hn]; exact h.1) fun cdv A outer s H vs Q E hr q => ⟨_,(h cdv A outer s H E hr).out,fn_d q⟩⟩
theorem FnC.mk' {P : Program} {w : World} {K : PySem.W.Frag} {mg : Str -> Option Value} {base : Heap} {cl : Str -> Addr} {c x qual : Str} {st : Stmt} {f : Addr} {fd : FuncData} {N ps : List Str} {k n : Nat} {body : SV} (F : Fun K x qual st f fd) (b : Binds K fd ps []) (mc : mg c = some (.ref (cl c))) (m : Mk K (cl c) f) (S : FnScope N ps (zai st)) (hn : n = ps.length)
  (h : ∀ (cdv : Value) (A : Around) (outer : List PySem.Env) (s : Shared) (H : Hp) (E : XK),Room k (A.deeper (envOfC qual (zai st) s.heap.objs.size f cdv)) -> QSs (zlu CX0 P w K mg base N qual (zai st) f cdv A outer s H E).nox cl X0 (zbA st) body) : FnC P w K mg base cl c (k + 1) n (zbf N.length body) :=
 ⟨f,fd,ps,mc,m,b,F.ok S (fun vs H Q E h => by rw [<- hn]; exact h.1) fun cdv A outer s H vs Q E hr q => ⟨_,(h cdv A outer s H E hr).out,fn_d q⟩⟩
end
end MD
set_option autoImplicit false
namespace L2
open PySem PySem.Spec PyProof.Rows
end L2
namespace MD
open PySem PySem.Spec PyProof.Rows L2
end MD
namespace PySem
open Sem (wp)
open Builtin
end PySem
set_option autoImplicit false
namespace L2
open PySem PySem.Spec PyProof.Rows
end L2
namespace MD
open PySem PySem.Spec PyProof.Rows L2
def zit : SV := by walk_at "#uLz{xv|=ym1uwv8uX1v?ujvFvZ!uK|>u5vZ!uK|?uwyCyn"
def zd0 : List D -> Sto -> Res D := zbf 2 zit
def zli : SV := by walk_at "#,Bv?,u9EOxrv[vy71,S7NuMu8!u96;!"
def zbT : List D -> Sto -> Res D := zbf 3 zli
def zkm : SV := by walk_at "#qv]!hvHwP.vs.S%uUvJx6<urJuqB<vp^u_N!"
def za7 : List D -> Sto -> Res D := zbf 2 zkm
def zfM : SV := by walk_at "#myowiur.u_N<"
def za8 : List D -> Sto -> Res D := zbf 1 zfM
def zeG : SV := by walk_at "#myoJuq8$"
def zbj : List D -> Sto -> Res D := zbf 1 zeG
def zeD : SV := by walk_at "#9v^waut;eee%xzwZuu8%|A.uqfuOypwZ"
def zbU : List D -> Sto -> Res D := zbf 3 zeD
def zgt : SV := by walk_at "#9x2wW!vu%xzRwgqxu7ur.u_N$x7vpwBvv7Bhv378"
def zce : List D -> Sto -> Res D := zbf 3 zgt
def zki : SV := by walk_at "#uLwm|BvDx7p9|CwautvGurPuO|DRvBx7p9xzRucu.5^%v^RvBu9*,vKPuOypR=:9x2wW!u?u:w==/qxpu7w[8x7pvHf2x2wW!u?5u?W$wW!u?Wu?u:vz"
def zeh : List D -> Sto -> Res D := zbf 7 zki
def zjp : SV := by walk_at "#,Bv?Oxrv[vyvn1u8!u96;!"
def zaM : List D -> Sto -> Res D := zbf 2 zjp
def zis : SV := by walk_at "#;ua!%yd2yHExm7vq3uB*uYx.Se5NW$vs"
def zc4 : List D -> Sto -> Res D := zbf 3 zis
def zeF : SV := by walk_at "#mwhvouXvCBuMw_xtRJ78<"
def za6 : List D -> Sto -> Res D := zbf 2 zeF
def zdf : SV := by walk_at "#Oxx:/Jw[!NJ7!$v:vivrxku8u7SuxWb/ujvFw8vivrv*u5yqu7uxv'^uxuaxhy^y_uxvzWur.ux=/ujvvvivrxlu8u7SviNv3^5uxuuviu9/vpru7v9^w[!8"
def zbc : List D -> Sto -> Res D := zbf 7 zdf
def zgz : SV := by walk_at "#,!u`vtwffuD*u85SeWNuuWu`;r5vs"
def za0 : List D -> Sto -> Res D := zbf 5 zgz
def zeE : SV := by walk_at "#w^x4;vsvpS!%y[.Kw8zyx6$"
def zbV : List D -> Sto -> Res D := zbf 2 zeE
def zcP : SV := by walk_at "#,uKycu`v8xmuqvqv{:uY,wBu5v]!hux%|EJ!W.ux=/u85wn.ruuWv9u7usuc;5"
def za5 : List D -> Sto -> Res D := zbf 7 zcP
def zdw : SV := by walk_at "#,1x-v{v{:uB/uBAuYOyrGu4u%ubwoo$qwC!hyrGu4u%JuN!8JuN!Nwi!]u.wnvL2x{wiurus<uOyZ.r7v9w]vh=du.Td%|Fv2Hu4C=d;eTdwn2vMfyI2x{.v|8<"
def zaT : List D -> Sto -> Res D := zbf 12 zdw
end MD
set_option autoImplicit false
namespace MxD
open PySem PySem.Spec PyProof.Rows
section
variable {p : Program} {w : World} {A : Around} {R : Result -> Shared -> Prop} {it : Addr} {fs ws : List Addr} {n : Nat} {V : Nat -> Value -> Prop} {T : Nat -> Heap -> Prop} {d : Value}
abbrev kwD (d : Value) : List (Str × Value) := [(Str.ofString "default", d)]
def zpy (z : Shared) (b : Addr) (x : Array Value) (c : Nat) : Prop := z.heap.get? b = some { cls := .type "list", dict := none,data := .seq x c,slots := #[] }
theorem zoA : (toString "max" ++ toString ".loop" : String) = "max.loop" := by decide
theorem zq0 (W : Walks p w A.in1 it fs ws n V T) (bt : Nat -> Nat -> Bool) (hc : CmpOf p w A.in1 .Gt V bt) (b : Addr) (hb : b ∉ fs) :
  ∀ (k j : Nat) (z : Shared) (x : Value) (c : Nat),n - (j + 1) = k -> j + 1 <= n -> T (j + 1) z.heap -> V (argBest bt j) x -> zpy z b #[x,x] c →
  (∀ v g t,V (argBest bt (n - 1)) v -> (∀ a o,a ∉ ws -> a ≠ b -> z.heap.get? a = some o -> g.get? a = some o) -> R (.ok (.ret v)) { z with heap := g,toks := t }) →
  codeAny (model p w) A (.builtin "max.loop" ⟨[.ref it,.none,.ref b],kwD d⟩) R z
 | 0,j,z,x,c,ek,hj,ht,hx,hB,hR => by
  have hw : b ∉ ws := fun q => hb (W.sub _ q)
  have en : j + 1 = n := by omega
  refine codeAny_builtin F.entry_max_loop ?_
  rw [Around.under_plainId F.plain_max_loop _]
  show wpAny _ A.in1 (seqItems? (.ref b) >>= _) _ _ z
  refine wpAny_bind (wpAny_seqItems hB rfl ?_)
  show wpAny _ A.in1 (tryCatch (pyNext (.ref it)) _ >>= _) _ _ z
  refine wpAny_bind (wpAny_tryCatch (W.done z _ _ (en ▸ ht) fun g t kp => ?_))
  have hB' := kp b _ hw hB
  show wpAny _ A.in1 (updateSeq b (fun _ => #[]) >>= _) _ _ _
  refine wpAny_bind (wpAny_updateSeq hB' rfl (wpAny_bind (wpAny_letGo (wpAny_pure ?_))))
  exact hR x _ t (by rw [<- en]; exact hx) fun a o h1 h2 e => (Heap.get?_update_other _ _ (Ne.symm h2)).trans (kp a o h1 e)
 | k + 1,j,z,x,c,ek,hj,ht,hx,hB,hR => by
  have hw : b ∉ ws := fun q => hb (W.sub _ q)
  have hl : j + 1 < n := by omega
  refine codeAny_builtin F.entry_max_loop ?_
  rw [Around.under_plainId F.plain_max_loop _]
  show wpAny _ A.in1 (seqItems? (.ref b) >>= _) _ _ z
  refine wpAny_bind (wpAny_seqItems hB rfl ?_)
  show wpAny _ A.in1 (tryCatch (pyNext (.ref it)) _ >>= _) _ _ z
  refine wpAny_bind (wpAny_tryCatch (W.item (j + 1) z _ _ hl ht fun v g t hv ht' kp => ?_))
  have hB' := kp b _ hw hB
  show wpAny _ A.in1 (tryCatch (holding [v,v] (richCompare .Gt v x >>= _)) _ >>= _) _ _ _
  refine wpAny_bind (wpAny_tryCatch (wpAny_holding (wpAny_bind (hc (j + 1) (argBest bt j) v x _ _ _ hv hx ?_))))
  refine wpAny_bind (wpAny_holding (wpAny_truthy_bool (wpAny_bind (wpAny_letGo (wpAny_pure ?_)))))
  cases hy : bt (j + 1) (argBest bt j) with
  | true =>
   simp only [if_true]
   refine wpAny_bind (wpAny_updateSeq hB' rfl (wpAny_bind (wpAny_letGo ?_)))
   rw [zoA]
   refine wpAny_pure ⟨plainId_quiet F.plain_max_loop _,zq0 W bt hc b hb k (j + 1) _ v _ (by omega) hl (W.frame _ _ _ ht' fun a ha o e => (Heap.get?_update_other _ _ fun q : b = a => hb (by rw [q]; exact ha)).trans e) (by simp only [argBest,hy,if_true]; exact hv) (Heap.get?_update_self _ hB' rfl) fun v' g' t' h1 h2 => ?_⟩
   exact hR v' g' t' h1 fun a o a1 a2 e => h2 a o a1 a2 ((Heap.get?_update_other _ _ (Ne.symm a2)).trans (kp a o a1 e))
  | false =>
   simp only [Bool.false_eq_true,if_false]
   refine wpAny_bind (wpAny_letGo ?_)
   rw [zoA]
   refine wpAny_pure ⟨plainId_quiet F.plain_max_loop _,zq0 W bt hc b hb k (j + 1) _ x c (by omega) hl ht' (by simp only [argBest,hy,Bool.false_eq_true,if_false]; exact hx) hB' fun v' g' t' h1 h2 => ?_⟩
   exact hR v' g' t' h1 fun a o a1 a2 e => h2 a o a1 a2 (kp a o a1 e)
theorem beginD (W : Walks p w A.in1 it fs ws n V T) (bt : Nat -> Nat -> Bool) (hc : CmpOf p w A.in1 .Gt V bt) (b : Addr) (hb : b ∉ fs) {z : Shared} {c : Nat} (ht : T 0 z.heap) (hB : zpy z b #[] c)
  (h1 : 0 < n -> ∀ v g t,V (argBest bt (n - 1)) v -> (∀ a o,a ∉ ws -> a ≠ b -> z.heap.get? a = some o -> g.get? a = some o) -> R (.ok (.ret v)) { z with heap := g,toks := t })
  (h0 : n = 0 -> ∀ g t,(∀ a o,a ∉ ws -> z.heap.get? a = some o -> g.get? a = some o) -> R (.ok (.ret d)) { z with heap := g,toks := t }) :
  codeAny (model p w) A (.builtin "max.loop" ⟨[.ref it,.none,.ref b],kwD d⟩) R z := by
 have hw : b ∉ ws := fun q => hb (W.sub _ q)
 refine codeAny_builtin F.entry_max_loop ?_
 rw [Around.under_plainId F.plain_max_loop _]
 show wpAny _ A.in1 (seqItems? (.ref b) >>= _) _ _ z
 refine wpAny_bind (wpAny_seqItems hB rfl ?_)
 show wpAny _ A.in1 (tryCatch (pyNext (.ref it)) _ >>= _) _ _ z
 rcases Nat.eq_zero_or_pos n with en | hn
 ·refine wpAny_bind (wpAny_tryCatch (W.done z _ _ (by rw [en]; exact ht) fun g t kp => ?_))
  exact wpAny_bind (wpAny_rule (wpAny_pure (h0 en g t kp)))
 ·refine wpAny_bind (wpAny_tryCatch (W.item 0 z _ _ hn ht fun v g t hv ht' kp => ?_))
  have hB' := kp b _ hw hB
  show wpAny _ A.in1 (updateSeq b (fun _ => #[v,v]) >>= _) _ _ _
  refine wpAny_bind (wpAny_updateSeq hB' rfl ?_)
  rw [zoA]
  refine wpAny_pure ⟨plainId_quiet F.plain_max_loop _,zq0 W bt hc b hb _ 0 _ v _ rfl hn (W.frame _ _ _ ht' fun a ha o e => (Heap.get?_update_other _ _ fun q : b = a => hb (by rw [q]; exact ha)).trans e) hv (Heap.get?_update_self _ hB' rfl) fun v' g' t' q1 q2 => ?_⟩
  exact h1 hn v' g' t' q1 fun a o a1 a2 e => q2 a o a1 a2 ((Heap.get?_update_other _ _ (Ne.symm a2)).trans (kp a o a1 e))
end
theorem argsD (x d : Value) : argsOk "max" ⟨[x],kwD d⟩ := by unfold argsOk; kernel_rfl
section
variable {p : Program} {w : World} {A : Around} {X : Value -> Shared -> Prop} {z : Shared} {l : Addr} {xs : Array (Int × Tok)} {d : Value}
theorem maxD {Q : Value -> Shared -> Prop} (hh : A.handled = none) (hl : z.heap.IsList l (intItems xs))
  (h1 : 0 < xs.size -> ∀ v g t,(intItems xs)[argBest (fun i j => decide (numAt xs i > numAt xs j)) (xs.size - 1)]? = some v -> (∀ a o,z.heap.get? a = some o -> g.get? a = some o) -> Q v { z with heap := g,toks := t })
  (h0 : xs.size = 0 -> ∀ g t,(∀ a o,z.heap.get? a = some o -> g.get? a = some o) -> Q d { z with heap := g,toks := t }) :
  wpAny (model p w) A (call (.builtin "max") [.ref l] (kwD d)) Q X z := by
 have hs : (intItems xs).size = xs.size := by simp [intItems]
 refine kmb_tree PySem.F.kind_max PySem.F.plain_max PySem.F.entry_max (argsD _ _) ?_
 show wpAny _ A.in1 (Builtin.Builtins.bindParams "max" ["key", "default"] 0 ⟨[],kwD d⟩ >>= _) _ _ z
 refine wpAny_bind (wpAny_of_eq (show Builtin.Builtins.bindParams "max" ["key", "default"] 0 ⟨[],kwD d⟩ = pure [none,some d] from rfl) ?_)
 refine wpAny_bind (wpAny_pure (wpAny_bind (iter_intList hl fun z2 e st hfp hlI => ?_)))
 subst e
 refine wpAny_bind (wpAny_newObj_type ?_)
 have W := Walks.list (prog := p) (w := w) (A := A.in1) hh _ l hlI (intItems xs)
 have hf : ((z.heap.push { cls := .type "list_iterator", data := .fields #[.ref l,.int 0 0] }).objs.size) ∉ [z.heap.objs.size,l] := fun q => Nat.lt_irrefl _ (hfp _ q)
 rw [zoA]
 refine wpAny_pure ⟨plainId_quiet F.plain_max_loop _,beginD W _ (CmpOf.ints_gt (numAt xs) fun _ _ => intItems_at) _ hf (W.frame _ _ _ st fun a _ o e => Heap.get?_push_of_some _ e) (Heap.get?_push_size _ rfl) (fun hn v g t hv kp => ?_) fun hn g t kp => ?_⟩
 ·refine h1 (by omega) v g t (by rw [<- hs]; exact hv) (old_kept fun a o ha e => kp a o ha (Nat.ne_of_lt (Heap.lt_size e)) (Heap.get?_push_of_some _ e))
 ·refine h0 (by omega) g t (old_kept fun a o ha e => kp a o ha (Heap.get?_push_of_some _ e))
end
end MxD
namespace MD
open PySem PySem.Spec PyProof.Rows L2
section
variable {X : Cx} {x : Str} {p pos : Pos} {e : Expr} {es : List Expr} {kws : List Keyword} {t tk : TA} {id : String} {ks : List Str} {r : List V -> List V -> Hp -> VK -> Prop}
def zpA (X : Cx) (f : Value) (ks : List Str) (r : List V -> List V -> Hp -> VK -> Prop) : Prop :=
 ∀ (pins : List (Addr × Obj)) (s : Shared) (σ : L2.St) (H : Hp) (vs : List V) (us : List Value) (zs : List V) (ws : List Value) (Q : VK),Inv X pins σ H s -> Vals vs us -> Vals zs ws -> r vs zs H Q -> wpAny (model X.prog X.w) X.A (call f us (ks.zip ws)) (EP X pins σ Q) X.xe s
def tCBK (r : List V -> List V -> Hp -> VK -> Prop) (t tk : TA) : TE := fun σ H Q => t σ H fun vs H1 => tk σ H1 fun zs H2 => r vs zs H2 Q
theorem zmg (hc : zpA X (.builtin id) ks r) (hg : Gl X x) (hm : X.mg x = none) (hv : bootBuiltins x = some (.builtin id)) (ha : PA X (e :: es) t) (hkw : PK X kws tk) (hall : autoParam ((backToKw pos (keywordEach kws X.env)).all (·.1.isSome) = true) AutoP.a3._auto_1) (hks : autoParam ((backToKw pos (keywordEach kws X.env)).filterMap (·.1) = ks) AutoP.a3._auto_1)
  (hn : autoParam (x ≠ "__name__") AutoP.a1._auto_1) (hdb : autoParam ((x == ("__debug__" : Str)) = false) AutoP.a1._auto_1) (he : autoParam (starEach (e :: es) X.env = (false,eval e X.env) :: starEach es X.env) AutoP.a3._auto_1)
  (hpl : autoParam (((backTo pos (starEach (e :: es) X.env)).any (·.1) || (backToKw pos (keywordEach kws X.env)).any (·.1.isNone)) = false) AutoP.a3._auto_1) : PE X (.Call (.Name x p) (e :: es) kws pos) (tCBK r t tk) := by
 intro pins s σ H Q I h
 refine wpAny_Call_Name_kw (zdT I hg hm hv ?_ hn hdb)
 obtain ⟨hp1,hp2⟩ := Bool.or_eq_false_iff.mp hpl
 refine callWith_builtin_kwB hp1 hp2 (evalArgs_kw2 hall (thn (ha pos pins s σ H _ I h) fun us s1 ⟨vs,H1,I1,r1,q⟩ => ?_) he)
 refine thn (hkw pos pins s1 σ H1 _ I1 q) fun ws s2 ⟨zs,H2,I2,rz,q2⟩ => ?_
 rw [hks]
 exact hc pins s2 σ H2 vs us zs ws Q I2 r1 rz q2
def rMaxD (K : PySem.W.Frag) : List V -> List V -> Hp -> VK -> Prop := fun vs zs H Q => ∃ (l : Addr) (ns : List Int) (y : V),vs = [.ref l] /\ zs = [y] /\ SqL K H l (ns.map V.int) /\ (ns ≠ [] -> Q (.int (maxV ns)) H) /\ (ns = [] -> Q y H)
theorem znK {X : Cx} (hc : X.calm = true) : zpA X (.builtin "max") ["default"] (rMaxD X.K) := by
 intro pins s σ H vs us zs ws Q I r rz h
 obtain ⟨l,ns,y,rfl,rfl,hq,h1,h0⟩ := h
 obtain ⟨u,rfl,rx⟩ := zb3 r
 obtain ⟨d,rfl,ry⟩ := zb3 rz
 cases rx
 obtain ⟨its,r',pl,hz⟩ := I.list hq
 have hl := pl.isList
 obtain ⟨ys,e,hs,hx⟩ := zpE r'
 rw [e] at hl
 refine MxD.maxD (I.ok.hd hc) hl (fun hn v g t hv hk => ?_) fun hn g t hk => ?_
 ·obtain ⟨t',rfl⟩ := intItems_at hv
  refine ⟨_,H,I.kept hk,?_,h1 fun q => ?_⟩
  ·have ef : numAt ys = fun i => ns.getD i 0 := funext hx
   refine ⟨t',?_⟩
   rw [ef,hs]
   rfl
  ·have : ns.length = 0 := by rw [q]; rfl
   omega
 ·exact ⟨y,H,I.kept hk,ry,h0 (List.length_eq_zero_iff.mp (by rw [<- hs]; exact hn))⟩
end
def zmO (x d : D) (m : Sto) : Res D := match (lOf x m).bind zd5 with
 | some ns => if ns = [] then .ok d m else .ok (.int (maxV ns)) m
 | none => .bad
def zlk (fa fd : EV) : EV := fun ρ m => (fa ρ m).bind fun x m1 => (fd ρ m1).bind fun d m2 => zmO x d m2
section
variable {X : Cx} {cl : Str -> Addr} {ex : XD} {e e2 : Expr} {fa fd : EV} {p pos kp : Pos}
theorem zl4 (hc : X.calm = true) (hg : Gl X "max") (hm : X.mg "max" = none) (he : QE X cl ex e fa) (hd : QE X cl ex e2 fd) (hs : autoParam (starEach [e] X.env = (false,eval e X.env) :: starEach [] X.env) AutoP.a3._auto_1)
  (hall : autoParam ((backToKw pos (keywordEach [⟨some "default", e2,kp⟩] X.env)).all (·.1.isSome) = true) AutoP.a3._auto_1) (hks : autoParam ((backToKw pos (keywordEach [⟨some "default", e2,kp⟩] X.env)).filterMap (·.1) = [Str.ofString "default"]) AutoP.a3._auto_1)
  (hpl : autoParam (((backTo pos (starEach [e] X.env)).any (·.1) || (backToKw pos (keywordEach [⟨some "default", e2,kp⟩] X.env)).any (·.1.isNone)) = false) AutoP.a3._auto_1) :
  QE X cl ex (.Call (.Name "max" p) [e] [⟨some "default", e2,kp⟩] pos) (zlk fa fd) :=
 ⟨PE.weak (zmg (znK hc) hg hm (by rfl) (zbP he.out zet hs) (zqn hd.out pk_nil) hall hks (by decide) (by decide) hs hpl) fun σ H Q hh => ex3 hh fun α ρ m W hr h =>
  tD.use W hr h fun α1 m1 H1 d v E1 W1 hr1 rv q1 => tD.use W1 hr1 q1 fun α2 m2 H2 d2 v2 E2 W2 hr2 rv2 q2 => by
   have rv := rv.mono W1 E2
   unfold zmO at q2
   split at q2
   ·rename_i ns e
    obtain ⟨xs,e1,e2⟩ := Option.bind_eq_some_iff.mp e
    obtain ⟨p,ys,rfl,h1,r1⟩ := zmX W2 e1 rv
    rw [zc6 e2 r1] at h1
    refine ⟨p,ns,v2,rfl,rfl,h1,fun q => ?_,fun q => ?_⟩
    ·rw [if_neg q] at q2
     exact PQ.ok W2 q2 _ zeP
    ·rw [if_pos q] at q2
     exact PQ.ok W2 q2 _ rv2
   ·exact q2.elim⟩
end
theorem zln {X : Cx} : CallR X (.type "dict") (fun xs H Q => ∃ (a : Addr) (kvs : List (L2.Key × V)),xs = [.ref a] /\ Rd H a (.dK kvs) /\ ∀ p,H p = none -> Q (.ref p) (upd H p (.dK kvs))) := by
 intro pins s σ H xs us Q I r h
 obtain ⟨a,kvs,rfl,hr,q⟩ := h
 obtain ⟨u,rfl,rx⟩ := zb3 r
 cases rx
 exact zoT I hr fun p s' hp I' => ⟨.ref p,_,I',rfl,q p hp⟩
section
variable {K : PySem.W.Frag} {cl : Str -> Addr} {ex : XD}
def dctF (ds : List D) (m : Sto) : Res D := match ds with
 | [.ob k] => match m[k]? with
  | some (.dct kvs) => .ok (.ob m.length) (m ++ [.dct kvs])
  | _ => .bad
 | _ => .bad
theorem zmG {α : List Addr} {m : Sto} {H : Hp} {p : Addr} {ds : List (L2.Key × D)} {vs : List (L2.Key × V)} {R : RD D} (W : Wd K cl α m H) (hp : H p = none) (r : RepKV K α H ds vs) (h : PQ K cl ex (.ok (.ob m.length) (m ++ [.dct ds])) α H R) : ∃ α' m',R (.ob m.length) α' m' (upd H p (.dK vs)) /\ Rep K α' (upd H p (.dK vs)) (.ob m.length) (.ref p) := by
 have E0 : Ext α H (α ++ [p]) (upd H p (.dK vs)) := ⟨⟨[p],rfl,fun b hb => by rw [List.mem_singleton.mp hb]; exact hp⟩,fun a o h _ => Same.new hp a o h,(Ext.of_same W (Same.new hp)).there,fun a o u h => Same.new hp a _ h⟩
 obtain ⟨W2,E2⟩ := W.new (u := .dK vs) (o := .dct ds) hp ⟨vs,zax,r.mono W E0⟩
 refine ⟨_,_,h _ _ E2 W2,?_⟩
 rw [Rep]
 refine ⟨p,?_,rfl⟩
 rw [<- W.len,List.getElem?_append_right (Nat.le_refl _)]
 simp
theorem fd_dct : FnD K cl ex (fun xs H Q => ∃ (a : Addr) (kvs : List (L2.Key × V)),xs = [.ref a] /\ Rd H a (.dK kvs) /\ ∀ p,H p = none -> Q (.ref p) (upd H p (.dK kvs))) dctF := fun α m H x vx Q W rx h => by
 unfold dctF at h
 split at h
 ·split at h
  ·obtain ⟨v,rfl,rv⟩ := rx.one_of
   rw [Rep] at rv
   obtain ⟨a,ha,rfl⟩ := rv
   obtain ⟨xs,h1,r1⟩ := W.dct ha ‹_›
   refine ⟨a,xs,rfl,.inl h1,fun p hp => ?_⟩
   obtain ⟨_,_,q,r⟩ := zmG W hp r1 h
   exact q _ r
  ·exact h.elim
 ·exact h.elim
end
end MD
set_option autoImplicit false
namespace L2
open PySem PySem.Spec PyProof.Rows
section
variable {X : Cx} {pins : List (Addr × Obj)} {σ : St} {H : Hp} {s : Shared} {a : Addr} {o : Obj} {kvs : List (Key × V)}
theorem Inv.freeze (I : Inv X pins σ H s) (e : H a = some (.dK kvs)) (ho : s.heap.get? a = some o) : Inv X pins σ (upd H a (.frz o (.dK kvs))) s :=
 I.write (x := a) (e := a) (t' := s.toks) (by rw [e]; trivial) (.inl rfl) (fun b u _ q => q) ⟨_,ho⟩ ⟨ho,I.hok a _ e⟩
def Warm (X : Cx) (a : Addr) : Prop := ∀ o u,X.H₀ a ≠ some (.frz o u)
theorem Inv.warm (I : Inv X pins σ H s) (e : H a = some (.dK kvs)) : Warm X a := fun o u q => by
 have := I.base.frzs a o u q
 rw [e] at this
 cases this
theorem Inv.thaw (I : Inv X pins σ H s) (e : H a = some (.frz o (.dK kvs))) (w : Warm X a) : Inv X pins σ (upd H a (.dK kvs)) s := by
 have na : ∀ b,H b = none -> b ≠ a := fun b n z => by rw [z,e] at n; cases n
 have kp : ∀ b,H b = none -> upd H a (.dK kvs) b = none := fun b n => by rw [zao (na b n)]; exact n
 refine ⟨I.ok,I.os,I.bare,⟨I.base.keep,I.base.slot,fun b u q n hx => kp b (I.base.free b u q n hx),I.base.there,fun b xs q => ?_,fun b u v q => ?_,fun b ps q => ?_⟩,I.loc,I.cell,kp _ I.free,fun x c q => kp _ (I.freeC x c q),fun p hp => ?_,fun b u q => ?_,I.len⟩
 ·have h := I.base.tups b xs q
  rw [zao fun z => by rw [z,e] at h; cases h]
  exact h
 ·have h := I.base.frzs b u v q
  rw [zao fun z => w u v (by rw [<- z]; exact q)]
  exact h
 ·obtain ⟨more,h⟩ := I.base.tbls b ps q
  exact ⟨more,by rw [zao fun z => by rw [z,e] at h; cases h]; exact h⟩
 ·obtain ⟨h1,h2,h3⟩ := I.pin p hp
  exact ⟨h1,kp _ h2,h3⟩
 ·by_cases hb : b = a
  ·subst hb
   rw [zax] at q
   cases q
   exact (I.hok b _ e).2
  ·rw [zao hb] at q
   exact (I.hok b u q).stay (fun c v _ r => r) (fun c r => by rw [zao fun z => by rw [z,e] at r; cases r]; exact r) fun c xs r => by rw [zao fun z => by rw [z,e] at r; cases r]; exact r
end
def Itk (a : Addr) (o : Obj) (kvs : List (Key × V)) : It :=
 ⟨fun i H => H a = some (.frz o (.dK kvs)) /\ i < kvs.length,fun i H x H' => H' = H /\ ∃ k v,kvs[i]? = some (k,v) /\ x = kV k,fun i H => H a = some (.frz o (.dK kvs)) /\ kvs.length <= i⟩
theorem zm2 {P : Program} {w : World} {k : Key} {u : Value} (h : (zaH P w).is k u = true) : RelV (kV k) u := by
 rcases zaO (show zjh k u = true from h) with ⟨i,t,rfl,rfl⟩ | ⟨x,t,rfl,rfl⟩
 ·exact ⟨t,rfl⟩
 ·exact ⟨t,rfl⟩
theorem zpq {X : Cx} {pins : List (Addr × Obj)} {σ : St} {H : Hp} {s : Shared} {a : Addr} {o : Obj} {kvs : List (Key × V)} {es : Array DictEntry} {ep : Nat} (I : Inv X pins σ H s) (e : H a = some (.frz o (.dK kvs))) (hd : o.data = .dict es ep) : ∃ vs,KV kvs vs /\ s.heap.DictAt (zaH X.prog X.w) a vs ep := by
 obtain ⟨h1,_,_,vs,r,o',es',ep',h2,h3,h4,h5⟩ := I.hok a _ e
 rw [h1] at h2
 cases h2
 rw [hd] at h4
 cases h4
 exact ⟨vs,r,o,es,h1,h3,hd,h5⟩
theorem zlD {P : Program} {w : World} {K : PySem.W.Frag} {tg : Expr} (a it : Addr) (o : Obj) (kvs : List (Key × V)) (es : Array DictEntry) (ep : Nat) (hd : o.data = .dict es ep) : Turn P w K tg (Itk a o kvs) [it] it (fun i h => h.IsKeyIter it a i kvs.length ep) where
 mem := by simp
 obj := fun i h st b hb => by
  have e : b = it := by simpa using hb
  subst e
  obtain ⟨o,e,c,d⟩ := st
  exact ⟨o,e,fun v z => by rw [d] at z; cases z⟩
 keep := fun i h h' st k => st.at fun o e => k it (by simp) o e
 item := by
  intro X hP hw hK hc i pins s σ H E I hf st hg
  subst hP hw hK
  obtain ⟨he,hi⟩ := hg
  obtain ⟨vs,r,da⟩ := zpq I he hd
  have hl := r.length
  obtain ⟨f0,f1,f2,f3,f4,f5⟩ := hf it (by simp)
  obtain ⟨⟨k,x⟩,hx⟩ : ∃ q,vs[i]? = some q := ⟨vs[i]'(by omega),by simp [show i < vs.length by omega]⟩
  rw [hl] at st
  refine wpAny_pyNext_dict_item st da hx fun key h' hk st' sb => ?_
  have I1 : Inv X pins σ H { s with heap := h' } := I.turned (t' := s.toks) (fun b o hb e => (sb.2 b hb).trans e) f0 f1 f3 f4 f5
  obtain ⟨o',e',c',d'⟩ := id st'
  have hkk : ∃ v,kvs[i]? = some (k,v) := by
   have := congrArg (fun l => l[i]?) r.keys
   simp only [List.getElem?_map,hx,Option.map_some] at this
   obtain ⟨q,hq,e⟩ := Option.map_eq_some_iff.mp this
   exact ⟨q.2,by rw [hq,<- e]⟩
  obtain ⟨v,hv⟩ := hkk
  exact ⟨key,rfl,znj (s := { s with heap := h' }) e' c' d' (by decide) ⟨kV k,H,I1,zm2 hk,⟨rfl,k,v,hv,rfl⟩,by rw [hl]; exact st',fun b hb => (hf b hb).1⟩⟩
 done := by
  intro X hP hw hK hc i pins s σ H E I hf st hg
  subst hP hw hK
  obtain ⟨he,hi⟩ := hg
  obtain ⟨vs,r,da⟩ := zpq I he hd
  have hl := r.length
  obtain ⟨f0,f1,f2,f3,f4,f5⟩ := hf it (by simp)
  rw [hl] at st
  exact wpAny_pyNext_dict_end (I.ok.hd hc) st da (by simp; omega) fun h' eb => ⟨rfl,I.turned (t' := s.toks) (fun b o hb e => eb b o hb e) f0 f1 f3 f4 f5⟩
 self := fun _ _ _ _ _ st h => wpAny_pyIter_keyiter st h
def iKeys (X : Cx) (tl : TE) : TI := fun σ H R => tl σ H fun x H1 => ∃ a kvs,x = .ref a /\ H1 a = some (.dK kvs) /\ ∀ o,Warm X a -> R (Itk a o kvs) (upd H1 a (.frz o (.dK kvs)))
theorem zqs {X : Cx} {tg l : Expr} {tl : TE} (hl : PE X l tl) : PI X tg l (iKeys X tl) := by
 intro pins s σ H R I h
 refine thn (hl pins s σ H _ I h) fun v s1 ⟨x,H1,I1,r1,q1⟩ => ?_
 obtain ⟨a,kvs,rfl,e,q⟩ := q1
 cases r1
 obtain ⟨_,hs,vs,r,o,es,ep,h1,h2,h3,h4⟩ := I1.hok a _ e
 have da : s1.heap.DictAt (zaH X.prog X.w) a vs ep := ⟨o,es,h1,h2,h3,h4⟩
 refine wpAny_pyIter_dict hs da ?_
 have I2 := I1.freeze e h1
 refine ⟨s1.heap.objs.size,[s1.heap.objs.size],_,_,upd H1 a (.frz o (.dK kvs)),rfl,I2.kept (t' := s1.toks) fun b o e => Heap.get?_push_of_some _ e,zlD a _ o kvs es ep h3,⟨_,Heap.get?_push_size _ rfl,rfl,by rw [r.length]; rfl⟩,fun b hb => ?_,q o (I1.warm e)⟩
 have e : b = s1.heap.objs.size := by simpa using hb
 subst e
 exact I2.fpOk (Nat.le_refl _) (I2.hok.fresh (Nat.le_refl _))
section
variable {X : Cx} {N0 : List Str} {tg elt iter : Expr} {ifs : List Expr} {scope : Scope} {xs : List Str} {cl : List (Str × Addr)} {pos : Pos} {tl : TE} {g : TG} {tf : TT} {te : TE}
def zpz (n : Nat) (g : TG) (tf : TT) (te : TE) (J : It) (fin : List V -> Hp -> Prop) (σ : St) (H : Hp) : Prop :=
 ∃ W : Nat -> Nat -> List V -> Hp -> Prop,(∃ m,W 0 m [] H) /\ ∀ i m ys H,W i m ys H -> ys.length <= sizeLine /\ ((J.stop i H /\ fin ys H) ∨ (J.go i H /\ ∃ (Y : V -> Hp -> Prop) (Z : Hp -> Prop),(∀ y H4,Y y H4 -> ys.length < sizeLine /\ ∃ m',m' < m /\ W (i + 1) m' (ys ++ [y]) H4) ∧
  (∀ H3,Z H3 -> ∃ m',m' < m /\ W (i + 1) m' ys H3) /\ ∀ x H',J.yld i H x H' -> g x (σ ++ List.replicate n none) H' fun σ2 H2 => tf σ2 H2 fun b H3 => if b = true then te σ2 H3 Y else Z H3))
def tCompK (X : Cx) (n : Nat) (tl : TE) (g : TG) (tf : TT) (te : TE) : TE := fun σ H Q => iKeys X tl σ H fun J H2 => ∃ a o kvs,J = Itk a o kvs /\ Warm X a ∧
 zpz n g tf te (Itk a o kvs) (fun ys H' => H' a = some (.frz o (.dK kvs)) /\ ∀ p,H' p = none -> Q (.ref p) (upd (upd H' p (.lst ys)) a (.dK kvs))) σ H2
theorem zor (hc : X.calm = true) (hx : X.xe = fun _ _ => False) (S : CompOk X N0 scope xs cl) (hl : PE X iter tl)
  (hg : ∀ C s H fp,PG (X.comp N0 scope xs cl C s H fp) tg g) (hf : ∀ C s H fp,PIf (X.comp N0 scope xs cl C s H fp) ifs tf) (he : ∀ C s H fp,PE (X.comp N0 scope xs cl C s H fp) elt te)
  (hs : autoParam (∀ x,foldedSetIterable iter X.env x = pure x) AutoP.a2._auto_1) :
  PE X (.ListComp elt [⟨tg,iter,ifs,0⟩] scope pos) (tCompK X xs.length tl g tf te) := by
 intro pins s σ H Q I h
 rw [eval_ListComp]
 refine wpAny_comprehension_free (use := none) rfl hs S.clos S.kind (fun y hy hl => (S.lo hy hl).1) ?_
 refine thn (zqs (tg := tg) hl pins s σ H _ I h) fun xv s1 h1 => thn h1 fun itv s2 h2 => ?_
 obtain ⟨it,fp,tn,J,H2,rfl,I2,T,st2,f2,a,o,kvs,rfl,wm,W,⟨m0,w0⟩,turn⟩ := h2
 refine zel (RR := fun acc C => compPost (model X.prog X.w) X.A X.xe none (EP X pins σ Q) acc C) hc hx S hg hf he I2 T st2 f2 w0 turn ?_
 intro D C s' ys H' m' I' nD hn fC ⟨e,fin⟩
 have ne : a ≠ D := fun z => by rw [z,nD] at e; cases e
 exact ⟨m',hn,fun h' k => ⟨.ref D,_,(zd3 I' fC k).thaw (by rw [zao ne]; exact e) wm,rfl,fin D nD⟩⟩
end
end L2
set_option autoImplicit false
namespace MD
open PySem PySem.Spec PyProof.Rows L2
section
variable {K : PySem.W.Frag} {cl : Str -> Addr} {ex : XD} {gt : GV} {ta : TV} {fa : EV}
theorem zlA {n k : Nat} {o : MO} {ds : List D} {fin : List V -> Hp -> Prop} {σ : L2.St} {α1 : List Addr} {ρ : En} {m1 : Sto} {H1 : Hp} {J : It} {R : RD (List D)} (W1 : Wd K cl α1 m1 H1) (hr1 : RepE K α1 H1 ρ σ) (hJ : ItO K cl α1 H1 J k o ds) (hk : ds.length <= 1000000)
  (q : PQ K cl ex (zem k o gt ta fa (ρ ++ List.replicate n none) ds m1) α1 H1 R) (hR : ∀ ds α' m' H' vs,Ext α1 H1 α' H' -> Wd K cl α' m' H' -> m'[k]? = some o -> R ds α' m' H' -> RepL K α' H' ds vs -> fin vs H') : zpz n (tDG K cl ex gt) (tDT K cl ex ta) (tD K cl ex fa) J fin σ H1 := by
 refine znG (k := ds.length) (fun i ys H2 => ∃ α2 m2 done,Ext α1 H1 α2 H2 /\ Wd K cl α2 m2 H2 /\ RepL K α2 H2 done ys /\ done.length <= i /\ PQ K cl ex ((zem k o gt ta fa (ρ ++ List.replicate n none) (ds.drop i) m2).bind fun xs m4 => .ok (done ++ xs) m4) α2 H2 R) hk ?_ ?_ ?_ ?_
 ·refine ⟨α1,m1,[],Ext.refl W1,W1,by rw [RepL],Nat.le_refl _,?_⟩
  simp only [List.nil_append,List.drop_zero,Res.bind_ok']
  exact q
 ·rintro i ys H2 ⟨_,_,done,_,_,r,l,_⟩
  rw [<- r.length]
  exact l
 ·rintro i ys H2 hi ⟨α2,m2,done,E2,W2,r2,l2,q2⟩
  have hd : ds[i]? = some ds[i] := by simp [hi]
  rw [List.drop_eq_getElem_cons hi,zem] at q2
  have q2' : m2[k]? = some o /\ PQ K cl ex (((gt ds[i] (ρ ++ List.replicate n none) m2).bind fun ρ1 m1 => (ta ρ1 m1).bind fun b m2 => if b = true then (fa ρ1 m2).bind fun x m3 => (zem k o gt ta fa (ρ ++ List.replicate n none) (ds.drop (i + 1)) m3).bind fun xs m4 => .ok (x :: xs) m4 else zem k o gt ta fa (ρ ++ List.replicate n none) (ds.drop (i + 1)) m2).bind fun xs m4 => .ok (done ++ xs) m4) α2 H2 R := by
   unfold grd at q2
   split at q2
   ·exact ⟨‹_›,q2⟩
   ·exact q2.elim
  obtain ⟨hko,q2⟩ := q2'
  obtain ⟨g1,g2⟩ := (hJ i α2 m2 H2 E2 W2 hko).1 _ hd
  refine ⟨g1,fun x H3 y => ?_⟩
  obtain ⟨sm,rx⟩ := g2 x H3 y
  have Es := Ext.of_same W2 sm
  have W3 := W2.same sm
  rw [Res.bind_assoc] at q2
  have E23 := E2.trans Es
  refine ⟨α2,ρ ++ List.replicate n none,m2,ds[i],W3,(hr1.mono W1 E23).more n,rx,PQ.mono Es q2.bind fun ρ4 α4 m4 H4 E4 W4 q4 σ4 hr4 => ?_⟩
  rw [Res.bind_assoc] at q4
  refine tDT.use W4 hr4 q4 fun α5 m5 H5 b E5 W5 hr5 q5 => ?_
  have E45 := E4.trans E5
  cases b with
  | false => exact ⟨α5,m5,done,E23.trans E45,W5,(r2.mono W2 Es).mono W3 E45,Nat.le_succ_of_le l2,q5⟩
  | true =>
   have q5' : PQ K cl ex (((fa ρ4 m5).bind fun x m3 => (zem k o gt ta fa (ρ ++ List.replicate n none) (ds.drop (i + 1)) m3).bind fun xs m4 => .ok (x :: xs) m4).bind fun xs m4 => .ok (done ++ xs) m4) α5 H5 R := q5
   rw [Res.bind_assoc] at q5'
   refine tD.use W5 hr5 q5' fun α6 m6 H6 d v E6 W6 hr6 rv q6 => ?_
   rw [Res.bind_assoc] at q6
   refine ⟨α6,m6,done ++ [d],E23.trans (E45.trans E6),W6,RepL.append (((r2.mono W2 Es).mono W3 E45).mono W5 E6) (RepL.one rv),by rw [List.length_append]; show done.length + 1 <= i + 1; omega,?_⟩
   simp only [List.append_assoc,List.singleton_append]
   exact q6
 ·rintro ys H2 ⟨α2,m2,done,E2,W2,r2,l2,q2⟩
  rw [List.drop_of_length_le (Nat.le_refl _),zem] at q2
  have q2' : m2[k]? = some o /\ PQ K cl ex (.ok (done ++ []) m2) α2 H2 R := by
   unfold grd at q2
   split at q2
   ·exact ⟨‹_›,q2⟩
   ·exact q2.elim
  obtain ⟨hko,q3⟩ := q2'
  refine ⟨(hJ ds.length α2 m2 H2 E2 W2 hko).2 rfl,?_⟩
  rw [List.append_nil] at q3
  exact hR _ _ _ _ _ E2 W2 hko (PQ.ok W2 q3) r2
def kD : L2.Key -> D
 | .inl i => .int i
 | .inr z => .str z
theorem rep_k {α : List Addr} {H : Hp} (k : L2.Key) : Rep K α H (kD k) (kV k) := by
 cases k with
 | inl i => rw [kD,Rep]; rfl
 | inr z => rw [kD,Rep]; rfl
theorem RepKV.keysEq {α : List Addr} {H : Hp} : ∀ {ds : List (L2.Key × D)} {vs : List (L2.Key × V)},RepKV K α H ds vs -> ds.map (·.1) = vs.map (·.1)
 | [],_,h => by rw [RepKV] at h; subst h; rfl
 | (k,d) :: r,_,h => by
  rw [RepKV] at h
  obtain ⟨v,r',rfl,_,h2⟩ := h
  rw [List.map_cons,List.map_cons,RepKV.keysEq h2]
theorem ito_k {α : List Addr} {H : Hp} {k : Nat} {a : Addr} {o : Obj} {kvs : List (L2.Key × D)} {xs : List (L2.Key × V)} (hf : H a = some (.frz o (.dK xs))) (e : kvs.map (·.1) = xs.map (·.1)) : ItO K cl α H (Itk a o xs) k .hid (kvs.map fun p => kD p.1) := fun i α1 m1 H1 E1 W1 hk => by
 have he := E1.frzs a o _ hf
 have hl : kvs.length = xs.length := by have := congrArg List.length e; simpa using this
 refine ⟨fun d hd => ?_,fun hi => ⟨he,by rw [hi,List.length_map]; omega⟩⟩
 have hi := (List.getElem?_eq_some_iff.mp hd).1
 rw [List.length_map] at hi
 refine ⟨⟨he,by omega⟩,?_⟩
 rintro x H2 ⟨rfl,k',v,hx,rfl⟩
 refine ⟨Same.refl _,?_⟩
 have h1 := congrArg (fun l => l[i]?) e
 simp only [List.getElem?_map,hx,Option.map_some] at h1
 obtain ⟨p,hp,ep⟩ := Option.map_eq_some_iff.mp h1
 rw [List.getElem?_map,hp] at hd
 cases hd
 show Rep K α1 H2 (kD p.1) (kV k')
 rw [ep]
 exact rep_k _
end
section
variable {K : PySem.W.Frag} {cl : Str -> Addr} {α : List Addr} {m : Sto} {H : Hp}
theorem Kp.thaw {a : Addr} {o : Obj} {ys : List (L2.Key × V)} (ha : a ∈ α) (hz : H a = some (.frz o (.dK ys))) : Kp α H α (upd H a (.dK ys)) := by
 refine ⟨⟨[],by simp⟩,fun b xs h => by rw [zao fun z => by rw [z,hz] at h; cases h]; exact h,fun b xs n h => ⟨n,?_⟩⟩
 have ne : b ≠ a := fun z => n (by rw [z]; exact ha)
 rcases h with h | ⟨o',h⟩
 ·exact .inl (by rw [zao ne]; exact h)
 ·exact .inr ⟨o',by rw [zao ne]; exact h⟩
theorem Wd.thaw (W : Wd K cl α m H) {k : Nat} {a : Addr} {o : Obj} {kvs : List (L2.Key × D)} {ys : List (L2.Key × V)} (h1 : α[k]? = some a) (hz : H a = some (.frz o (.dK ys))) (r : RepKV K α H kvs ys) : Wd K cl α (m.set k (.dct kvs)) (upd H a (.dK ys)) := by
 have ha : a ∈ α := List.mem_of_getElem? h1
 have kp := Kp.thaw ha hz
 refine ⟨by rw [List.length_set]; exact W.len,W.nd,fun j b o' e1 e2 => ?_⟩
 by_cases hj : k = j
 ·subst hj
  rw [h1] at e1
  cases e1
  have hk : k < m.length := by rw [<- W.len]; exact (List.getElem?_eq_some_iff.mp h1).1
  rw [List.getElem?_set_self hk] at e2
  cases e2
  exact ⟨ys,zax,r.kp kp⟩
 ·rw [List.getElem?_set_ne hj] at e2
  have hne : b ≠ a := fun z => by
   subst z
   obtain ⟨hk,e3⟩ := List.getElem?_eq_some_iff.mp h1
   obtain ⟨hk2,e4⟩ := List.getElem?_eq_some_iff.mp e1
   exact hj ((List.getElem_inj W.nd).mp (e3.trans e4.symm))
  exact (W.at' j b o' e1 e2).kp kp fun u hu => by rw [zao hne]; exact hu
end
def zq6 (n : Nat) (g : GV) (c : TV) (el : EV) (ρ : En) (x : D) (m1 : Sto) : Res D := match x with
 | .ob k => match m1[k]? with
  | some (.dct kvs) => if kvs.length <= 1000000 then (match zem k .hid g c el (ρ ++ List.replicate n none) (kvs.map fun p => kD p.1) (m1.set k .hid) with
   | .ok xs m2 => .ok (.lst xs) (m2.set k (.dct kvs))
   | _ => .bad) else .bad
  | _ => .bad
 | _ => .bad
def zgC (n : Nat) (fi : EV) (g : GV) (c : TV) (el : EV) : EV := fun ρ m => (fi ρ m).bind fun x m1 => zq6 n g c el ρ x m1
section
variable {X : Cx} {N0 : List Str} {cl : Str -> Addr} {ex : XD} {e tg it : Expr} {ifs : List Expr} {fa fi : EV} {ta : TV} {pos : Pos} {gt : GV} {scope : Scope} {xs : List Str} {clo : List (Str × Addr)}
theorem zj2 (hc : X.calm = true) (hx : X.xe = fun _ _ => False) (S : CompOk X N0 scope xs clo) (hi : QE X cl ex it fi)
  (hg : ∀ C s H fp,QG (X.comp N0 scope xs clo C s H fp) cl ex tg gt) (hf : ∀ C s H fp,PIf (X.comp N0 scope xs clo C s H fp) ifs (tDT X.K cl ex ta)) (he : ∀ C s H fp,QE (X.comp N0 scope xs clo C s H fp) cl ex e fa)
  (hs : autoParam (∀ x,foldedSetIterable it X.env x = pure x) AutoP.a2._auto_1) : QE X cl ex (.ListComp e [⟨tg,it,ifs,0⟩] scope pos) (zgC xs.length fi gt ta fa) :=
 ⟨PE.weak (zor (g := tDG X.K cl ex gt) (tf := tDT X.K cl ex ta) (te := tD X.K cl ex fa) hc hx S hi.out (fun C s H fp => (hg C s H fp).out) hf (fun C s H fp => (he C s H fp).out) hs) fun σ H Q hh => ex3 hh fun α ρ m W hr h =>
  tD.use W hr h fun α1 m1 H1 d v E1 W1 hr1 rv q1 => by
   unfold zq6 at q1
   split at q1
   ·rename_i k
    split at q1
    ·rename_i kvs hk
     obtain ⟨hlen,q1⟩ := PQ.if q1
     rw [Rep] at rv
     obtain ⟨a,ha,rfl⟩ := rv
     obtain ⟨ys,h1,r1⟩ := W1.dct ha hk
     have ek := RepKV.keysEq r1
     split at q1
     ·rename_i zs m2 hcomp
      refine ⟨a,ys,rfl,h1,fun o wm => ⟨a,o,ys,rfl,wm,?_⟩⟩
      obtain ⟨Wf,Ef⟩ := W1.set (u := .frz o (.dK ys)) (o := .hid) ha fun _ => ⟨o,ys,zax⟩
      refine zlA (R := fun ds α' m' _ => ds = zs /\ m' = m2) (k := k) (o := .hid) (ds := kvs.map fun p => kD p.1) Wf (hr1.mono W1 Ef) (ito_k zax ek) (by rw [List.length_map]; exact hlen) (by rw [hcomp]; exact fun _ _ _ _ => ⟨rfl,rfl⟩) ?_
      rintro ds α' m' H' vs E' W' hk' ⟨rfl,rfl⟩ rvs
      have hfz := E'.frzs a o _ zax
      refine ⟨hfz,fun p hp => ?_⟩
      obtain ⟨β,rfl,hβ⟩ := E'.pre
      have ha' : (α1 ++ β)[k]? = some a := by rw [List.getElem?_append_left (List.getElem?_eq_some_iff.mp ha).1]; exact ha
      have sm := Same.new (o := .lst vs) hp
      have Wp := W'.same sm
      have hpz : upd H' p (.lst vs) a = some (.frz o (.dK ys)) := sm a _ hfz
      have Ep := E'.trans (Ext.of_same W' sm)
      have r2 : RepKV X.K (α1 ++ β) (upd H' p (.lst vs)) kvs ys := (r1.mono W1 Ef).mono Wf Ep
      have Wt := Wp.thaw ha' hpz r2
      have Et : Ext α1 H1 (α1 ++ β) (upd (upd H' p (.lst vs)) a (.dK ys)) := by
       have E0 := Ef.trans Ep
       have ham : a ∈ α1 := List.mem_of_getElem? ha
       refine ⟨E0.pre,fun b u hb n => ?_,fun b hb => ?_,fun b u w hb => ?_⟩
       ·rw [zao fun z => n (by rw [z]; exact ham)]
        exact E0.keep b u hb n
       ·by_cases z : b = a
        ·rw [z,zax]; exact fun q => nomatch q
        ·rw [zao z]; exact E0.there b hb
       ·rw [zao fun z => by rw [z,h1] at hb; cases hb]
        exact E0.frzs b u w hb
      exact q1 _ _ Et Wt _ ((zb4 W' hp rvs).kp (Kp.thaw (List.mem_of_getElem? ha') hpz))
     ·exact q1.elim
    ·exact q1.elim
   ·exact q1.elim⟩
end
end MD
set_option autoImplicit false
namespace L2
open PySem PySem.Spec PyProof.Rows
theorem zey : ∀ {ns : List Int} {us : List Value},Vals (ns.map V.int) us -> IntsAre us ns
 | [],_,r => by cases r; exact .nil
 | n :: ns,_,r => by
  cases r with
  | cons a b =>
   obtain ⟨t,rfl⟩ := a
   exact .cons _ _ (zey b)
def zdk (ns : List Int) : List Int := ns.mergeSort
theorem zbk (ns : List Int) : (zdk ns).Perm ns := List.mergeSort_perm ns _
theorem zcH (ns : List Int) : (zdk ns).Pairwise (· <= ·) := by
 have h := List.pairwise_mergeSort (le := fun a b : Int => decide (a <= b)) (fun a b c h1 h2 => by simp at *; omega) (fun a b => by simp; omega) ns
 exact h.imp fun h => by simpa using h
theorem znX {ns ns' : List Int} (p : ns'.Perm ns) (o : ns'.Pairwise (· <= ·)) : ns' = zdk ns := PySem.W.ksm_same (p.trans (zbk ns).symm) o (zcH ns)
theorem zfj (ns : List Int) : (zdk ns).length = ns.length := (zbk ns).length_eq
section
variable {X : Cx}
theorem zlf {P : Program} {w : World} {kvs : List (Key × V)} {vs : List (Key × Value)} (r : KV kvs vs) {acc : List Value} (hl : acc.length = vs.length) (h : ∀ (j : Nat) (v : Value),acc[j]? = some v -> ∃ (k : Key) (x : Value),vs[j]? = some (k,x) /\ (zaH P w).is k v = true) : Vals (kvs.map fun p => kV p.1) acc := by
 have hk := r.keys
 have : ∀ (ks : List Key) (acc : List Value),acc.length = ks.length -> (∀ (j : Nat) (v : Value),acc[j]? = some v -> ∃ k : Key,ks[j]? = some k /\ (zaH P w).is k v = true) -> Vals (ks.map kV) acc := by
  intro ks
  induction ks with
  | nil => intro acc hl _; cases acc with
   | nil => exact .nil
   | cons => cases hl
  | cons k ks ih => intro acc hl h; cases acc with
   | nil => cases hl
   | cons a acc =>
    obtain ⟨k',e1,e2⟩ := h 0 a rfl
    cases e1
    exact .cons (zm2 e2) (ih acc (by simpa using hl) fun j v e => by simpa using h (j + 1) v (by simpa using e))
 have q := this (vs.map (·.1)) acc (by rw [List.length_map]; exact hl) fun j v e => by
  obtain ⟨k,x,e1,e2⟩ := h j v e
  exact ⟨k,by rw [List.getElem?_map,e1]; rfl,e2⟩
 rw [<- hk,List.map_map] at q
 exact q
def zjZ : List V -> Hp -> VK -> Prop := fun xs H Q => ∃ (a : Addr) (kvs : List (Key × V)) (ns : List Int),xs = [.ref a] /\ Rd H a (.dK kvs) /\ kvs.map (·.1) = ns.map Sum.inl /\ ns.length < 64 /\ ∀ l,H l = none -> Q (.ref l) (upd H l (.lst ((zdk ns).map V.int)))
theorem ziD (hc : X.calm = true) : CallR X (.builtin "sorted") zjZ := by
 intro pins s σ H xs us Q I r h
 obtain ⟨a,kvs,ns,rfl,hr,hk,h64,q⟩ := h
 obtain ⟨u,rfl,rx⟩ := zb3 r
 cases rx
 obtain ⟨hz,hd,vs,rel,dd⟩ := zgf I.hok hr
 obtain ⟨ep,hat⟩ := dd.dictAt
 have hlen : kvs.length = ns.length := by have := congrArg List.length hk; simpa using this
 have hlv := rel.length
 refine Calls.call_function_entry kind_sorted plain_sorted entry_sorted (args_sorted1 _) ?_
 unfold Builtin.«sorted»
 refine wpAny_bind (m := checkCount "sorted" 1 1 _) (wpAny_pure ?_)
 refine wpAny_bind (PySem.W.kdu_collect (A := X.A.in1) (PySem.W.kdl_dict (knd := zaH X.prog X.w) (kvs := vs) (ep := ep) hd) (I.ok.hd hc) hat (by rw [<- hlv]; exact hz) fun h' tk acc kp hacc => ?_)
 have hl : acc.toList.length = vs.length := by rw [Array.length_toList]; exact hacc.1
 have hv := zlf (P := X.prog) (w := X.w) rel hl fun j v e => hacc.2 j v (by rw [<- Array.getElem?_toList]; exact e)
 have ek : (kvs.map fun p => kV p.1) = ns.map V.int := by
  have := congrArg (List.map kV) hk
  rw [List.map_map,List.map_map] at this
  exact this
 rw [ek] at hv
 have hi := zey hv
 refine wpAny_bind (wpAny_newList ?_ (by rw [hl,<- hlv]; exact hz))
 have hoL : (h'.push (seqObj "list" acc.toList.toArray 0)).get? h'.objs.size = some (seqObj "list" acc.toList.toArray 0) := Heap.get?_push_size _ rfl
 show wpAny _ _ _ _ _ { s with heap := h'.push (seqObj "list" acc.toList.toArray 0),toks := tk }
 refine wpAny_bind (wpAny_holding (wpAny_call_entry slot_list_sort ⟨_,hoL,rfl⟩ entry_list_sort (list_sort_tree hoL hi (by omega) fun out ns' a1 a2 a3 => ⟨_,rfl,?_⟩) (args_list_sort _)))
 refine wpAny_pure ⟨_,rfl,?_⟩
 obtain ⟨e,he⟩ := sortedHeap_at (out := out) hoL
 have hn : ns' = zdk ns := znX a2 a3
 subst hn
 have I1 : Inv X pins σ H { s with heap := h',toks := tk } := I.kept (t' := tk) kp
 refine ⟨.ref h'.objs.size,_,I1.laid (t' := tk) (fun b o ho => ?_) (Nat.le_refl _) (show ObjOk X.prog X.w _ _ _ (.lst ((zdk ns).map V.int)) from ⟨?_,out.toList,e,zfe a1,by simpa using he⟩),rfl,q _ (I1.hok.fresh (Nat.le_refl _))⟩
 ·have hlt := Heap.lt_size ho
  rw [sortedHeap_old (Nat.ne_of_lt hlt) (by rw [size_push']; exact Nat.lt_succ_of_lt hlt),Heap.get?_push_ne _ _ _ (Nat.ne_of_lt hlt)]
  exact ho
 ·rw [List.length_map,zfj,sizeLine_eq]
  omega
end
section
variable {X : Cx} {N0 : List Str} {scope : Scope} {xs : List Str} {cl : List (Str × Addr)} {pins : List (Addr × Obj)} {σ : St} {H2 : Hp} {s2 : Shared} {fp : List Addr} {C : Addr}
theorem znF {pins' : List (Addr × Obj)} {σ' : St} {H' : Hp} {s' : Shared} {D : Addr} {ys : List (Key × V)} {vs : List (Key × Value)} (I2 : Inv X pins σ H2 s2) (f2 : ∀ b ∈ fp,zd7 X pins H2 b) (hD : s2.heap.objs.size <= D)
  (J : Inv (X.comp N0 scope xs cl C s2 H2 fp) pins' σ' H' s') (hn : H' D = none) (hs : (D == sysModules) = false) (r : KV ys vs) (dd : s'.heap.DictOf (zaH X.prog X.w) D vs) (hz : ys.length <= sizeLine) :
  Inv X pins σ (upd H' D (.dK ys)) s' := by
 have u : Un (frs X.stack) fp H2 H' s2.heap s'.heap := J.base
 have neD : ∀ b o,s2.heap.get? b = some o -> b ≠ D := fun b o q => Nat.ne_of_lt (Nat.lt_of_lt_of_le (Heap.lt_size q) hD)
 have neT : ∀ b o,H2 b = some o -> b ≠ D := fun b o q => Nat.ne_of_lt (Nat.lt_of_lt_of_le (I2.hok.lt q) hD)
 refine I2.call' (ch := fp) J.os ⟨u.keep,u.slot,fun b o q m hx => ?_,u.there,fun b zs q => ?_,fun b o zs q => ?_,fun b ps q => ?_⟩ (zdV J.hok hn ⟨hz,hs,vs,r,dd⟩) J.bare fun b hb => ?_
 ·rw [zao (neD b o q)]
  exact u.free b o q m hx
 ·rw [zao (neT b _ q)]
  exact u.tups b zs q
 ·rw [zao (neT b _ q)]
  exact u.frzs b o zs q
 ·rw [zao (neT b _ q)]
  exact u.tbls b ps q
 ·obtain ⟨_,z1,_,z2,z3,z4⟩ := f2 b hb
  exact ⟨z2,z1,z3,z4⟩
end
theorem zjt {prog : Program} {w : World} {A : Around} {R : Result -> Shared -> Prop} {s : Shared} {kx vx target iter : Expr} {ifs : List Expr} {scope : Scope} {pos : Pos} {it : Value} {D : Addr} {env : Env} (I : Nat -> Shared -> Prop)
  (turn : ∀ n s,I n s -> wpAny (model prog w) A (pyNext it) (fun r s₁ => match r with
   | none => R (.ok .next) s₁
   | some v => wpAny (model prog w) A (letOwnedTupleGo target it v) (fun _ t₁ => wpAny (model prog w) A (assign target env v) (fun _ s₂ =>
     wpAny (model prog w) A (forIn ifs true fun c r => if r = true then do let ok <- isTrue c env (eval c env); pure (ForInStep.yield ok) else pure (ForInStep.yield r)) (fun ok s₃ =>
      if ok = true then wpAny (model prog w) A (eval kx env) (fun kv s₄ => wpAny (model prog w) A (eval vx env) (fun vv s₅ => wpAny (model prog w) A (dictSet D kv vv) (fun _ s₆ => ∃ m,m < n /\ I m s₆) (fun _ _ => False) s₅) (fun _ _ => False) s₄) (fun _ _ => False) s₃
      else ∃ m,m < n /\ I m s₃) (fun _ _ => False) s₂) (fun _ _ => False) t₁) (fun _ _ => False) s₁) (fun _ _ => False) s)
  (n : Nat) (h : I n s) : codeAny (model prog w) A (.compLoop (.DictComp kx vx [⟨target,iter,ifs,0⟩] scope pos) 0 it (.ref D) env) R s := by
 refine codeAny_loop rfl I (fun n s hI => ?_) n h
 show wpAny _ A (Sem.onRaise (compTurn _ 0 it (.ref D) env) fun x => do noteFrame x env; theTreesLotGoes x) _ _ s
 refine wpAny_noted ?_
 rw [compTurn_dict]
 refine wpAny_bind (wpAny_standAt (wpAny_bind (wpAny_mono (turn n s hI) (fun r s₁ h₁ => ?_) fun _ _ z => z.elim)))
 cases r with
 | none => exact wpAny_pure h₁
 | some v =>
  refine wpAny_bind (wpAny_mono h₁ (fun _ t₁ k₁ => ?_) fun _ _ z => z.elim)
  refine wpAny_bind (wpAny_mono k₁ (fun _ s₂ h₂ => wpAny_bind (wpAny_mono h₂ (fun ok s₃ h₃ => ?_) fun _ _ z => z.elim)) fun _ _ z => z.elim)
  cases ok with
  | false => exact wpAny_pure ⟨rfl,h₃⟩
  | true =>
   exact wpAny_bind (wpAny_bind (wpAny_mono h₃ (fun kv s₄ h₄ => wpAny_bind (wpAny_holding (wpAny_mono h₄ (fun vv s₅ h₅ => wpAny_bind (wpAny_standAt (wpAny_holding (wpAny_mono h₅ (fun _ s₆ h₆ => wpAny_pure ⟨rfl,h₆⟩) fun _ _ z => z.elim)))) fun _ _ z => z.elim))) fun _ _ z => z.elim))
section
variable {X : Cx} {N0 : List Str} {tg kx vx iter : Expr} {ifs : List Expr} {scope : Scope} {xs : List Str} {cl : List (Str × Addr)} {pos : Pos} {wi : TI} {g : TG} {tf : TT} {tk tv : TE}
theorem zju {pins : List (Addr × Obj)} {σ : St} {H2 : Hp} {s2 : Shared} {it : Addr} {fp : List Addr} {tn : Nat -> Heap -> Prop} {J : It} {W : Nat -> Nat -> List (Key × V) -> Hp -> Prop} {m0 : Nat} {fin : List (Key × V) -> Hp -> Prop} {RR : Value -> Addr -> Result -> Shared -> Prop}
  (hc : X.calm = true) (hx : X.xe = fun _ _ => False) (S : CompOk X N0 scope xs cl)
  (hg : ∀ C s H fp,PG (X.comp N0 scope xs cl C s H fp) tg g) (hf : ∀ C s H fp,PIf (X.comp N0 scope xs cl C s H fp) ifs tf) (hk : ∀ C s H fp,PE (X.comp N0 scope xs cl C s H fp) kx tk) (he : ∀ C s H fp,PE (X.comp N0 scope xs cl C s H fp) vx tv)
  (I2 : Inv X pins σ H2 s2) (T : Turn X.prog X.w X.K tg J fp it tn) (st2 : tn 0 s2.heap) (f2 : ∀ b ∈ fp,zd7 X pins H2 b) (w0 : W 0 m0 [] H2)
  (turn : ∀ i m ys H,W i m ys H -> ys.length <= sizeLine /\ ((J.stop i H /\ fin ys H) ∨ (J.go i H /\ ∃ (Y : Key -> V -> Hp -> Prop) (Z : Hp -> Prop),(∀ k y H4,Y k y H4 -> ys.length < sizeLine /\ ∃ m',m' < m /\ W (i + 1) m' (zdP ys k y) H4) /\ (∀ H3,Z H3 -> ∃ m',m' < m /\ W (i + 1) m' ys H3) ∧
   ∀ x H',J.yld i H x H' -> g x (σ ++ List.replicate xs.length none) H' fun σ2 H2 => tf σ2 H2 fun b H3 => if b = true then tk σ2 H3 (fun kv H4 => tv σ2 H4 fun y H5 => ∃ k,kv = kV k /\ Y k y H5) else Z H3)))
  (hRR : ∀ (D C : Addr) (s' : Shared) (ys : List (Key × V)) (H' : Hp) (m' : Str -> Option Value),Inv X pins σ (upd H' D (.dK ys)) s' -> H' D = none -> s'.heap.Ns C m' -> zd7 X pins (upd H' D (.dK ys)) C -> fin ys H' -> RR (.ref D) C (.ok .next) s') :
  wpAny (model X.prog X.w) X.A newDict (fun acc s₃ => wpAny (model X.prog X.w) X.A (newFunctionEnv scope X.env.globals cl [] X.env.qual none .none (some X.env)) (fun cenv s₄ =>
   codeAny (model X.prog X.w) X.A (.compStart (.DictComp kx vx [⟨tg,iter,ifs,0⟩] scope pos) 0 (.ref it) acc { cenv with scope := relabel scope X.env }) (RR acc cenv.locals) s₄) X.xe s₃) X.xe s2 := by
 refine wpAny_newObj_type (wpAny_newFunctionEnv S.nc (by intro y hy; simp at hy) (fun h₁ hns₁ hsb₁ => ?_) S.kind)
 dsimp only at hns₁ hsb₁ ⊢
 generalize hG : s2.heap.push { cls := .type "dict", dict := none,data := .dict #[] } = G at hns₁ hsb₁ ⊢
 have szG : G.objs.size = s2.heap.objs.size + 1 := by rw [<- hG,Heap.size_push]
 have hDC : s2.heap.objs.size ≠ G.objs.size := by rw [szG]; exact Nat.ne_of_lt (Nat.lt_succ_self _)
 have hC : s2.heap.objs.size <= G.objs.size := by rw [szG]; exact Nat.le_succ _
 have hfp : ∀ b ∈ fp,b < s2.heap.objs.size := fun b hb => let ⟨_,e,_⟩ := T.obj 0 _ st2 b hb; Heap.lt_size e
 have old : ∀ b o,s2.heap.get? b = some o -> h₁.get? b = some o := fun b o e =>
  hsb₁.extBut b o (Nat.ne_of_lt (Nat.lt_of_lt_of_le (Heap.lt_size e) hC)) (Heap.get?_push_of_some _ (hG ▸ Heap.get?_push_of_some _ e))
 have hacc : h₁.get? s2.heap.objs.size = some { cls := .type "dict", data := .dict #[] } := hsb₁.extBut _ _ hDC (Heap.get?_push_of_some _ (hG ▸ Heap.get?_push_size _ rfl))
 have hnew : h₁.DictOf (zaH X.prog X.w) s2.heap.objs.size [] := (Heap.DictOf.new (knd := zaH X.prog X.w) s2.heap).at fun o e => by rw [Heap.get?_push_size _ rfl] at e; cases e; exact hacc
 have hsys : (s2.heap.objs.size == sysModules) = false := beq_eq_false_iff_ne.mpr (Ne.symm (Nat.ne_of_lt I2.big))
 have hst₁ : tn 0 h₁ := T.keep 0 _ _ st2 fun b _ o e => old b o e
 have I3 : ∀ tk,Inv (X.comp N0 scope xs cl G.objs.size s2 H2 fp) [(s2.heap.objs.size,{ cls := .type "dict", data := .dict #[] })] (σ ++ List.replicate xs.length none) H2 { s2 with heap := h₁,toks := tk } := fun tk =>
  zgD I2 S f2 hfp hC (Nat.le_refl _) hDC old rfl I2.bare hns₁ hacc fun _ z => nomatch z
 have stat : ∀ {H' : Hp} {o : Obj},(∀ b ∈ fp,H' b = none) -> ∀ b ∈ fp,zd7 (X.comp N0 scope xs cl G.objs.size s2 H2 fp) [(s2.heap.objs.size,o)] H' b := fun {H' o} hn b hb => by
  refine ⟨hn b hb,Nat.ne_of_lt (Nat.lt_of_lt_of_le (hfp b hb) hC),fun z => ?_,.inl hb,fun x c e => (f2 b hb).2.2.2.2.1 x c (S.sub.at e),fun p hp => ?_⟩
  ·rcases List.mem_cons.mp (I2.stkSub b z) with q | q
   ·exact (f2 b hb).2.1 q
   ·exact (f2 b hb).2.2.1 q
  ·have e : p = (s2.heap.objs.size,o) := List.mem_singleton.mp (show p ∈ [(s2.heap.objs.size,o)] from hp)
   subst e
   exact Nat.ne_of_gt (hfp b hb)
 have loop : ∀ tk0,codeAny (model X.prog X.w) X.A (.compLoop (.DictComp kx vx [⟨tg,iter,ifs,0⟩] scope pos) 0 (.ref it) (.ref s2.heap.objs.size) (compEnvC scope cl G.objs.size X.env)) (RR (.ref s2.heap.objs.size) G.objs.size) { s2 with heap := h₁,toks := tk0 } := by
  intro tk0
  refine zjt (fun n s' => ∃ i ys vs oD H',Inv (X.comp N0 scope xs cl G.objs.size s2 H2 fp) [(s2.heap.objs.size,oD)] (σ ++ List.replicate xs.length none) H' s' /\ tn i s'.heap /\ (∀ b ∈ fp,H' b = none) /\ KV ys vs /\ s'.heap.DictOf (zaH X.prog X.w) s2.heap.objs.size vs /\ W i n ys H')
   ?_ m0 ⟨0,[],[],_,H2,I3 tk0,hst₁,fun b hb => (f2 b hb).1,.nil,hnew,w0⟩
  rintro n s' ⟨i,ys,vs,oD,H',I',st',fr',rv,dd,w'⟩
  obtain ⟨hlen,way⟩ := turn i n ys H' w'
  have atD : ∀ {pins' : List (Addr × Obj)} {σ' : St} {H' : Hp} {s' : Shared},Inv (X.comp N0 scope xs cl G.objs.size s2 H2 fp) pins' σ' H' s' -> (s2.heap.objs.size,oD) ∈ (X.comp N0 scope xs cl G.objs.size s2 H2 fp).pn ++ pins' -> s'.heap.DictOf (zaH X.prog X.w) s2.heap.objs.size vs := fun {pins' σ' H' s'} J hm => by
   obtain ⟨o,ho,hr⟩ := Heap.dictOf_iff.mp dd
   obtain ⟨e1,_⟩ := I'.pin _ (List.mem_append_right _ (List.mem_singleton.mpr rfl))
   rw [e1] at ho
   cases ho
   exact Heap.dictOf_iff.mpr ⟨oD,(J.pin _ hm).1,hr⟩
  rcases way with ⟨stop,qf⟩ | ⟨go,Y,Z,hY,hZ,step⟩
  ·refine thn (T.done (X.comp N0 scope xs cl G.objs.size s2 H2 fp) rfl rfl rfl hc i _ s' _ H' (fun _ _ => False) I' (stat fr') st' stop) fun r s1 ⟨hr,I1⟩ => ?_
   subst hr
   obtain ⟨e,n1,_⟩ := I1.pin _ (List.mem_append_right _ (List.mem_singleton.mpr rfl))
   obtain ⟨m1,hn1,_⟩ := I1.loc
   refine hRR _ _ s1 ys H' m1 (znF I2 f2 (Nat.le_refl _) I1 n1 hsys rv (atD I1 (List.mem_append_right _ (List.mem_singleton.mpr rfl))) hlen) n1 hn1 ?_ qf
   refine I2.fpOk hC ?_
   rw [zao hDC.symm]
   exact I1.free
  ·refine thn (T.item (X.comp N0 scope xs cl G.objs.size s2 H2 fp) rfl rfl rfl hc i _ s' _ H' (fun _ _ => False) I' (stat fr') st' go) fun r s1 ⟨u,hr,h1⟩ => ?_
   subst hr
   refine thn h1 fun _ s5 ⟨x,H5,I5,r5,y5,st5,fr5⟩ => ?_
   have I5' := I5.pinned (stat fr5) (T.obj _ _ st5)
   have hxe : (X.comp N0 scope xs cl G.objs.size s2 H2 fp).xe = fun _ _ => False := hx
   have q6 := hg _ s2 H2 fp _ s5 _ H5 x u _ I5' r5 (step x H5 y5)
   rw [hxe] at q6
   refine thn q6 fun _ s6 ⟨σ6,H6,I6,q6⟩ => ?_
   have q7 := hf _ s2 H2 fp _ s6 σ6 H6 _ I6 q6
   rw [hxe] at q7
   refine thn q7 fun b s7 ⟨H7,I7,q7⟩ => ?_
   have kept : ∀ {σ' : St} {H' : Hp} {s' : Shared},Inv (X.comp N0 scope xs cl G.objs.size s2 H2 fp) ([(s2.heap.objs.size,oD)] ++ zbO fp s5.heap) σ' H' s' -> tn (i + 1) s'.heap /\ ∀ b ∈ fp,H' b = none := fun {σ' H' s'} Z => by
    refine ⟨T.keep _ _ _ st5 fun b hb o e => (Z.pin (b,o) (List.mem_append_right _ (List.mem_append_right _ (zbM hb e)))).1,fun b hb => ?_⟩
    obtain ⟨o,e,d⟩ := T.obj _ _ st5 b hb
    exact (Z.pin (b,o) (List.mem_append_right _ (List.mem_append_right _ (zbM hb e)))).2.1
   cases b with
   | false =>
    rw [if_neg Bool.false_ne_true]
    rw [if_neg Bool.false_ne_true] at q7
    obtain ⟨m',hm,w7⟩ := hZ _ q7
    exact ⟨m',hm,i + 1,ys,vs,oD,H7,zc5 I2 S f2 I7.unpinned,(kept I7).1,(kept I7).2,rv,atD I7 (List.mem_append_right _ (List.mem_append_left _ (List.mem_singleton.mpr rfl))),w7⟩
   | true =>
    rw [if_pos rfl]
    rw [if_pos rfl] at q7
    have q8 := hk _ s2 H2 fp _ s7 σ6 H7 _ I7 q7
    rw [hxe] at q8
    refine thn q8 fun kv s8 ⟨kvv,H8,I8,r8,q8⟩ => ?_
    have q9 := he _ s2 H2 fp _ s8 σ6 H8 _ I8 q8
    rw [hxe] at q9
    refine thn q9 fun y s9 ⟨yv,H9,I9,r9,kk,ek,qY⟩ => ?_
    subst ek
    obtain ⟨hz,m',hm,w8⟩ := hY _ _ _ qY
    have mD : (s2.heap.objs.size,oD) ∈ (X.comp N0 scope xs cl G.objs.size s2 H2 fp).pn ++ ([(s2.heap.objs.size,oD)] ++ zbO fp s5.heap) := List.mem_append_right _ (List.mem_append_left _ (List.mem_singleton.mpr rfl))
    obtain ⟨eD,nD,neC,nfD,_⟩ := I9.pin (s2.heap.objs.size,oD) mD
    have hl := rv.length
    refine wpAny_dictSet_pairs (hsz := by rw [<- hl]; exact hlen) (zji r8) (atD I9 mD) fun h₆ hl₆ hs₆ => ?_
    obtain ⟨o',ho',hr'⟩ := Heap.dictOf_iff.mp hl₆
    have hcell : ∀ v,o'.data ≠ .cell v := fun v z => by
     obtain ⟨_,es,ep,hg',_,hd',_⟩ := hl₆
     rw [ho'] at hg'
     cases hg'
     rw [hd'] at z
     cases z
    have drop : Inv (X.comp N0 scope xs cl G.objs.size s2 H2 fp) (zbO fp s5.heap) σ6 H9 s9 := I9.pins_of fun p hp => I9.pin p (List.mem_append_right _ (List.mem_append_right _ hp))
    have I10 : ∀ t',Inv (X.comp N0 scope xs cl G.objs.size s2 H2 fp) (zbO fp s5.heap) σ6 H9 { s9 with heap := h₆,toks := t' } := fun t' => by
     refine drop.turned (it := s2.heap.objs.size) (t' := t') (fun b o hb q => hs₆.extBut b o hb q) nD neC (.inr (Nat.le_refl _)) (fun x c e z => ?_) fun p hp z => ?_
     ·obtain ⟨v,q⟩ := I2.cell x c (S.sub.at e)
      exact absurd (q.lt) (by rw [z]; exact Nat.lt_irrefl _)
     ·have hp' : p ∈ zbO fp s5.heap := hp
      exact absurd (hfp _ (zfu hp').1) (by rw [z]; exact Nat.lt_irrefl _)
    have I11 : ∀ t',Inv (X.comp N0 scope xs cl G.objs.size s2 H2 fp) ([(s2.heap.objs.size,o')] ++ zbO fp s5.heap) σ6 H9 { s9 with heap := h₆,toks := t' } := fun t' => (I10 t').pins_of fun p hp => by
     rcases List.mem_append.mp hp with z | z
     ·have e := List.mem_singleton.mp z
      subst e
      exact ⟨ho',nD,neC,nfD,hcell⟩
     ·exact (I10 t').pin p (List.mem_append_right _ z)
    have kp : tn (i + 1) h₆ /\ ∀ b ∈ fp,H9 b = none := by
     refine ⟨T.keep _ _ _ (kept I9).1 fun b hb o e => hs₆.extBut b o (Nat.ne_of_lt (hfp b hb)) e,(kept I9).2⟩
    exact ⟨m',hm,i + 1,zdP ys kk yv,stored vs kk y,o',H9,zc5 I2 S f2 (I11 _).unpinned,kp.1,kp.2,rv.put kk r9,hl₆,w8⟩
 exact codeAny_compStart_dict (loop _) (T.self _ 0 _ _ _ hst₁ (loop _))
def zo3 (n : Nat) (wi : TI) (g : TG) (tf : TT) (tk tv : TE) (fin : List (Key × V) -> Hp -> Prop) : St -> Hp -> Prop := fun σ H => wi σ H fun J H1 => ∃ W : Nat -> Nat -> List (Key × V) -> Hp -> Prop,(∃ m,W 0 m [] H1) /\ ∀ i m ys H,W i m ys H →
 ys.length <= sizeLine /\ ((J.stop i H /\ fin ys H) ∨ (J.go i H /\ ∃ (Y : Key -> V -> Hp -> Prop) (Z : Hp -> Prop),(∀ k y H4,Y k y H4 -> ys.length < sizeLine /\ ∃ m',m' < m /\ W (i + 1) m' (zdP ys k y) H4) /\ (∀ H3,Z H3 -> ∃ m',m' < m /\ W (i + 1) m' ys H3) ∧
  ∀ x H',J.yld i H x H' -> g x (σ ++ List.replicate n none) H' fun σ2 H2 => tf σ2 H2 fun b H3 => if b = true then tk σ2 H3 (fun kv H4 => tv σ2 H4 fun y H5 => ∃ k,kv = kV k /\ Y k y H5) else Z H3))
theorem zos (hc : X.calm = true) (hx : X.xe = fun _ _ => False) (S : CompOk X N0 scope xs cl) (hi : PI X tg iter wi)
  (hg : ∀ C s H fp,PG (X.comp N0 scope xs cl C s H fp) tg g) (hf : ∀ C s H fp,PIf (X.comp N0 scope xs cl C s H fp) ifs tf) (hk : ∀ C s H fp,PE (X.comp N0 scope xs cl C s H fp) kx tk) (he : ∀ C s H fp,PE (X.comp N0 scope xs cl C s H fp) vx tv)
  (hs : autoParam (∀ x,foldedSetIterable iter X.env x = pure x) AutoP.a2._auto_1) :
  PE X (.DictComp kx vx [⟨tg,iter,ifs,0⟩] scope pos) (fun σ H Q => zo3 xs.length wi g tf tk tv (fun ys H' => ∀ p,H' p = none -> Q (.ref p) (upd H' p (.dK ys))) σ H) := by
 intro pins s σ H Q I h
 rw [arm_eval_DictComp]
 refine wpAny_comprehension_free (use := none) rfl hs S.clos S.kind (fun y hy hl => (S.lo hy hl).1) ?_
 refine thn (hi pins s σ H _ I h) fun xv s1 h1 => thn h1 fun itv s2 h2 => ?_
 obtain ⟨it,fp,tn,J,H2,rfl,I2,T,st2,f2,W,⟨m0,w0⟩,turn⟩ := h2
 refine zju (RR := fun acc C => compPost (model X.prog X.w) X.A X.xe none (EP X pins σ Q) acc C) hc hx S hg hf hk he I2 T st2 f2 w0 turn ?_
 intro D C s' ys H' m' I' nD hn fC fin
 exact ⟨m',hn,fun h' k => ⟨.ref D,_,zd3 I' fC k,rfl,fin D nD⟩⟩
end
end L2
namespace PySem
open Sem (wp)
end PySem
set_option autoImplicit false
namespace L2
open PySem PySem.Spec PyProof.Rows
section
variable {g : TG} {tf : TT} {tk tv : TE} {fin : List (Key × V) -> Hp -> Prop} {n : Nat} {σ : St} {H : Hp}
theorem zoV {J : It} {k : Nat} (Pv : Nat -> List (Key × V) -> Hp -> Prop) (hk : k <= 1000000) (h0 : Pv 0 [] H) (hz : ∀ i ys H,Pv i ys H -> ys.length <= i)
  (hgo : ∀ i ys H,i < k -> Pv i ys H -> J.go i H /\ ∀ x H',J.yld i H x H' -> g x (σ ++ List.replicate n none) H' fun σ2 H2 => tf σ2 H2 fun b H3 => if b = true then tk σ2 H3 (fun kv H4 => tv σ2 H4 fun y H5 => ∃ q,kv = kV q /\ Pv (i + 1) (zdP ys q y) H5) else Pv (i + 1) ys H3)
  (hst : ∀ ys H,Pv k ys H -> J.stop k H /\ fin ys H) :
  ∃ W : Nat -> Nat -> List (Key × V) -> Hp -> Prop,(∃ m,W 0 m [] H) /\ ∀ i m ys H,W i m ys H -> ys.length <= sizeLine /\ ((J.stop i H /\ fin ys H) ∨ (J.go i H /\ ∃ (Y : Key -> V -> Hp -> Prop) (Z : Hp -> Prop),(∀ k y H4,Y k y H4 -> ys.length < sizeLine /\ ∃ m',m' < m /\ W (i + 1) m' (zdP ys k y) H4) ∧
   (∀ H3,Z H3 -> ∃ m',m' < m /\ W (i + 1) m' ys H3) /\ ∀ x H',J.yld i H x H' -> g x (σ ++ List.replicate n none) H' fun σ2 H2 => tf σ2 H2 fun b H3 => if b = true then tk σ2 H3 (fun kv H4 => tv σ2 H4 fun y H5 => ∃ k,kv = kV k /\ Y k y H5) else Z H3)) := by
 have hl : sizeLine = 16777216 := sizeLine_eq
 refine ⟨fun i m ys H => m = k - i /\ i <= k /\ Pv i ys H,⟨k,by simp,Nat.zero_le _,h0⟩,?_⟩
 rintro i m ys H ⟨rfl,hi,p⟩
 have z := hz i ys H p
 refine ⟨by omega,?_⟩
 by_cases hlt : i < k
 ·obtain ⟨g1,g2⟩ := hgo i ys H hlt p
  exact .inr ⟨g1,fun q y H4 => Pv (i + 1) (zdP ys q y) H4,fun H3 => Pv (i + 1) ys H3,fun q y H4 w => ⟨by omega,k - (i + 1),by omega,rfl,hlt,w⟩,fun H3 q => ⟨k - (i + 1),by omega,rfl,hlt,q⟩,g2⟩
 ·have e : i = k := by omega
  subst e
  exact .inl (hst ys H p)
end
end L2
namespace MD
open PySem PySem.Spec PyProof.Rows L2
section
variable {K : PySem.W.Frag} {cl : Str -> Addr} {ex : XD} {gt : GV} {ta : TV} {fk fv : EV} {fr : AV}
def zeV (g : GV) (c : TV) (ek ev : EV) (ρ : En) : List D -> List (L2.Key × D) -> Sto -> Res (List (L2.Key × D))
 | [],acc,m => .ok acc m
 | d :: r,acc,m => (g d ρ m).bind fun ρ1 m1 => (c ρ1 m1).bind fun b m2 => if b = true then (ek ρ1 m2).bind fun k m3 => (ev ρ1 m3).bind fun x m4 => match zie k with
  | some q => zeV g c ek ev ρ r (zg5 acc q x) m4
  | none => .bad else zeV g c ek ev ρ r acc m2
def znw (n : Nat) (it : AV) (g : GV) (c : TV) (ek ev : EV) : EV := fun ρ m => (it ρ m).bind fun ds m1 => if ds.length <= 1000000 then (zeV g c ek ev (ρ ++ List.replicate n none) ds [] m1).bind fun kvs m2 => .ok (.ob m2.length) (m2 ++ [.dct kvs]) else .bad
theorem zj3 : ∀ (kvs : List (L2.Key × D)) (k : L2.Key) (d : D),(zg5 kvs k d).length <= kvs.length + 1
 | [],k,d => by simp [zg5]
 | p :: r,k,d => by
  unfold zg5
  split
  ·simp
  ·have := zj3 r k d
   simp only [List.length_cons]
   omega
theorem zlF {n : Nat} {fin : List (L2.Key × V) -> Hp -> Prop} {σ : L2.St} {H : Hp} (h : ∃ α ρ m,Wd K cl α m H /\ RepE K α H ρ σ /\ PQ K cl ex ((fr ρ m).bind fun ds m1 => if ds.length <= 1000000 then zeV gt ta fk fv (ρ ++ List.replicate n none) ds [] m1 else .bad) α H fun ds α' _ H' => ∀ vs,RepKV K α' H' ds vs -> fin vs H') :
  zo3 n (tDI K cl ex fr) (tDG K cl ex gt) (tDT K cl ex ta) (tD K cl ex fk) (tD K cl ex fv) fin σ H := by
 obtain ⟨α,ρ,m,W,hr,h⟩ := h
 refine ⟨α,ρ,m,W,hr,PQ.mono (Ext.refl W) h.bind fun ds α1 m1 H1 E1 W1 q J hJ => ?_⟩
 obtain ⟨hk,q⟩ := PQ.if q
 have hr1 := hr.mono W E1
 refine zoV (k := ds.length) (fun i ys H2 => ∃ α2 m2 done,Ext α1 H1 α2 H2 /\ Wd K cl α2 m2 H2 /\ RepKV K α2 H2 done ys /\ done.length <= i /\ PQ K cl ex (zeV gt ta fk fv (ρ ++ List.replicate n none) (ds.drop i) done m2) α2 H2 fun ds α' _ H' => ∀ vs,RepKV K α' H' ds vs -> fin vs H') hk ?_ ?_ ?_ ?_
 ·exact ⟨α1,m1,[],Ext.refl W1,W1,rfl,Nat.le_refl _,q⟩
 ·rintro i ys H2 ⟨_,_,done,_,_,r,l,_⟩
  rw [<- r.length]
  exact l
 ·rintro i ys H2 hi ⟨α2,m2,done,E2,W2,r2,l2,q2⟩
  have hd : ds[i]? = some ds[i] := by simp [hi]
  obtain ⟨g1,g2⟩ := (hJ i α2 m2 H2 E2 W2).1 _ hd
  refine ⟨g1,fun x H3 y => ?_⟩
  obtain ⟨sm,rx⟩ := g2 x H3 y
  have Es := Ext.of_same W2 sm
  have W3 := W2.same sm
  rw [List.drop_eq_getElem_cons hi,zeV] at q2
  have E23 := E2.trans Es
  refine ⟨α2,ρ ++ List.replicate n none,m2,ds[i],W3,(hr1.mono W1 E23).more n,rx,PQ.mono Es q2.bind fun ρ4 α4 m4 H4 E4 W4 q4 σ4 hr4 => ?_⟩
  refine tDT.use W4 hr4 q4 fun α5 m5 H5 b E5 W5 hr5 q5 => ?_
  have E45 := E4.trans E5
  cases b with
  | false => exact ⟨α5,m5,done,E23.trans E45,W5,(r2.mono W2 Es).mono W3 E45,Nat.le_succ_of_le l2,q5⟩
  | true =>
   refine tD.use W5 hr5 q5 fun α6 m6 H6 d v E6 W6 hr6 rv q6 => ?_
   refine tD.use W6 hr6 q6 fun α7 m7 H7 d2 v2 E7 W7 hr7 rv2 q7 => ?_
   cases ek : zie d with
   | none => rw [ek] at q7; exact q7.elim
   | some q =>
    rw [ek] at q7
    refine ⟨q,zid ek rv,α7,m7,zg5 done q d2,E23.trans (E45.trans (E6.trans E7)),W7,RepKV.put rv2 (((((r2.mono W2 Es).mono W3 E45).mono W5 E6)).mono W6 E7),?_,q7⟩
    have := zj3 done q d2
    omega
 ·rintro ys H2 ⟨α2,m2,done,E2,W2,r2,l2,q2⟩
  rw [List.drop_of_length_le (Nat.le_refl _),zeV] at q2
  exact ⟨(hJ ds.length α2 m2 H2 E2 W2).2 rfl,PQ.ok W2 q2 ys r2⟩
end
section
variable {X : Cx} {N0 : List Str} {cl : Str -> Addr} {ex : XD} {kx vx tg it : Expr} {ifs : List Expr} {fk fv : EV} {ta : TV} {fr : AV} {pos : Pos} {gt : GV} {scope : Scope} {xs : List Str} {clo : List (Str × Addr)}
theorem zog (hc : X.calm = true) (hx : X.xe = fun _ _ => False) (S : CompOk X N0 scope xs clo) (hi : QI X cl ex tg it fr)
  (hg : ∀ C s H fp,QG (X.comp N0 scope xs clo C s H fp) cl ex tg gt) (hf : ∀ C s H fp,PIf (X.comp N0 scope xs clo C s H fp) ifs (tDT X.K cl ex ta)) (hk : ∀ C s H fp,QE (X.comp N0 scope xs clo C s H fp) cl ex kx fk) (he : ∀ C s H fp,QE (X.comp N0 scope xs clo C s H fp) cl ex vx fv)
  (hs : autoParam (∀ x,foldedSetIterable it X.env x = pure x) AutoP.a2._auto_1) : QE X cl ex (.DictComp kx vx [⟨tg,it,ifs,0⟩] scope pos) (znw xs.length fr gt ta fk fv) :=
 ⟨PE.weak (zos (g := tDG X.K cl ex gt) (tf := tDT X.K cl ex ta) (tk := tD X.K cl ex fk) (tv := tD X.K cl ex fv) hc hx S hi.out (fun C s H fp => (hg C s H fp).out) hf (fun C s H fp => (hk C s H fp).out) (fun C s H fp => (he C s H fp).out) hs) fun σ H Q hh => ex3 hh fun α ρ m W hr h => zlF ⟨α,ρ,m,W,hr,PQ.mono (Ext.refl W) (show PQ X.K cl ex (((fr ρ m).bind fun ds m1 => if ds.length <= 1000000 then zeV gt ta fk fv (ρ ++ List.replicate xs.length none) ds [] m1 else .bad).bind fun kvs m2 => .ok (.ob m2.length) (m2 ++ [.dct kvs])) α H fun d α' _ H' => ∀ v,Rep X.K α' H' d v -> Q v H' from by
   rw [Res.bind_assoc]
   refine (congrArg (fun z => PQ X.K cl ex ((fr ρ m).bind z) α H _) ?_).mpr h
   funext ds m1
   split <;> rfl).bind fun ds α1 m1 H1 E1 W1 q vs rv p hp => by
  obtain ⟨_,_,q2,r⟩ := zmG W1 hp rv q
  exact q2 _ r⟩⟩
end
section
variable {K : PySem.W.Frag} {cl : Str -> Addr} {ex : XD}
def zlg (ns : List Int) : List D := ns.map D.int
theorem zgl {α : List Addr} {H : Hp} : ∀ (ns : List Int),RepL K α H (zlg ns) (ns.map V.int)
 | [] => by rw [zlg,List.map_nil,RepL]; rfl
 | n :: ns => by
  rw [zlg,List.map_cons,RepL]
  exact ⟨.int n,ns.map V.int,rfl,zeP,zgl ns⟩
def sortF (ds : List D) (m : Sto) : Res D := match ds with
 | [x] => match (lOf x m).bind zd5 with
  | some ns => if ns.length < 64 then .ok (.lst (zlg (zdk ns))) m else .bad
  | none => .bad
 | _ => .bad
def dOf (d : D) (m : Sto) : Option (List (L2.Key × D)) := match d with
 | .ob k => match m[k]? with
  | some (.dct kvs) => some kvs
  | _ => none
 | _ => none
theorem zjs {α : List Addr} {m : Sto} {H : Hp} {d : D} {v : V} {kvs : List (L2.Key × D)} (W : Wd K cl α m H) (e : dOf d m = some kvs) (rv : Rep K α H d v) : ∃ p ys,v = .ref p /\ H p = some (.dK ys) /\ RepKV K α H kvs ys := by
 unfold dOf at e
 split at e
 ·rw [Rep] at rv
  obtain ⟨a,ha,rfl⟩ := rv
  split at e
  ·cases e; obtain ⟨ys,h1,r1⟩ := W.dct ha ‹_›; exact ⟨a,ys,rfl,h1,r1⟩
  ·cases e
 ·cases e
def zdt : List (L2.Key × D) -> Option (List Int)
 | [] => some []
 | (.inl i,_) :: r => (zdt r).map (i :: ·)
 | _ => none
theorem zfI : ∀ {kvs : List (L2.Key × D)} {ns : List Int},zdt kvs = some ns -> kvs.map (·.1) = ns.map Sum.inl
 | [],ns,e => by cases e; rfl
 | (.inl i,d) :: r,ns,e => by
  rw [zdt] at e
  obtain ⟨ms,e2,rfl⟩ := Option.map_eq_some_iff.mp e
  rw [List.map_cons,List.map_cons,zfI e2]
 | (.inr i,d) :: r,ns,e => by simp [zdt] at e
def zfi (ds : List D) (m : Sto) : Res D := match ds with
 | [x] => match (dOf x m).bind zdt with
  | some ns => if ns.length < 64 then .ok (.lst (zlg (zdk ns))) m else .bad
  | none => .bad
 | _ => .bad
theorem zoQ : FnD K cl ex zjZ zfi := fun α m H x vx Q W rx h => by
 unfold zfi at h
 split at h
 ·split at h
  ·rename_i ns e
   obtain ⟨h64,h⟩ := PQ.if h
   obtain ⟨v,rfl,rv⟩ := rx.one_of
   obtain ⟨xs,e1,e2⟩ := Option.bind_eq_some_iff.mp e
   obtain ⟨p,ys,rfl,h1,r1⟩ := zjs W e1 rv
   exact ⟨p,ys,ns,rfl,.inl h1,by rw [<- RepKV.keysEq r1]; exact zfI e2,h64,fun l hl => PQ.okS W (Same.new hl) h _ (zb4 W hl (zgl _))⟩
  ·exact h.elim
 ·exact h.elim
def zm1 (kvs : List (L2.Key × D)) : List D := kvs.map fun p => kD p.1
end
def zgk (a b : List (L2.Key × D)) : Bool := decide (a.length = b.length) && a.all fun p => match zd8 b p.1 with
 | some y => zcE p.2 && zcE y && PyData.eqv (py p.2) (py y)
 | none => false
section
variable {X : Cx} {K : PySem.W.Frag} {cl : Str -> Addr} {ex : XD} {pins : List (Addr × Obj)} {σ : L2.St} {H : Hp} {s : Shared} {α : List Addr}
theorem KV.at_some {kvs : List (L2.Key × V)} {vs : List (L2.Key × Value)} (r : KV kvs vs) {k : L2.Key} {v : V} (e : ziO kvs k = some v) : ∃ u,valueAt vs k = some u /\ RelV v u := by
 have h := r.val k
 rw [e] at h
 cases hv : valueAt vs k with
 | none => rw [hv] at h; exact h.elim
 | some u => rw [hv] at h; exact ⟨u,rfl,h⟩
theorem zng (I : Inv X pins σ H s) {A : Around} (hu : A.units + 64 < cLine) {db : List (L2.Key × D)} {kb : List (L2.Key × V)} {vb : List (L2.Key × Value)} (rb : RepKV X.K α H db kb) (rvb : KV kb vb) :
  ∀ {da : List (L2.Key × D)} {ka : List (L2.Key × V)} {va : List (L2.Key × Value)},RepKV X.K α H da ka -> KV ka va -> (da.all fun p => match zd8 db p.1 with
   | some y => zcE p.2 && zcE y && PyData.eqv (py p.2) (py y)
   | none => false) = true -> PySem.W.KeqHits A s vb va true
 | [],_,_,h,rv,_ => by
  cases (show _ = [] from h)
  cases rv
  exact .nil
 | p :: r,_,_,⟨v,r',e,h1,h2⟩,rv,ha => by
  subst e
  cases rv with
  | cons a b =>
   rename_i q us
   obtain ⟨q1,q2⟩ := q
   obtain ⟨a1,a2⟩ := a
   have a1 : p.1 = q1 := a1
   subst a1
   rw [List.all_cons,Bool.and_eq_true] at ha
   obtain ⟨ha1,ha2⟩ := ha
   cases hy : zd8 db p.1 with
   | none => rw [hy] at ha1; cases ha1
   | some y =>
    rw [hy] at ha1
    simp only [Bool.and_eq_true] at ha1
    obtain ⟨⟨d1,d2⟩,eq⟩ := ha1
    obtain ⟨v',e1,r1⟩ := rb.val.1 y hy
    obtain ⟨u',e2,r2⟩ := KV.at_some rvb e1
    rw [zcE,Bool.and_eq_true] at d1 d2
    obtain ⟨as,g1⟩ := zbs I d1.1 h1 a2
    obtain ⟨bs,g2⟩ := zbs I d2.1 r1 r2
    have he := SeqAt.eqAt_reads _ _ A s _ _ _ _ g1 g2 (SeqAt.canLay_of_shaped d1.2) (SeqAt.canLay_of_shaped d2.2) (SeqAt.room_of_shaped d1.2 hu)
    rw [eq] at he
    exact PySem.W.KeqHits.hit e2 he (zng I hu rb rvb h2 b ha2)
def rSameK (K : PySem.W.Frag) (f : Bool -> Bool) : R2 := fun vx vy H Q => ∃ (a b : Addr) (ka kb : List (L2.Key × V)) (da db : List (L2.Key × D)) (α : List Addr),vx = .ref a /\ vy = .ref b /\ Rd H a (.dK ka) /\ Rd H b (.dK kb) /\ RepKV K α H da ka /\ RepKV K α H db kb /\ zgk da db = true /\ Q (.bl (f true)) H
def zhL (x y : D) (m : Sto) : Bool := match dOf x m,dOf y m with
 | some a,some b => zgk a b
 | _,_ => false
theorem zkQ {m : Sto} {x y : D} {vx vy : V} {f : Bool -> Bool} {Q : VK} (W : Wd K cl α m H) (rx : Rep K α H x vx) (ry : Rep K α H y vy) (e : zhL x y m = true) (q : Q (.bl (f true)) H) : rSameK K f vx vy H Q := by
 unfold zhL at e
 split at e
 ·rename_i a b e1 e2
  obtain ⟨p,ka,rfl,h1,r1⟩ := zjs W e1 rx
  obtain ⟨p',kb,rfl,h2,r2⟩ := zjs W e2 ry
  exact ⟨p,p',ka,kb,a,b,α,rfl,rfl,.inl h1,.inl h2,r1,r2,e,q⟩
 ·cases e
end
def zfL : SV := by walk_at "#,ysyt61u`vy5!5!uM;|G6uX%|HRucu5xp575u_5"
def zbn : List D -> Sto -> Res D := zbf 3 zfL
def zeC : SV := by walk_at "#Owpzv!OwpyKhwpyDyg|I"
def zby : List D -> Sto -> Res D := zbf 2 zeC
def zdW : SV := by walk_at "#;v3v}^^vlF3N"
def zaF : List D -> Sto -> Res D := zbf 1 zdW
def zdd : SV := by walk_at "#;yuKv)!ByvKwCv}hKv)!gv,x|1$"
def za9 : List D -> Sto -> Res D := zbf 2 zdd
def zcO : SV := by walk_at "#;ysyt6uyuMvy7!7h"
def zaQ : List D -> Sto -> Res D := zbf 2 zcO
def zcx : SV := by walk_at "#qv]!hmwhyaC2y`JvlB<],gywyx1f=*m|JJvlB2v^wqvDCJuyWvA7W$"
def zaS : List D -> Sto -> Res D := zbf 5 zcx
def zez : SV := by walk_at "#OwpyKwBu5v]v}h!%yy.v}vDwpyD%|K.uyv~v,x|1<"
def za3 : List D -> Sto -> Res D := zbf 2 zez
def zdX : SV := by walk_at "#,gywyx1Puc;yuKv]5hKxuv3!57"
def zbp : List D -> Sto -> Res D := zbf 4 zdX
def zeA : SV := by walk_at "#9|LwqvDx-v{x^3uBv{:uYqwC7hqv]v}hvN|M]v'%y]v~v,x|1$CJ%v^wqvB8ucpuLvYgyzy{w!vNy|]qyq5uyu,y}C]uLvFwC7hvYgy~z!1CJ%v^wqvBB$Ow<gx8x9w!vNz#],gz$z%1fCvE/vG%z&JvlBCvzu:vNwD]Oxsuy5u7Ow<gx8x9w!u,v-Cvz"
def zaP : List D -> Sto -> Res D := zbf 7 zeA
def zfN : SV := by walk_at "#;v}"
def zbo : List D -> Sto -> Res D := zbf 1 zfN
def zeB : SV := by walk_at "#m|N.uy$"
def zaX : List D -> Sto -> Res D := zbf 1 zeB
end MD
set_option autoImplicit false
namespace L2
open PySem PySem.Spec PyProof.Rows
end L2
namespace MD
open PySem PySem.Spec PyProof.Rows L2
end MD
set_option autoImplicit false
namespace MD
open PySem PySem.Spec PyProof.Rows L2
open PySem.SeqAt
section
variable {prog : Program} {w : World} {A : Around} {E : Value -> Shared -> Prop} {s : Shared} {Q : Value -> Shared -> Prop}
open AutoSeq1 (wpAny_loadPart')
theorem zre {l b : Addr} {u1 u2 v1 v2 : Value} (hl : s.heap.IsTuple l #[u1,u2]) (hb : s.heap.IsTuple b #[v1,v2]) (hu : A.units < cLine)
  (h1 : ∀ (E : Value -> Shared -> Prop) (Q : Bool -> Shared -> Prop),Q true s -> wpAny (model prog w) A.in1 (eqBool u1 v1) Q E s)
  (h2 : ∀ (E : Value -> Shared -> Prop) (Q : Bool -> Shared -> Prop),Q true s -> wpAny (model prog w) A.in1 (eqBool u2 v2) Q E s) (h : Q (.bool true) s) :
  wpAny (model prog w) A (compareOp .Eq (.ref l) (.ref b)) Q E s := by
 obtain ⟨⟨cls,dd,data,sl⟩,ho,hc,n,hd⟩ := id hl
 obtain ⟨⟨cls2,dd2,data2,sl2⟩,ho2,hc2,n2,hd2⟩ := id hb
 simp only at hc hd hc2 hd2
 subst hc hd hc2 hd2
 refine wpAny_richCompare_same_room (op := .Eq) ⟨_,ho,rfl⟩ ⟨_,ho2,rfl⟩ F.slot_tuple_eq (wpAny_call_entry F.slot_tuple_eq ⟨_,ho,rfl⟩ F.entry_tuple_eq ?_ (F.args_tuple_eq_2 _ _)) hu
 obtain ⟨hp,g,d,tk,os⟩ := s
 have f2 := AutoSeq1.sub_tuple_tuple
 show wpAny _ _ (Builtin.«tuple.__eq__» _) _ _ _
 wp_walk using wpAny_loadPart' ho,wpAny_loadPart' ho2,h1 _ _,h2 _ _
 exact ⟨_,rfl,(fun x => nomatch x),h⟩
theorem zoR {a b : Addr} {Q : Bool -> Shared -> Prop} (h : ∀ (Q' : Value -> Shared -> Prop),Q' (.bool true) s -> wpAny (model prog w) A (richCompare .Eq (.ref a) (.ref b)) Q' E s) (q : Q true s) : wpAny (model prog w) A (eqBool (.ref a) (.ref b)) Q E s := by
 unfold eqBool
 refine wpAny_holding ?_
 refine wpAny_ite_split (fun _ => ?_) (fun _ => ?_)
 ·exact wpAny_bind (wpAny_rule (wpAny_pure q))
 ·exact wpAny_bind (h _ (wpAny_truthy_bool q))
end
section
variable {X : Cx} {K : PySem.W.Frag} {cl : Str -> Addr} {ex : XD}
def plV : V -> Bool
 | .non => true
 | .int _ => true
 | _ => false
def zpa (K : PySem.W.Frag) : R2 := fun vx vy H Q => ∃ (p q : Addr) (x : V) (a b : Addr) (ka kb : List (L2.Key × V)) (da db : List (L2.Key × D)) (α : List Addr),vx = .ref p /\ vy = .ref q /\ SqT K H p [x,.ref a] /\ SqT K H q [x,.ref b] /\ plV x = true /\ Rd H a (.dK ka) /\ Rd H b (.dK kb) /\ RepKV K α H da ka /\ RepKV K α H db kb /\ zgk da db = true /\ Q (.bl true) H
theorem zhv {x y : V} {its : List Value} (r : Vals [x,y] its) : ∃ u v,its = [u,v] /\ RelV x u /\ RelV y v := by
 cases r with
 | cons h r => cases r with
  | cons h' r => cases r; exact ⟨_,_,rfl,h,h'⟩
theorem op_eqT (hu : X.A.units + 66 < cLine) : OpR X (compareOp .Eq) (zpa X.K) := by
 intro pins s σ H vx vy v u Q I rx ry h
 obtain ⟨p,q,x,a,b,ka,kb,da,db,α,rfl,rfl,t1,t2,px,h1,h2,r1,r2,sm,hq⟩ := h
 cases rx
 cases ry
 obtain ⟨i1,v1,w1,_⟩ := I.tuple t1
 obtain ⟨i2,v2,w2,_⟩ := I.tuple t2
 obtain ⟨u1,u2,rfl,e1,e2⟩ := zhv v1
 obtain ⟨y1,y2,rfl,f1,f2⟩ := zhv v2
 cases e2
 cases f2
 obtain ⟨za,ha,va,rva,dda⟩ := zgf I.hok h1
 obtain ⟨zb,hb,vb,rvb,ddb⟩ := zgf I.hok h2
 rw [zgk,Bool.and_eq_true,decide_eq_true_eq] at sm
 have el : va.length = vb.length := by rw [<- rva.length,<- rvb.length,<- r1.length,<- r2.length]; exact sm.1
 have hu1 : X.A.in1.in1.units + 64 < cLine := by have : X.A.in1.in1.units = X.A.units + 2 := rfl; omega
 have hu2 : X.A.in1.units < cLine := by have : X.A.in1.units = X.A.units + 1 := rfl; omega
 refine zre w1 w2 (by omega) (fun E Q hq => ?_) (fun E Q hq => zoR (fun Q' hq' => ?_) hq) ⟨.bl true,H,I,rfl,hq⟩
 ·cases x with
  | non => cases e1; cases f1; exact EqAt.same _ _ _ _ _ hq
  | int i =>
   obtain ⟨t,rfl⟩ := e1
   obtain ⟨t',rfl⟩ := f1
   exact EqAt.int_int i t i t' _ _ _ _ (by simpa using hq)
  | _ => cases px
 ·refine PySem.W.keq_eq (r := true) ha hb dda ddb hu2 (fun _ => zng I hu1 r2 rvb r1 rva sm.2) ?_
  rw [el]
  simpa using hq'
theorem hu66 {A : Around} {k : Nat} (hr : Room k A) : A.units + 66 < cLine := by have := hr.un; omega
def plD (a b : D) : Bool := match a,b with
 | .non,.non => true
 | .int i,.int j => decide (i = j)
 | _,_ => false
theorem zql {α : List Addr} {H : Hp} {a b : D} {v u : V} (h : plD a b = true) (ra : Rep K α H a v) (rb : Rep K α H b u) : v = u /\ plV v = true := by
 unfold plD at h
 split at h
 ·rw [Rep] at ra rb
  subst ra rb
  exact ⟨rfl,rfl⟩
 ·rw [Rep] at ra rb
  subst ra rb
  exact ⟨by rw [of_decide_eq_true h],rfl⟩
 ·cases h
def zlR (x y : D) (m : Sto) : Bool := match x,y with
 | .tup [a,c],.tup [b,d] => plD a b && zhL c d m
 | _,_ => false
def eqT (x y : D) (m : Sto) : Res D := if zlR x y m = true then .ok (.bl true) m else .bad
theorem od_eqT : OpD K cl ex (zpa K) eqT := fun α m H x y vx vy Q W rx ry h => by
 obtain ⟨e,hq⟩ := PQ.if h
 clear h
 unfold zlR at e
 split at e
 ·rename_i a c b d
  rw [Bool.and_eq_true] at e
  obtain ⟨e1,e2⟩ := e
  rw [Rep] at rx ry
  obtain ⟨p,xs,rfl,h1,r1⟩ := rx
  obtain ⟨q,ys,rfl,h2,r2⟩ := ry
  rw [RepL] at r1 r2
  obtain ⟨v1,z1,rfl,a1,a2⟩ := r1
  obtain ⟨u1,w1,rfl,b1,b2⟩ := r2
  rw [RepL] at a2 b2
  obtain ⟨v2,z2,rfl,a3,a4⟩ := a2
  obtain ⟨u2,w2,rfl,b3,b4⟩ := b2
  rw [RepL] at a4 b4
  subst a4 b4
  obtain ⟨rfl,pv⟩ := zql e1 a1 b1
  obtain ⟨a,b,ka,kb,da,db,α',rfl,rfl,g1,g2,g3,g4,g5,_⟩ := zkQ (f := id) (Q := fun _ _ => True) W a3 b3 e2 trivial
  exact ⟨p,q,v1,a,b,ka,kb,da,db,α',rfl,rfl,h1.sq,h2.sq,pv,g1,g2,g3,g4,g5,PQ.ok W hq _ zjY⟩
 ·cases e
end
def znm : SV := by walk_at "#w`utvtwf.uquD3u87%uU2|ORCPfwPwgwX"
def zgw : List D -> Sto -> Res D := zbf 4 znm
def zde : SV := by walk_at "#9|PRvw$x-v{6uBx^3uB*uYw`J!B2yy4EJ!8uD69x0=:vtwiuvyJuD/9vouXvCBbGw_wQvJwA$vJwA$vJx6<=Avmx1u:2uUwk4uZ2x/v6wlvHP4uZ2x/ub$wY"
def zbb : List D -> Sto -> Res D := zbf 8 zde
def zgv : SV := by walk_at "#w`v~z'z(1$v~z)z*1uD3;yvKw8gv-x}1vD7K|Q%uUv~z'z(1$v~z)z*1<5"
def zbE : List D -> Sto -> Res D := zbf 4 zgv
def zno : SV := by walk_at "#9|RR=6vtvwut9|SPucOxx*:J5B2|Tx%|UC<9x{.v|8=/9x~PvEAySx`2x'Pzuvxu%4yl<=G,wBvvw]Bh%x'Pv;wcwoouOz+wfJ5N<=u49x:CHu4x_=u%u.%vMw#u9d,uaTd%xfPvAv|88$v|u9du.w$u%vuvKvLw%wnHdus=uZuLwmx;ubHuZvJx]wD<uw9x~PvEv_vG%vMvhHv_uOvMw#9x:CwovhHv_=u+,w$u+vuvKHu+w%bu+u.Tu+w$u%u?vKvLw%w=bu+ujwmx;ubHu+vJx]wD<uwpvGgv-x}u:vLuOxYv-w#uwv'%z,v2v6=AyCyn"
def zkl : List D -> Sto -> Res D := zbf 15 zno
theorem sco {N P : List Str} {sc : Scope} (a : autoParam (sc.kind = .function) AutoP.a3._auto_1) (b : autoParam (sc.isCoroutine = false) AutoP.a3._auto_1) (c : autoParam (sc.isGenerator = false) AutoP.a3._auto_1) (d : autoParam (N.Nodup) AutoP.a6._auto_1) (e : autoParam (N.take P.length = P) AutoP.a3._auto_1)
  (f : autoParam (∀ x ∈ P,sc.names.lookup x = some .local ∨ sc.names.lookup x = some .cell) AutoP.a6._auto_1) (g : autoParam (∀ y ∈ sc.names,y.2 ≠ .free) AutoP.a6._auto_1) : FnScope N P sc := ⟨a,b,c,d,e,f,g⟩
theorem qxi {X : Cx} {cl : Str -> Addr} {ex : XD} {a b : Expr} {fa fb : EV} {pos : Pos} {k : Nat} (hr : Room k X.A) (ha : QE X cl ex a fa) (hb : QE X cl ex b fb) (hs : autoParam (zjB b) AutoP.a7._auto_1) : QE X cl ex (.Subscript a b pos) (eOp ixD fa fb) :=
 qe_ix (ix_A (znf hr)) od_ix ha hb hs
theorem qfn {X : Cx} {cl : Str -> Addr} {e : Expr} {es : List Expr} {fr : AV} {p pos : Pos} {x : Str} {k n j : Nat} {g : List D -> Sto -> Res D} (h : FnX X.prog X.w X.K X.mg X.base cl x k n g) (hr : Room j X.A)
  (ha : QA X cl X0 (e :: es) fr) (hn : autoParam (n = (e :: es).length) AutoP.a3._auto_1) (hk : autoParam (k <= j) AutoP.a1._auto_1) (hg : autoParam (Gl X x) AutoP.a3._auto_1) (hlen : autoParam (∀ ρ m ds m1,fr ρ m = .ok ds m1 -> ds.length = (e :: es).length) AutoP.a8._auto_1) (hdb : autoParam ((x == ("__debug__" : Str)) = false) AutoP.a1._auto_1) (he : autoParam (starEach (e :: es) X.env = (false,eval e X.env) :: starEach es X.env) AutoP.a3._auto_1) (hpl : autoParam ((backTo pos (starEach es X.env)).any (·.1) = false) AutoP.a3._auto_1) :
  QE X cl X0 (.Call (.Name x p) (e :: es) [] pos) (eFn g fr) := qe_fn h hn (hr.mono hk) hg ha hlen hdb he hpl
theorem mkx (P : Program) (w : World) (base : Heap) (cl : Str -> Addr) (k : Nat) {K : PySem.W.Frag} {mg : Str -> Option Value} {x qual : Str} {st : Stmt} {f : Addr} {fd : FuncData} {N ps : List Str} {body : SV} (F : Fun K x qual st f fd) (b : Binds K fd ps []) (m : mg x = some (.ref f)) (S : FnScope N ps (zai st))
  (h : ∀ (cdv : Value) (A : Around) (outer : List PySem.Env) (s : Shared) (H : Hp) (E : XK),Room k (A.deeper (envOfC qual (zai st) s.heap.objs.size f cdv)) -> QSs (zlu CX0 P w K mg base N qual (zai st) f cdv A outer s H E).nox cl X0 (zbA st) body) : FnX P w K mg base cl x (k + 1) ps.length (zbf N.length body) := FnX.mk' F b m S rfl h
theorem mkm (P : Program) (w : World) (base : Heap) (cl : Str -> Addr) (k : Nat) {K : PySem.W.Frag} {mg : Str -> Option Value} {c x qual : Str} {st : Stmt} {f : Addr} {fd : FuncData} {N ps : List Str} {body : SV} (F : Fun K x qual st f fd) (b : Binds K fd ps []) (m : Meth K (cl c) x f) (S : FnScope N ps (zai st))
  (h : ∀ (cdv : Value) (A : Around) (outer : List PySem.Env) (s : Shared) (H : Hp) (E : XK),Room k (A.deeper (envOfC qual (zai st) s.heap.objs.size f cdv)) -> QSs (zlu CX0 P w K mg base N qual (zai st) f cdv A outer s H E).nox cl X0 (zbA st) body) : FnM P w K mg base cl c x (k + 1) ps.length (zbf N.length body) := FnM.mk' F b m S rfl h
theorem _root_.L2.Fun.bindA {K : PySem.W.Frag} {x qual : Str} {st : Stmt} {f : Addr} {fd : FuncData} {ps : List Str} (F : Fun K x qual st f fd)
  (h : ∀ (kV doc pm : Value) (an : Option Addr) (cdv ct : Value) (us : List Value),us.length = ps.length -> bindArgs (PySem.W.fnOf x qual (zek st) (zbA st) (zai st) .none kV doc pm an cdv ct) ⟨us,[]⟩ = pure (ps.zip us) := by intro _ _ _ _ _ _ us hl; first | (obtain rfl := us0 hl; rfl) | (obtain ⟨_,rfl⟩ := us1 hl; rfl) | (obtain ⟨_,_,rfl⟩ := us2 hl; rfl) | (obtain ⟨_,_,_,rfl⟩ := us3 hl; rfl) | (obtain ⟨_,_,_,_,rfl⟩ := us4 hl; rfl) | (obtain ⟨_,_,_,_,_,rfl⟩ := us5 hl; rfl) | (obtain ⟨_,_,_,_,_,_,rfl⟩ := us6 hl; rfl)) : Binds K fd ps [] := F.binds h
end MD
namespace Mth
end Mth
set_option autoImplicit false
namespace MD
open PySem PySem.Spec PyProof.Rows L2
theorem zkb {a : Addr} {o : Obj} : ∀ {K : PySem.W.Frag},K.lookup a = some o -> (a,o) ∈ K
 | [],h => nomatch h
 | (b,u) :: K,h => by
  rw [List.lookup_cons] at h
  cases hb : a == b with
  | true =>
   rw [hb] at h
   cases h
   rw [eq_of_beq hb]
   exact List.mem_cons_self
  | false =>
   rw [hb] at h
   exact List.mem_cons_of_mem _ (zkb h)
theorem Kof_in (n : Nat) (h : Heap) : (Kof n h).In h := fun a o e => by
 obtain ⟨b,_,hb⟩ := List.mem_filterMap.mp (zkb e)
 obtain ⟨u,hu,e2⟩ := Option.map_eq_some_iff.mp hb
 cases e2
 exact hu
theorem fun_of {K : PySem.W.Frag} {f : Addr} {x q : Str} {st : Stmt} (h : fnV K f = (some (x,q,zek st,zbA st,zai st),true)) : ∃ fd,Fun K x q st f fd := by
 unfold fnV at h
 split at h
 ·rename_i oc od x' q' ps b sc gl dv kV doc pm an cd ct bl sl hl
  simp only [Prod.mk.injEq,Option.some.injEq,Bool.and_eq_true] at h
  obtain ⟨⟨rfl,rfl,rfl,rfl,rfl⟩,⟨⟨h1,h2⟩,h3⟩,h4⟩ := h
  have e1 := Nat.eq_of_beq_eq_true h1
  have e2 := Nat.eq_of_beq_eq_true h2
  subst e1 e2
  have e3 : dv = .none := by
   unfold zlz at h3
   split at h3
   ·rfl
   ·cases h3
  subst e3
  refine ⟨_,⟨⟨oc,od,kV,doc,pm,an,cd,ct,sl,rfl,hl,h4⟩,?_⟩⟩
  unfold PySem.W.keepIn
  dsimp only
  rw [hl]
 ·cases h
theorem zqq {τ υ : Type} {f : τ -> υ} {l : List τ} {e : List υ} (h : l.map f = e) (i : Nat) {x : τ} {v : υ} (hx : l[i]? = some x) (hv : e[i]? = some v) : f x = v := by
 rw [<- h,List.getElem?_map,hx] at hv
 exact Option.some.inj hv
theorem both {α β γ : Type} {r : Option α} {f : α -> β} {g : α -> γ} {a : β} {b : γ} (h1 : r.map f = some a) (h2 : r.map g = some b) : r.map (fun s => (f s,g s)) = some (a,b) := by
 cases r with
 | none => cases h1
 | some s =>
  simp only [Option.map_some,Option.some.injEq] at h1 h2 ⊢
  rw [h1,h2]
theorem zm5 {α τ υ : Type} {r : Option α} {g : α -> τ -> υ} {l1 l2 : List τ} {e1 e2 : List υ} (h1 : r.map (fun s => l1.map (g s)) = some e1) (h2 : r.map (fun s => l2.map (g s)) = some e2) : r.map (fun s => (l1 ++ l2).map (g s)) = some (e1 ++ e2) := by
 cases r with
 | none => cases h1
 | some s =>
  simp only [Option.map_some,Option.some.injEq] at h1 h2 ⊢
  rw [List.map_append,h1,h2]
theorem both4 {α A B C D : Type} {r : Option α} {f1 : α -> A} {f2 : α -> B} {f3 : α -> C} {f4 : α -> D} {a : A} {b : B} {c : C} {d : D} (h1 : r.map f1 = some a) (h2 : r.map (fun s => (f2 s,f4 s)) = some (b,d)) (h3 : r.map f3 = some c) : r.map (fun s => (f1 s,f2 s,f3 s,f4 s)) = some (a,b,c,d) := by
 cases r with
 | none => cases h1
 | some s =>
  simp only [Option.map_some,Option.some.injEq,Prod.mk.injEq] at h1 h2 h3 ⊢
  exact ⟨h1,h2.1,h3,h2.2⟩
theorem parts4 {α B C D : Type} {r : Option α} {f : α -> Seen × B × C × D} {g : Seen × B × C × D} (k : Nat) (ha : r.map (fun s => (f s).1.defs.take k) = some (g.1.defs.take k)) (hb : r.map (fun s => (f s).1.defs.drop k) = some (g.1.defs.drop k)) (ho : r.map (fun s => (f s).1.ownsOk) = some g.1.ownsOk) (hn : r.map (fun s => (f s).1.names) = some g.1.names) (h1 : r.map (fun s => ((f s).1.globalsOk,(f s).1.builtinsOk,(f s).1.noLimit,(f s).1.gens)) = some (g.1.globalsOk,g.1.builtinsOk,g.1.noLimit,g.1.gens)) (hv : r.map (fun s => (f s).2.1) = some g.2.1) (h2 : r.map (fun s => (f s).2.2.1) = some g.2.2.1) (h3 : r.map (fun s => (f s).2.2.2) = some g.2.2.2) : r.map f = some g := by
 cases r with
 | none => cases h1
 | some s =>
  simp only [Option.map_some,Option.some.injEq,Prod.mk.injEq] at ha hb ho hn h1 hv h2 h3 ⊢
  have e0 : (f s).1.defs = g.1.defs := by rw [<- List.take_append_drop k (f s).1.defs,ha,hb,List.take_append_drop]
  generalize f s = x at *
  obtain ⟨⟨a1,a2,a3,a4,a5,a6,a7⟩,b,c,d⟩ := x
  obtain ⟨⟨b1,b2,b3,b4,b5,b6,b7⟩,b',c',d'⟩ := g
  simp only at e0 ho hn h1 hv h2 h3
  obtain ⟨rfl,rfl,rfl,rfl⟩ := h1
  subst e0 ho hn hv h2 h3
  rfl
theorem walk_ofY {l : PySem.W.OpenLaw} {n k nK : Nat} {q : Program} {loose : List Str} {XP : (Str -> Option Value) -> Heap -> Prop} {d : DefRec} {CX : CXT} {sp : PySem.W.Frag -> Sp} {x : Str} {α : Type} {Yf : PySem.W.Frag -> α} {E : α}
  (hn : l.most = some n) (hn2 : n <= sizeLine) (hdf : d.params.defaults = []) (hr : Room k callerA)
  (F : ∀ (K : PySem.W.Frag),Yf K = E -> ∀ (w : World) (mg : Str -> Option Value) (fa : Addr) (h : Heap),K.In h -> h.Ns mainGlobals mg -> mg d.name = some (.ref fa) →
   ∃ fd : FuncData,(∀ (s : Shared) (u : Value),BindsTo s fd ⟨[u],[]⟩ [(x,u)]) /\ ∀ base : Heap,K.In base -> base.Ns mainGlobals mg -> FnOk l.prog w K mg base CX k fa fd [x] (sp K))
  (hsp : ∀ (K : PySem.W.Frag) (H : Hp) (a : Addr) (ns : List Int),ns.length <= n -> Only H -> SqL K H a (ns.map V.int) -> sp K [.ref a] H (fun v _ => v = .bl true) fun _ _ _ => False)
  (hCX : ∀ (H : Hp) (s : Shared) (e : Value) (s' : Shared),CX [] H s (fun _ _ _ => False) e s' -> False) :
  PySem.W.WalkX q loose XP (fun s => Yf (Kof nK s.heap)) (fun _ => E) l.row.toRowW d [] (fun f vs => PySem.call f vs) := by
 intro w s₀ s₁ mg mb G y a o pm cd doc dV kV ho hd hcd hD hmg hg args vals as' L hpre hlay hrd hwl hlo
 have KX : (Kof nK s₀.heap).In s₁.heap := (Kof_in nK s₀.heap).keeps L.keeps
 exact L2.walk_ofK (YP := fun w h => (Kof nK s₀.heap).In h) (K := fun _ => Kof nK s₀.heap) hn hn2 hdf hr (fun w h Y => Y) (F (Kof nK s₀.heap) y) hsp hCX w s₀ s₁ mg mb G KX a o pm cd doc dV kV ho hd hcd hD hmg hg args vals as' hpre hlay hrd hwl hlo
section
variable {α β γ : Type}
def kThen (f : α -> Sto -> Res β) (g : β -> Sto -> Res γ) : α -> Sto -> Res γ := fun a m => (f a m).bind g
theorem then_at (f : α -> Sto -> Res β) (g : β -> Sto -> Res γ) (a : α) (m : Sto) : kThen f g a m = (f a m).bind g := rfl
theorem bind_then (r : Res α) (f : α -> Sto -> Res β) (g : β -> Sto -> Res γ) : (r.bind f).bind g = r.bind (kThen f g) := Res.bind_assoc r f g
end
section
variable (m : Sto) (ρ : En) (d : D) (f g : SV) (fa fb fc : EV) (fr : AV) (c t : TV) (h : GV)
def kSeq (g : SV) : Fl -> Sto -> Res Fl := fun fl m1 => match fl with
 | .nx ρ1 => g ρ1 m1
 | fl => .ok fl m1
theorem seq_at : zap f g ρ m = (f ρ m).bind (kSeq g) := rfl
theorem seq_nx : kSeq g (.nx ρ) m = g ρ m := rfl
theorem seq_rt : kSeq g (.rt d) m = .ok (.rt d) m := rfl
theorem nil_at : zbG ρ m = .ok (.nx ρ) m := rfl
def kRt : D -> Sto -> Res Fl := fun d m => .ok (.rt d) m
theorem ret_at : zaJ fa ρ m = (fa ρ m).bind kRt := rfl
theorem rt_at : kRt d m = .ok (.rt d) m := rfl
theorem retN_at : sRetN ρ m = .ok (.rt .non) m := rfl
def kDrop (ρ : En) : D -> Sto -> Res Fl := fun _ m => .ok (.nx ρ) m
theorem drop_at : zeO fa ρ m = (fa ρ m).bind (kDrop ρ) := rfl
theorem kdrop_at : kDrop ρ d m = .ok (.nx ρ) m := rfl
def kIf (f g : SV) (ρ : En) : Bool -> Sto -> Res Fl := fun b m => if b = true then f ρ m else g ρ m
theorem if_at : sIf c f g ρ m = (c ρ m).bind (kIf f g ρ) := rfl
theorem kif_at (b : Bool) : kIf f g ρ b m = if b = true then f ρ m else g ρ m := rfl
def kAsg (h : GV) (ρ : En) : D -> Sto -> Res Fl := fun d m1 => (h d ρ m1).bind fun ρ1 m2 => .ok (.nx ρ1) m2
def kNx : En -> Sto -> Res Fl := fun ρ m => .ok (.nx ρ) m
theorem asg_at : zaB fa h ρ m = (fa ρ m).bind (kAsg h ρ) := rfl
theorem kasg_at : kAsg h ρ d m = (h d ρ m).bind kNx := rfl
theorem nx_at : kNx ρ m = .ok (.nx ρ) m := rfl
theorem gN_at (i : Nat) : gN i d ρ m = .ok (ρ.set i (some d)) m := rfl
theorem gs_nil : zeT [] ρ m = .ok ρ m := rfl
theorem gs_cons (gs : List D -> En -> Sto -> Res En) (r : List D) : zaL h gs (d :: r) ρ m = (h d ρ m).bind (gs r) := rfl
theorem gT_at (n : Nat) (gs : List D -> En -> Sto -> Res En) (ds : List D) : gT n gs (.tup ds) ρ m = if ds.length = n then gs ds ρ m else .bad := rfl
def kPar (i j : Nat) (ρ : En) : List D -> Sto -> Res Fl := fun ds m1 => match ds with
 | [x,y] => .ok (.nx ((ρ.set i (some x)).set j (some y))) m1
 | _ => .bad
theorem par_at (i j : Nat) : sPar i j fr ρ m = (fr ρ m).bind (kPar i j ρ) := rfl
theorem kpar_at (i j : Nat) (x y : D) : kPar i j ρ [x,y] m = .ok (.nx ((ρ.set i (some x)).set j (some y))) m := rfl
def kFor (h : GV) (f : SV) (ρ : En) : List D -> Sto -> Res Fl := fun ds m1 => zfA h f ds ρ m1
theorem for_at : zhM fr h f ρ m = (fr ρ m).bind (kFor h f ρ) := rfl
theorem kfor_at (ds : List D) : kFor h f ρ ds m = zfA h f ds ρ m := rfl
theorem eC_at : eC d ρ m = .ok d m := rfl
def kOp (g : D -> D -> Sto -> Res D) (fb : EV) (ρ : En) : D -> Sto -> Res D := fun x m1 => (fb ρ m1).bind (g x)
theorem op_at (g : D -> D -> Sto -> Res D) : eOp g fa fb ρ m = (fa ρ m).bind (kOp g fb ρ) := rfl
theorem kop_at (g : D -> D -> Sto -> Res D) : kOp g fb ρ d m = (fb ρ m).bind (g d) := rfl
theorem un_at (g : D -> Sto -> Res D) : eUn g fa ρ m = (fa ρ m).bind g := rfl
theorem fn_at (g : List D -> Sto -> Res D) : eFn g fr ρ m = (fr ρ m).bind g := rfl
def kIfE (f g : EV) (ρ : En) : Bool -> Sto -> Res D := fun b m => if b = true then f ρ m else g ρ m
theorem ife_at : eIf c fa fb ρ m = (c ρ m).bind (kIfE fa fb ρ) := rfl
theorem kife_at (b : Bool) : kIfE fa fb ρ b m = if b = true then fa ρ m else fb ρ m := rfl
theorem aNil_at : zaj ρ m = .ok [] m := rfl
def kCons (fr : AV) (ρ : En) : D -> Sto -> Res (List D) := fun x m1 => (fr ρ m1).bind fun xs m2 => .ok (x :: xs) m2
def zpl (x : D) : List D -> Sto -> Res (List D) := fun xs m2 => .ok (x :: xs) m2
theorem aCons_at : zac fa fr ρ m = (fa ρ m).bind (kCons fr ρ) := rfl
theorem kcons_at : kCons fr ρ d m = (fr ρ m).bind (zpl d) := rfl
theorem kcons2_at (xs : List D) : zpl d xs m = .ok (d :: xs) m := rfl
theorem asB_at (b : Bool) : asB (.bl b) m = .ok b m := rfl
theorem tV_at : tV fa ρ m = (fa ρ m).bind asB := rfl
def kAndT (t : TV) (ρ : En) : Bool -> Sto -> Res Bool := fun b m => if b = true then t ρ m else .ok false m
theorem andT_at : zgM c t ρ m = (c ρ m).bind (kAndT t ρ) := rfl
theorem kandT_at (b : Bool) : kAndT t ρ b m = if b = true then t ρ m else .ok false m := rfl
def kOrT (t : TV) (ρ : En) : Bool -> Sto -> Res Bool := fun b m => if b = true then .ok true m else t ρ m
theorem orT_at : tOrM c t ρ m = (c ρ m).bind (kOrT t ρ) := rfl
theorem korT_at (b : Bool) : kOrT t ρ b m = if b = true then .ok true m else t ρ m := rfl
def kNotT : Bool -> Sto -> Res Bool := fun c m1 => .ok (!c) m1
theorem notT_at : zhA c ρ m = (c ρ m).bind kNotT := rfl
theorem knotT_at (b : Bool) : kNotT b m = .ok (!b) m := rfl
def kAnd (fb : EV) (ρ : En) : D -> Sto -> Res D := fun c m1 => (asB c m1).bind fun c m1 => if c = true then fb ρ m1 else .ok (.bl false) m1
theorem and_at : eAnd fa fb ρ m = (fa ρ m).bind (kAnd fb ρ) := rfl
theorem kand_at (b : Bool) : kAnd fb ρ (.bl b) m = if b = true then fb ρ m else .ok (.bl false) m := rfl
def kOr (fb : EV) (ρ : En) : D -> Sto -> Res D := fun c m1 => (asB c m1).bind fun c m1 => if c = true then .ok (.bl true) m1 else fb ρ m1
theorem or_at : eOr fa fb ρ m = (fa ρ m).bind (kOr fb ρ) := rfl
theorem kor_at (b : Bool) : kOr fb ρ (.bl b) m = if b = true then .ok (.bl true) m else fb ρ m := rfl
def kNot : D -> Sto -> Res D := fun c m1 => (asB c m1).bind fun c m1 => .ok (.bl (!c)) m1
theorem not_at : eNot fa ρ m = (fa ρ m).bind kNot := rfl
theorem knot_at (b : Bool) : kNot (.bl b) m = .ok (.bl (!b)) m := rfl
theorem aIt_at : aIt fa ρ m = (fa ρ m).bind zjA := rfl
theorem sq_t (ds : List D) : zjA (.tup ds) m = .ok ds m := rfl
theorem sq_l (ds : List D) : zjA (.lst ds) m = .ok ds m := rfl
theorem sq_s (z : Str) : zjA (.str z) m = .ok (zeN z) m := rfl
theorem sq_c (ds : List D) : zjA (.scr ds) m = .ok ds m := rfl
theorem rngA_at (g : List D -> Sto -> Res (List D)) : zkB g fr ρ m = (fr ρ m).bind g := rfl
def zq7 : D -> Sto -> Res (List D) := fun d m1 => (asSq2 d m1).bind fun ds m2 => .ok (zbL 0 ds) m2
theorem enumA_at : zlq fa ρ m = (fa ρ m).bind zq7 := rfl
theorem kenum_t (ds : List D) : zq7 (.tup ds) m = .ok (zbL 0 ds) m := rfl
theorem kenum_l (ds : List D) : zq7 (.lst ds) m = .ok (zbL 0 ds) m := rfl
def kZip (fb : EV) (ρ : En) : D -> Sto -> Res (List D) := fun x m1 => (fb ρ m1).bind (zo0 x)
theorem zipA_at : aZip fa fb ρ m = (fa ρ m).bind (kZip fb ρ) := rfl
theorem kzip_at : kZip fb ρ d m = (fb ρ m).bind (zo0 d) := rfl
def kZip3 (fb fc : EV) (ρ : En) : D -> Sto -> Res (List D) := fun x m1 => (fb ρ m1).bind fun y m2 => (fc ρ m2).bind (zip3 x y)
def kZip4 (x : D) (fc : EV) (ρ : En) : D -> Sto -> Res (List D) := fun y m1 => (fc ρ m1).bind (zip3 x y)
theorem zip3A_at : aZip3 fa fb fc ρ m = (fa ρ m).bind (kZip3 fb fc ρ) := rfl
theorem kzip3_at : kZip3 fb fc ρ d m = (fb ρ m).bind (kZip4 d fc ρ) := rfl
theorem kzip4_at (x : D) : kZip4 x fc ρ d m = (fc ρ m).bind (zip3 x d) := rfl
theorem oNone_at : zeR ρ m = .ok none m := rfl
def kSome : D -> Sto -> Res (Option Int) := fun d m1 => match d with
 | .int i => .ok (some i) m1
 | _ => .bad
theorem oSome_at : zcC fa ρ m = (fa ρ m).bind kSome := rfl
theorem ksome_at (i : Int) : kSome (.int i) m = .ok (some i) m := rfl
def kSl1 (lo hi : OV) (ρ : En) : D -> Sto -> Res D := fun x m1 => (lo ρ m1).bind fun l m2 => (hi ρ m2).bind (slD x l)
def kSl2 (hi : OV) (ρ : En) (x : D) : Option Int -> Sto -> Res D := fun l m2 => (hi ρ m2).bind (slD x l)
theorem slD_at (lo hi : OV) : eSl fa lo hi ρ m = (fa ρ m).bind (kSl1 lo hi ρ) := rfl
theorem ksl1_at (lo hi : OV) : kSl1 lo hi ρ d m = (lo ρ m).bind (kSl2 hi ρ d) := rfl
theorem ksl2_at (hi : OV) (l : Option Int) : kSl2 hi ρ d l m = (hi ρ m).bind (slD d l) := rfl
def kSlA1 (lo hi : OV) (ρ : En) : D -> Sto -> Res D := fun x m1 => (lo ρ m1).bind fun l m2 => (hi ρ m2).bind (slA x l)
def kSlA2 (hi : OV) (ρ : En) (x : D) : Option Int -> Sto -> Res D := fun l m2 => (hi ρ m2).bind (slA x l)
theorem slA_at (lo hi : OV) : eSlA fa lo hi ρ m = (fa ρ m).bind (kSlA1 lo hi ρ) := rfl
theorem kslA1_at (lo hi : OV) : kSlA1 lo hi ρ d m = (lo ρ m).bind (kSlA2 hi ρ d) := rfl
theorem kslA2_at (hi : OV) (l : Option Int) : kSlA2 hi ρ d l m = (hi ρ m).bind (slA d l) := rfl
def kMeth (ty : D -> Sto -> Bool) (g : D -> List D -> Sto -> Res D) (fr : AV) (ρ : En) : D -> Sto -> Res D := fun o m1 => if ty o m1 = true then (fr ρ m1).bind (g o) else .bad
theorem meth_at (ty : D -> Sto -> Bool) (g : D -> List D -> Sto -> Res D) : zeU ty g fa fr ρ m = (fa ρ m).bind (kMeth ty g fr ρ) := rfl
theorem kmeth_at (ty : D -> Sto -> Bool) (g : D -> List D -> Sto -> Res D) : kMeth ty g fr ρ d m = if ty d m = true then (fr ρ m).bind (g d) else .bad := rfl
theorem isStr_at (z : Str) : isStr (.str z) m = true := rfl
theorem isTup_at (ds : List D) : zoK (.tup ds) m = true := rfl
theorem fin_nx : zkp (.nx ρ) m = .ok .non m := rfl
theorem fin_rt : zkp (.rt d) m = .ok d m := rfl
theorem run_at (n : Nat) (ds : List D) : zbf n f ds m = (f (ds.map some ++ List.replicate (n - ds.length) none) m).bind zkp := rfl
def kCh3 (g' : D -> D -> Sto -> Res D) (fc : EV) (ρ : En) (y : D) : D -> Sto -> Res D := fun z m3 => (asB z m3).bind fun k m3 => if k = true then (fc ρ m3).bind (g' y) else .ok (.bl false) m3
def kCh2 (g g' : D -> D -> Sto -> Res D) (fc : EV) (ρ : En) (x : D) : D -> Sto -> Res D := fun y m2 => (g x y m2).bind (kCh3 g' fc ρ y)
def kCh1 (g g' : D -> D -> Sto -> Res D) (fb fc : EV) (ρ : En) : D -> Sto -> Res D := fun x m1 => (fb ρ m1).bind (kCh2 g g' fc ρ x)
theorem chain_at (g g' : D -> D -> Sto -> Res D) : eChain g g' fa fb fc ρ m = (fa ρ m).bind (kCh1 g g' fb fc ρ) := rfl
theorem kch1_at (g g' : D -> D -> Sto -> Res D) : kCh1 g g' fb fc ρ d m = (fb ρ m).bind (kCh2 g g' fc ρ d) := rfl
theorem kch2_at (g g' : D -> D -> Sto -> Res D) (x : D) : kCh2 g g' fc ρ x d m = (g x d m).bind (kCh3 g' fc ρ d) := rfl
theorem kch3_at (g' : D -> D -> Sto -> Res D) (y : D) (b : Bool) : kCh3 g' fc ρ y (.bl b) m = if b = true then (fc ρ m).bind (g' y) else .ok (.bl false) m := rfl
def kPutA (fo fi : EV) (ρ : En) : D -> Sto -> Res Fl := fun v m1 => (fo ρ m1).bind fun x m2 => (fi ρ m2).bind fun y m3 => (zf5 x y v m3).bind fun _ m4 => .ok (.nx ρ) m4
def kPutB (fi : EV) (ρ : En) (v : D) : D -> Sto -> Res Fl := fun x m2 => (fi ρ m2).bind fun y m3 => (zf5 x y v m3).bind fun _ m4 => .ok (.nx ρ) m4
def kPutC (ρ : En) (v x : D) : D -> Sto -> Res Fl := fun y m3 => (zf5 x y v m3).bind fun _ m4 => .ok (.nx ρ) m4
def kPutE (ρ : En) : Unit -> Sto -> Res Fl := fun _ m4 => .ok (.nx ρ) m4
theorem put_at : zkR fa fb fc ρ m = (fc ρ m).bind (kPutA fa fb ρ) := rfl
theorem kputA_at : kPutA fa fb ρ d m = (fa ρ m).bind (kPutB fb ρ d) := rfl
theorem kputB_at (x : D) : kPutB fb ρ d x m = (fb ρ m).bind (kPutC ρ d x) := rfl
theorem kputC_at (x y : D) : kPutC ρ d x y m = (zf5 x y d m).bind (kPutE ρ) := rfl
theorem kputE_at : kPutE ρ () m = .ok (.nx ρ) m := rfl
theorem var_0 : zae 0 (some d :: ρ) m = .ok d m := rfl
theorem var_S (i : Nat) (x : Option D) : zae (i + 1) (x :: ρ) m = zae i ρ m := rfl
end
theorem bind_ok {α β : Type} (a : α) (m : Sto) (k : α -> Sto -> Res β) : (Res.ok a m).bind k = k a m := rfl
def Run {α : Type} (r : Res α) (P : α -> Sto -> Prop) : Prop := ∃ a m,r = .ok a m /\ P a m
theorem Run.bind {α β : Type} {r : Res α} {k : α -> Sto -> Res β} {Q : α -> Sto -> Prop} {P : β -> Sto -> Prop} (h : Run r Q) (hk : ∀ a m,Q a m -> Run (k a m) P) : Run (r.bind k) P := by
 obtain ⟨a,m,rfl,q⟩ := h
 exact hk a m q
theorem Run.ok {α : Type} {a : α} {m : Sto} {P : α -> Sto -> Prop} (h : P a m) : Run (.ok a m) P := ⟨a,m,rfl,h⟩
theorem Run.mono {α : Type} {r : Res α} {P Q : α -> Sto -> Prop} (h : Run r P) (k : ∀ a m,P a m -> Q a m) : Run r Q := by
 obtain ⟨a,m,e,p⟩ := h
 exact ⟨a,m,e,k a m p⟩
theorem zaW {g : GV} {body : SV} (I : Nat -> En -> Sto -> Prop) : ∀ (ds : List D) (k : Nat) {ρ : En} {m : Sto},I k ρ m -> (∀ i d ρ m,ds[i]? = some d -> I (k + i) ρ m -> Run ((g d ρ m).bind body) fun fl m2 => ∃ ρ2,fl = .nx ρ2 /\ I (k + i + 1) ρ2 m2) →
  Run (zfA g body ds ρ m) fun fl m' => ∃ ρ',fl = .nx ρ' /\ I (k + ds.length) ρ' m'
 | [],k,ρ,m,h,_ => ⟨_,m,rfl,ρ,rfl,h⟩
 | d :: r,k,ρ,m,h,st => by
  obtain ⟨_,m2,e2,ρ2,rfl,h2⟩ := st 0 d ρ m rfl h
  obtain ⟨_,m',e3,ρ',rfl,h3⟩ := zaW I r (k + 1) h2 fun i d ρ m hd hi => by
   have := st (i + 1) d ρ m (by simpa using hd) (by rw [show k + (i + 1) = k + 1 + i by omega]; exact hi)
   rw [show k + (i + 1) + 1 = k + 1 + i + 1 by omega] at this
   exact this
  refine ⟨_,m',?_,ρ',rfl,by rw [List.length_cons,show k + (r.length + 1) = k + 1 + r.length by omega]; exact h3⟩
  rw [zfA,<- Res.bind_assoc,e2,bind_ok]
  exact e3
theorem zhr {g : GV} {el : EV} {ρ : En} (I : Nat -> Sto -> Prop) (P : Nat -> D -> D -> Prop) : ∀ (ds : List D) (k : Nat) {m : Sto},I k m -> (∀ i d m,ds[i]? = some d -> I (k + i) m -> Run ((g d ρ m).bind el) fun x m3 => P (k + i) d x /\ I (k + i + 1) m3) →
  Run (zen g zcG el ρ ds m) fun xs m' => xs.length = ds.length /\ (∀ i d x,ds[i]? = some d -> xs[i]? = some x -> P (k + i) d x) /\ I (k + ds.length) m'
 | [],k,m,h,_ => ⟨[],m,rfl,rfl,fun i d x e => by simp at e,h⟩
 | d :: r,k,m,h,st => by
  obtain ⟨x,m3,e3,hP,h3⟩ := st 0 d m rfl h
  obtain ⟨xs,m',e4,hl,hPs,h4⟩ := zhr I P r (k + 1) h3 fun i d m hd hi => by
   have := st (i + 1) d m (by simpa using hd) (by rw [show k + (i + 1) = k + 1 + i by omega]; exact hi)
   rw [show k + (i + 1) + 1 = k + 1 + i + 1 by omega,show k + (i + 1) = k + 1 + i by omega] at this
   exact this
  refine ⟨x :: xs,m',?_,by rw [List.length_cons,List.length_cons,hl],fun i d' x' hd hx => ?_,by rw [List.length_cons,show k + (r.length + 1) = k + 1 + r.length by (clear hl; omega)]; exact h4⟩
  ·have e : zen g zcG el ρ (d :: r) m = ((g d ρ m).bind el).bind fun x m3 => (zen g zcG el ρ r m3).bind fun xs m4 => .ok (x :: xs) m4 := by
    rw [zen,Res.bind_assoc]
    rfl
   rw [e,e3,bind_ok,e4,bind_ok]
  ·cases i with
   | zero => simp at hd hx; subst hd hx; exact hP
   | succ i =>
    have := hPs i d' x' (by simpa using hd) (by simpa using hx)
    rw [show k + (i + 1) = k + 1 + i by (clear hl; omega)]
    exact this
theorem zkv {g : GV} {el : EV} {ρ : En} {m : Sto} (f : D -> D) : ∀ (ds : List D),(∀ d ∈ ds,∃ ρ1,g d ρ m = .ok ρ1 m /\ el ρ1 m = .ok (f d) m) -> zen g zcG el ρ ds m = .ok (ds.map f) m
 | [],_ => rfl
 | d :: r,h => by
  obtain ⟨ρ1,e1,e2⟩ := h d (by simp)
  rw [zen,e1,bind_ok]
  show (Res.ok true m).bind _ = _
  rw [bind_ok,if_pos rfl,e2,bind_ok,zkv f r fun d hd => h d (List.mem_cons_of_mem _ hd),bind_ok]
  rfl
theorem zc1 : ∀ ns : List Int,pyL (ns.map D.int) = ns.map PyData.int
 | [] => by simp [pyL]
 | a :: r => by simp [pyL,py,zc1 r]
theorem zc0 : ∀ ns : List Int,pyOkL (ns.map D.int) = true
 | [] => by simp [pyOkL]
 | a :: r => by simp [pyOkL,ze9,zc0 r]
theorem zfc : ∀ ns : List Int,PyData.canLayAll0 (ns.map PyData.int) = true
 | [] => by simp [PyData.canLayAll0]
 | a :: r => by simp [PyData.canLayAll0,PyData.canLay0,zfc r]
theorem zhq : ∀ ns : List Int,PyData.depthAll (ns.map PyData.int) = 0
 | [] => by simp [PyData.depthAll]
 | a :: r => by simp [PyData.depthAll,PyData.depth,zhq r]
theorem zho : ∀ ns ms : List Int,PyData.eqvAll (ns.map PyData.int) (ms.map PyData.int) = decide (ns = ms)
 | [],[] => by simp [PyData.eqvAll]
 | [],_ :: _ => by simp [PyData.eqvAll]
 | _ :: _,[] => by simp [PyData.eqvAll]
 | a :: r,b :: t => by
  simp only [List.map_cons,PyData.eqvAll,PyData.eqv,zho r t]
  by_cases h : a = b <;> by_cases h' : r = t <;> simp [h,h']
theorem zku (ns : List Int) : zcE (.lst (ns.map D.int)) = true := by
 simp [zcE,ze9,py,zc0,zc1,SeqAt.shaped,PyData.canLay0,zfc,PyData.depth,zhq]
theorem zoS (ns : List Int) : zcE (.tup (ns.map D.int)) = true := by
 simp [zcE,ze9,py,zc0,zc1,SeqAt.shaped,PyData.canLay0,zfc,PyData.depth,zhq]
theorem zrf (ns ms : List Int) : eqB (.lst (ns.map D.int)) (.lst (ms.map D.int)) = some (decide (ns = ms)) := by
 show (if zcE (.lst (ns.map D.int)) && zcE (.lst (ms.map D.int)) then some (PyData.eqv (py (.lst (ns.map D.int))) (py (.lst (ms.map D.int)))) else none) = _
 rw [zku,zku]
 simp [py,PyData.eqv,zc1,zho]
structure Fr (p q : Nat) (m m' : Sto) : Prop where
 len : m.length <= m'.length
 at' : ∀ j,j < m.length -> j ≠ p -> j ≠ q -> m'[j]? = m[j]?
theorem Fr.refl {p q : Nat} {m : Sto} : Fr p q m m := ⟨Nat.le_refl _,fun _ _ _ _ => rfl⟩
theorem Fr.trans {p q : Nat} {a b c : Sto} (h : Fr p q a b) (k : Fr p q b c) : Fr p q a c := ⟨Nat.le_trans h.len k.len,fun j h1 h2 h3 => (k.at' j (Nat.lt_of_lt_of_le h1 h.len) h2 h3).trans (h.at' j h1 h2 h3)⟩
section
variable {m : Sto}
theorem add_i (a b : Int) : za2 (.int a) (.int b) m = .ok (.int (a + b)) m := rfl
theorem sub_i (a b : Int) : zfY (.int a) (.int b) m = .ok (.int (a - b)) m := rfl
theorem eq_i (a b : Int) : eqD (.int a) (.int b) m = .ok (.bl (decide (a = b))) m := rfl
theorem ne_i (a b : Int) : neD (.int a) (.int b) m = .ok (.bl (!decide (a = b))) m := rfl
theorem eq_s (a b : Str) : eqD (.str a) (.str b) m = .ok (.bl (decide (a = b))) m := rfl
theorem ne_s (a b : Str) : neD (.str a) (.str b) m = .ok (.bl (!decide (a = b))) m := rfl
theorem lt_i (a b : Int) : ltD (.int a) (.int b) m = .ok (.bl (decide (a < b))) m := rfl
theorem gt_i (a b : Int) : gtD (.int a) (.int b) m = .ok (.bl (decide (b < a))) m := rfl
theorem ge_i (a b : Int) : geD (.int a) (.int b) m = .ok (.bl (decide (b <= a))) m := rfl
theorem le_i (a b : Int) : leD (.int a) (.int b) m = .ok (.bl (decide (a <= b))) m := rfl
theorem zhj {a b : Int} (h : -(2 ^ 64) < b /\ b < 2 ^ 64) : zc2 (.int a) (.int b) m = .ok (.int (a * b)) m := by rw [zfy]; exact if_pos (.inr h)
theorem zgc {a b : Int} (h : -(2 ^ 64) < a /\ a < 2 ^ 64) : zc2 (.int a) (.int b) m = .ok (.int (a * b)) m := by rw [zfy]; exact if_pos (.inl h)
theorem zbx {a b : Int} (h : 0 < b) : zc7 (.int a) (.int b) m = .ok (.int (a % b)) m := if_pos h
theorem zrg {a b : Int} (h : 0 < b /\ b < 2 ^ 64) : zhn (.int a) (.int b) m = .ok (.int (a / b)) m := by rw [zkr]; exact if_pos h
theorem zdy {n : Nat} (h : n <= 1000000) : zhD (.int 1) (.int n) m = .ok (.int (2 ^ n)) m := by
 rw [zlM]
 show (if _ then _ else _) = _
 rw [if_pos ⟨by (clear h; omega),by omega,by decide⟩,Int.toNat_natCast,Int.one_mul]
theorem lst_0 : zc9 [] m = .ok (.lst []) m := if_pos (Nat.zero_le _)
theorem zbq {n : Nat} (h : n <= 8) : n <= sizeLine := Nat.le_trans h (by decide)
theorem lst_2 (a b : D) : zc9 [a,b] m = .ok (.lst [a,b]) m := if_pos (zbq (by simp))
theorem lst_3 (a b c : D) : zc9 [a,b,c] m = .ok (.lst [a,b,c]) m := if_pos (zbq (by simp))
theorem lst_4 (a b c d : D) : zc9 [a,b,c,d] m = .ok (.lst [a,b,c,d]) m := if_pos (zbq (by simp))
theorem lst_5 (a b c d e : D) : zc9 [a,b,c,d,e] m = .ok (.lst [a,b,c,d,e]) m := if_pos (zbq (by simp))
theorem tup_0 : zbi [] m = .ok (.tup []) m := if_pos (Nat.zero_le _)
theorem tup_1 (a : D) : zbi [a] m = .ok (.tup [a]) m := if_pos (zbq (by simp))
theorem tup_2 (a b : D) : zbi [a,b] m = .ok (.tup [a,b]) m := if_pos (zbq (by simp))
theorem tup_3 (a b c : D) : zbi [a,b,c] m = .ok (.tup [a,b,c]) m := if_pos (zbq (by simp))
theorem zqQ : zjo [] m = .ok (.ob m.length) (m ++ [.lst []]) := if_pos (Nat.zero_le _)
theorem min_i (a b : Int) : zoC [.int a,.int b] m = .ok (.int (if b < a then b else a)) m := rfl
theorem len_t (xs : List D) : zex [.tup xs] m = .ok (.int xs.length) m := rfl
theorem len_l (xs : List D) : zex [.lst xs] m = .ok (.int xs.length) m := rfl
theorem tup_l (xs : List D) : zjJ [.lst xs] m = .ok (.tup xs) m := rfl
theorem l1 (xs : List D) : gL1 xs m = .ok (.lst xs) m := rfl
theorem zhu {τ : Type} {xs : List τ} {n : Nat} : L2.atI xs (n : Int) = xs[n]? := by
 unfold L2.atI L2.ixN
 by_cases h : n < xs.length
 ·rw [if_pos (by (clear h; omega)),if_pos (by omega)]
  simp
 ·rw [if_pos (by (clear h; omega)),if_neg (by omega)]
  simp
  omega
theorem zlt {xs : List D} {n : Nat} {d : D} (h : xs[n]? = some d) : ixD (.tup xs) (.int n) m = .ok d m := by
 show opt (L2.atI xs n) m = _
 rw [zhu,h]
 rfl
theorem ix_l {xs : List D} {n : Nat} {d : D} (h : xs[n]? = some d) : ixD (.lst xs) (.int n) m = .ok d m := by
 show opt (L2.atI xs n) m = _
 rw [zhu,h]
 rfl
theorem ix_t0 (a : D) (xs : List D) : ixD (.tup (a :: xs)) (.int 0) m = .ok a m := zlt (n := 0) rfl
theorem ix_t1 (a b : D) (xs : List D) : ixD (.tup (a :: b :: xs)) (.int 1) m = .ok b m := zlt (n := 1) rfl
theorem ix_t2 (a b c : D) (xs : List D) : ixD (.tup (a :: b :: c :: xs)) (.int 2) m = .ok c m := zlt (n := 2) rfl
theorem zpn {xs : List D} {d : Int} (h0 : 0 <= d) (h1 : d < xs.length) : ∃ x ∈ xs,ixD (.lst xs) (.int d) m = .ok x m := by
 obtain ⟨n,rfl⟩ : ∃ n : Nat,d = n := ⟨d.toNat,by (clear h1; omega)⟩
 have hn : n < xs.length := by (clear h0; omega)
 exact ⟨xs[n],List.getElem_mem hn,ix_l (by simp [hn])⟩
end
theorem zd6 {n : Nat} {it : AV} {g : GV} {el : EV} {ρ : En} {m : Sto} {ds : List D} (f : D -> D) (h : it ρ m = .ok ds m) (hl : ds.length <= 1000000) (hf : ∀ d ∈ ds,∃ ρ1,g d (ρ ++ List.replicate n none) m = .ok ρ1 m /\ el ρ1 m = .ok (f d) m) : zcw n it g zcG el ρ m = .ok (ds.map f) m := by
 unfold zcw
 rw [h,bind_ok,if_pos hl]
 exact zkv f ds hf
theorem zfW {n : Nat} {it : AV} {g : GV} {el : EV} {ρ : En} {m : Sto} {ds : List D} (I : Nat -> Sto -> Prop) (P : Nat -> D -> D -> Prop) (h : it ρ m = .ok ds m) (hl : ds.length <= 1000000) (h0 : I 0 m) (hf : ∀ i d m,ds[i]? = some d -> I i m -> Run ((g d (ρ ++ List.replicate n none) m).bind el) fun x m3 => P i d x /\ I (i + 1) m3) :
  Run (zcw n it g zcG el ρ m) fun xs m' => xs.length = ds.length /\ (∀ i d x,ds[i]? = some d -> xs[i]? = some x -> P i d x) /\ I ds.length m' := by
 unfold zcw
 rw [h,bind_ok,if_pos hl]
 have := zhr (g := g) (el := el) (ρ := ρ ++ List.replicate n none) I P ds 0 h0 (fun i d m hd hi => by
  have := hf i d m hd (by rw [Nat.zero_add] at hi; exact hi)
  rw [Nat.zero_add]
  exact this)
 simpa only [Nat.zero_add] using this
theorem zaG (lo : Int) (n : Nat) : (zcD lo n).length = n := by simp [zcD]
theorem zdL {j : Int} {m : Sto} (h : 0 <= j) (h' : j <= 1000000) : ziV [.int j] m = .ok (zcD 0 j.toNat) m := by rw [zlU]; exact if_pos ⟨by (clear h'; omega),by (clear h; omega)⟩
theorem zqK {a b : String} (h : Str.ofString a = Str.ofString b) : a = b := by
 rw [PySem.Str.ofString_eq_toList,PySem.Str.ofString_eq_toList] at h
 have h2 := congrArg (fun s : Str => s.cps.toList) h
 exact String.toList_inj.mp ((List.map_inj_right fun x y e => Char.toNat_inj.mp e).mp h2)
theorem ofs_eq (a b : String) : (Str.ofString a = Str.ofString b) = (a = b) := propext ⟨zqK,fun h => by rw [h]⟩
local macro_rules | `(tactic| walk_at "w") => do
  let ids := ("run_at fin_nx fin_rt seq_at seq_nx seq_rt nil_at ret_at rt_at retN_at drop_at kdrop_at if_at kif_at asg_at kasg_at nx_at gs_nil gs_cons gT_at par_at kpar_at List.set_cons_zero List.set_cons_succ for_at kfor_at eC_at op_at kop_at un_at fn_at ife_at kife_at aNil_at aCons_at kcons_at kcons2_at asB_at tV_at andT_at kandT_at orT_at korT_at notT_at knotT_at and_at kand_at or_at kor_at not_at knot_at aIt_at sq_t sq_l sq_s sq_c rngA_at enumA_at kenum_t kenum_l zipA_at kzip_at zip3A_at kzip3_at kzip4_at oNone_at oSome_at ksome_at slD_at ksl1_at ksl2_at slA_at kslA1_at kslA2_at meth_at kmeth_at isStr_at isTup_at chain_at kch1_at kch2_at kch3_at put_at kputA_at kputB_at kputC_at kputE_at bind_ok bind_then then_at var_0 var_S gN_at Bool.false_eq_true reduceIte List.map_cons List.map_nil List.length_cons List.length_nil Nat.reduceAdd Nat.reduceSub List.cons_append List.nil_append add_i sub_i eq_i ne_i eq_s ne_s lt_i le_i gt_i ge_i lst_0 lst_2 lst_3 lst_4 lst_5 tup_0 tup_1 tup_2 tup_3 min_i len_t len_l tup_l l1 ix_t0 ix_t1 ix_t2 List.replicate List.append_nil decide_eq_true_eq Bool.not_true Bool.not_false eq_self not_true_eq_false not_false_eq_true decide_true decide_false ofs_eq String.reduceEq".splitOn " ").toArray.map fun s => Lean.mkIdent s.toName
  `(tactic| try simp only [$[$ids:ident],*])
theorem zcN {m : Sto} {p : Nat} {kvs : List (L2.Key × D)} {k : Str} {d : D} (h : m[p]? = some (.dct kvs)) (e : zd8 kvs (.inr k) = some d) : ixD (.ob p) (.str k) m = .ok d m := by
 simp only [ixD,h,e,opt]
theorem zp6 {m : Sto} {p : Nat} {kvs : List (L2.Key × D)} {k : Str} {d : D} (h : m[p]? = some (.dct kvs)) (hl : kvs.length < sizeLine) : zf5 (.ob p) (.str k) d m = .ok () (m.set p (.dct (zg5 kvs (.inr k) d))) := by
 simp only [zf5,h,zie,if_pos hl]
theorem zbN {m : Sto} {p : Nat} {o o' : MO} (h : m[p]? = some o) : (m.set p o')[p]? = some o' := List.getElem?_set_self (List.getElem?_eq_some_iff.mp h).1
theorem zaY {m : Sto} {p j : Nat} {o : MO} (h : p ≠ j) : (m.set p o)[j]? = m[j]? := List.getElem?_set_ne h
theorem Fr.set {p q : Nat} {m : Sto} {o : MO} : Fr p q m (m.set p o) := ⟨by rw [List.length_set]; exact Nat.le_refl _,fun j _ h _ => zaY (Ne.symm h)⟩
theorem Fr.set' {p q : Nat} {m : Sto} {o : MO} : Fr p q m (m.set q o) := ⟨by rw [List.length_set]; exact Nat.le_refl _,fun j _ _ h => zaY (Ne.symm h)⟩
theorem zmL (x : Int) : -(2 ^ 64) < x % 1000003 + 69621 /\ x % 1000003 + 69621 < 2 ^ 64 := by
 have h0 := Int.emod_nonneg x (b := 1000003) (by decide)
 have h1 := Int.emod_lt_of_pos x (b := 1000003) (by decide)
 (clear h1 h0; omega)
theorem zl8 {m : Sto} {q : Nat} {a : Int} {own : List Int} (h : m[q]? = some (.lst ((a :: own).map D.int))) : popM (.ob q) [.int 0] m = .ok (.int a) (m.set q (.lst (own.map D.int))) := by
 simp only [popM,h]; rw [if_pos (by decide)]
 have e : seqIndex? 0 ((a :: own).map D.int).length = some 0 := by
  simp [seqIndex?]
 rw [e]
 simp
inductive Kd where
 | step (n : Int) | turn (row : List Int) | wth (i : Nat) (f : Int) | still | drawn
def Kd.e : Kd -> D
 | .step n => .tup [.str "step", .int n]
 | .turn row => .tup [.str "turn", .tup (row.map D.int)]
 | .wth i f => .tup [.str "with", .int i,.int f]
 | .still => .tup [.str "still"]
 | .drawn => .tup [.str "drawn"]
def Kd.Ok (pl b : Nat) : Kd -> Prop
 | .step n => 0 <= n /\ n < 2 ^ b
 | .turn row => row ≠ [] /\ row.length <= 12 /\ ∀ v ∈ row,0 <= v /\ v < 2 ^ b
 | .wth i f => i < pl /\ -99 <= f /\ f <= 99
 | _ => True
theorem p2 (b : Nat) : (0 : Int) < 2 ^ b := Int.pow_pos (by decide)
theorem p2le {b : Nat} (h : b <= 40) : (2 : Int) ^ b <= 2 ^ 40 := by
 have := Nat.pow_le_pow_right (n := 2) (by decide) h
 exact_mod_cast this
theorem p2lt {b : Nat} (h : b <= 40) : (2 : Int) ^ b < 2 ^ 64 := Int.lt_of_le_of_lt (p2le h) (by decide)
structure Fd where
 nm : Str
 b : Nat
 kd : Kd
def Fd.e (f : Fd) : D := .tup [.str f.nm,.int f.b,f.kd.e]
def zlr (fs : List Fd) : Prop := ∀ (i : Nat) (f : Fd),fs[i]? = some f -> 0 < f.b /\ f.b <= 40 /\ f.kd.Ok i f.b
theorem zkA {m : Sto} {r : Nat} {xs : List D} {d : D} (h : m[r]? = some (.lst xs)) (hl : xs.length < sizeLine) : zcS (.ob r) [d] m = .ok .non (m.set r (.lst (xs ++ [d]))) := by
 simp only [zcS,h,if_pos hl]
theorem zna {m : Sto} {r : Nat} {xs : List D} (h : m[r]? = some (.lst xs)) : zdU (.ob r) m = true := by simp only [zdU,h]
theorem mul_s {z : Str} {n : Int} {m : Sto} (h : z.length = 1) (h0 : 0 <= n) (h1 : n <= 1000) : zc2 (.str z) (.int n) m = .ok (.str (Txt.mul z n)) m := by rw [zfy]; exact if_pos ⟨h0,h1,by (clear h1 h0; omega)⟩
theorem zcj {n : Nat} (h : n < 1000) : n < sizeLine := Nat.lt_trans h (by decide)
theorem pow106 {m : Sto} : zj4 (.int 10) (.int 6) m = .ok (.int 1000000) m := by
 rw [zfo]
 have e : zqf (.int 10) (.int 6) m = if (0 : Int) <= 6 /\ (6 : Int) <= 1000000 /\ (10 : Int).natAbs < 2 ^ 64 then .ok (.int ((10 : Int) ^ (6 : Int).toNat)) m else .bad := rfl
 rw [e,if_pos (by decide)]
 rfl
theorem zar {τ : Type} {r : Res τ} {x : τ} {m : Sto} (h : Run r fun a m' => a = x /\ m' = m) : r = .ok x m := by
 obtain ⟨a,m',e,rfl,rfl⟩ := h
 exact e
theorem znd {v : Int} {row : List Int} {m : Sto} : inD (.int v) (.tup (row.map D.int)) m = .ok (.bl (decide (v ∈ row))) m := by
 have h : inO (.int v) (.tup (row.map D.int)) m = some (decide (v ∈ row)) := by
  show inB (.int v) (row.map D.int) = _
  unfold inB; rw [zc0,zc1,zfc]
  have hd : zcE (.int v) = true := by simp [zcE,ze9,py,SeqAt.shaped,PyData.canLay0,PyData.depth]
  rw [hd]; simp only [Bool.and_self,if_true,py]
  congr 1
  rw [List.any_map]
  induction row with
  | nil => simp
  | cons a r ih =>
   rw [List.any_cons,ih]; simp only [Function.comp,PyData.eqv,List.mem_cons,Bool.decide_or]
   by_cases e : a = v
   ·simp [e]
   ·have e' : ¬ v = a := fun h => e h.symm
    simp [e,e']
 simp only [inD,h]
theorem zk7 {v : Int} {row : List Int} {m : Sto} : zh4 (.int v) (.tup (row.map D.int)) m = .ok (.bl (!decide (v ∈ row))) m := by
 have h := znd (v := v) (row := row) (m := m)
 unfold inD at h
 unfold zh4
 split at h
 ·rename_i b e
  simp only [Res.ok.injEq,D.bl.injEq,and_true] at h
  rw [h]
 ·cases h
theorem zch : ∀ row : List Int,zd5 (row.map D.int) = some row
 | [] => rfl
 | a :: r => by simp only [List.map_cons,zd5,zch r]; rfl
theorem zjK {v : Int} {row : List Int} {m : Sto} (h : v ∈ row) : zdi (.tup (row.map D.int)) [.int v] m = .ok (.int (row.idxOf v)) m := by
 simp only [zdi,zch,if_pos h]
theorem zbS {row : List Int} {m : Sto} {n : Nat} {v : Int} (h : row[n]? = some v) : ixD (.tup (row.map D.int)) (.int n) m = .ok (.int v) m := zlt (by simp [h])
def exV (b : Nat) (kd : Kd) (v more : Int) (fo ah : List Int) : Int := match kd with
 | .step n => (v + more * n) % 2 ^ b
 | .turn row => if v ∈ row then row.getD ((row.idxOf v + more) % row.length).toNat 0 else v
 | .wth i f => (v + f * (ah.getD i 0 - fo.getD i 0)) % 2 ^ b
 | .still => v
 | .drawn => v
theorem md2 (x : Int) (b : Nat) : 0 <= x % 2 ^ b /\ x % 2 ^ b < 2 ^ b := ⟨Int.emod_nonneg _ (Int.ne_of_gt (p2 b)),Int.emod_lt_of_pos _ (p2 b)⟩
theorem exV_in {pl b : Nat} {kd : Kd} {v more : Int} {fo ah : List Int} (hk : kd.Ok pl b) (h0 : 0 <= v) (h1 : v < 2 ^ b) : 0 <= exV b kd v more fo ah /\ exV b kd v more fo ah < 2 ^ b := by
 cases kd with
 | step n => exact md2 _ _
 | turn row =>
  simp only [exV]
  split
  ·rename_i hv
   have hl : 0 < row.length := List.length_pos_of_mem hv
   have a0 := Int.emod_nonneg (row.idxOf v + more) (b := row.length) (by (clear h1 h0; omega))
   have a1 := Int.emod_lt_of_pos (row.idxOf v + more) (b := row.length) (by (clear a0 h1 h0; omega))
   have hj : (((row.idxOf v : Int) + more) % row.length).toNat < row.length := by (clear hl h1 h0; omega)
   rw [List.getD_eq_getElem?_getD,List.getElem?_eq_getElem hj]
   exact hk.2.2 _ (List.getElem_mem hj)
  ·exact ⟨h0,h1⟩
 | wth i f => exact md2 _ _
 | still => exact ⟨h0,h1⟩
 | drawn => exact ⟨h0,h1⟩
def shD (fs : List Fd) (n : Int) : D := .tup [.tup (fs.map Fd.e),.int n]
def zb7 (l : List Int) : D := .tup (l.map D.int)
theorem zjj {fs : List Fd} {i : Nat} {f : Fd} {m : Sto} (h : fs[i]? = some f) : ixD (.tup (fs.map Fd.e)) (.int i) m = .ok (.tup [.str f.nm,.int f.b,f.kd.e]) m := zlt (by simp [h,Fd.e])
def Bin (l : List Nat) : Prop := ∀ c ∈ l,c = 48 ∨ c = 49
def zdq (l : List Nat) : Int := l.foldl (fun a c => a * 2 + if c = 49 then 1 else 0) 0
theorem zmD (l : List Nat) (c : Nat) : zdq (l ++ [c]) = zdq l * 2 + if c = 49 then 1 else 0 := by simp only [zdq,List.foldl_append,List.foldl_cons,List.foldl_nil]
theorem zjR {z : Str} {i : Nat} {d : D} (h : (zeN z)[i]? = some d) : ∃ c,z.cps.toList[i]? = some c /\ d = .str ⟨#[c]⟩ := by
 have hi : i < z.cps.size := by have := (List.getElem?_eq_some_iff.mp h).1; simpa [zeN] using this
 have hd : d = .str ⟨#[z.cps.getD i 0]⟩ := by
  simp only [zeN,List.getElem?_map,List.getElem?_range hi,Option.map_some,Option.some.injEq] at h
  exact h.symm
 refine ⟨z.cps[i],by simp [hi],?_⟩
 rw [hd]
 simp [Array.getD,hi]
theorem zlK (z : Str) : (zeN z).length = z.cps.toList.length := by simp [zeN]
theorem zhy {l : List Nat} {i c : Nat} (h : l[i]? = some c) : l.take (i + 1) = l.take i ++ [c] := by
 rw [List.take_add_one,h]
 rfl
theorem int_0 {m : Sto} : znR [.str ⟨#[48]⟩] m = .ok (.int 0) m := by
 have e : PySem.intText? ⟨#[48]⟩ = some 0 := by decide +kernel
 simp only [znR,e]
 rfl
theorem int_1 {m : Sto} : znR [.str ⟨#[49]⟩] m = .ok (.int 1) m := by
 have e : PySem.intText? ⟨#[49]⟩ = some 1 := by decide +kernel
 simp only [znR,e]
 rfl
theorem zgp {z : Str} {m : Sto} (hz : Bin z.cps.toList) : Run (za4 [.str z] m) fun a m' => a = .int (zdq z.cps.toList) /\ m' = m := by
 unfold za4 zgu; ac_nf; refine Run.bind (zaW (fun k ρ m' => ∃ x,ρ = [some (.str z),some (.int (zdq (z.cps.toList.take k))),x] /\ m' = m) (zeN z) 0 ⟨_,rfl,rfl⟩ ?_) ?_
 ·rintro i d ρ m' hd ⟨x,rfl,rfl⟩
  obtain ⟨c,hc,rfl⟩ := zjR hd
  rw [Nat.zero_add,zhy hc,zmD]; erw [zhj (by decide)]; ac_nf
  rcases hz c (List.mem_of_getElem? hc) with rfl | rfl
  ·rw [int_0]; ac_nf; exact Run.ok ⟨_,rfl,_,rfl,rfl⟩
  ·rw [int_1]; ac_nf; exact Run.ok ⟨_,rfl,_,rfl,rfl⟩
 ·rintro _ m' ⟨ρ,rfl,x,rfl,rfl⟩; rw [Nat.zero_add,zlK,List.take_length]; ac_nf; exact Run.ok ⟨rfl,rfl⟩
inductive Wy where
 | keep | whole | low (w : Nat) (bl : Int)
def Wy.e : Wy -> D
 | .keep => .tup [.str "keep"]
 | .whole => .tup [.str "whole"]
 | .low w bl => .tup [.str "low", .int w,.int bl]
def Wy.w (b : Nat) : Wy -> Nat
 | .keep => 0
 | .whole => b
 | .low w _ => w
def Wy.Ok (b : Nat) : Wy -> Prop
 | .low w bl => 0 < w /\ w <= b /\ 0 <= bl /\ bl < 2 ^ w
 | _ => True
theorem Wy.w_le {b : Nat} {w : Wy} (h : w.Ok b) : w.w b <= b := by
 cases w with
 | keep => exact Nat.zero_le _
 | whole => exact Nat.le_refl _
 | low w bl => exact h.2.1
def znW (wy : Wy) (b : Nat) (base rest : Int) : Int := match wy with
 | .keep => base
 | .whole => rest
 | .low w bl => ((base - bl) + (rest - (base - bl)) % 2 ^ w) % 2 ^ b
theorem zb8 {n : Int} {w : Nat} {m : Sto} (h : w <= 1000000) : Run (zb6 [.int n,.int w] m) fun a m' => a = .int (n % 2 ^ w) /\ m' = m := by
 unfold zb6 zkh; erw [zdy h]; erw [zbx (p2 _)]; ac_nf; exact Run.ok ⟨rfl,rfl⟩
theorem zlo {b w : Nat} {base bl rest : Int} {m : Sto} (hb : b <= 1000000) (hw : w <= 1000000) : Run (zfR [.int b,.int base,.int bl,.int rest,.int w] m) fun a m' => a = .int (((base - bl) + (rest - (base - bl)) % 2 ^ w) % 2 ^ b) /\ m' = m := by
 have h1 : Run (zbg [.int (base - bl),.int rest,.int w] m) fun a m' => a = .int ((base - bl) + (rest - (base - bl)) % 2 ^ w) /\ m' = m := by
  unfold zbg zef; erw [zar (zb8 hw)]; ac_nf; exact Run.ok ⟨rfl,rfl⟩
 unfold zfR zkn; erw [zar h1]; erw [zar (zb8 hb)]; ac_nf; exact Run.ok ⟨rfl,rfl⟩
theorem zgK {wy : Wy} {b : Nat} {base rest : Int} {m : Sto} (hb : b <= 1000000) (hw : wy.Ok b) : Run (zcd [wy.e,.int b,.int base,.int rest] m) fun a m' => a = .int (znW wy b base rest) /\ m' = m := by
 unfold zcd zfJ
 cases wy with
 | keep => simp only [Wy.e]; ac_nf; exact Run.ok ⟨rfl,rfl⟩
 | whole => simp only [Wy.e]; ac_nf; exact Run.ok ⟨rfl,rfl⟩
 | low w bl =>
  simp only [Wy.e]; ac_nf
  have h2 := hw.2.1
  rw [zar (zlo hb (by omega))]; ac_nf; exact Run.ok ⟨rfl,rfl⟩
theorem zdh {wy : Wy} {b : Nat} {m : Sto} : Run (zbK [wy.e,.int b] m) fun a m' => a = .int (wy.w b : Nat) /\ m' = m := by
 unfold zbK zik
 cases wy with
 | keep => simp only [Wy.e]; ac_nf; exact Run.ok ⟨rfl,rfl⟩
 | whole => simp only [Wy.e]; ac_nf; exact Run.ok ⟨rfl,rfl⟩
 | low w bl => simp only [Wy.e]; ac_nf; exact Run.ok ⟨rfl,rfl⟩
theorem int_bf {m : Sto} : znR [.bl false] m = .ok (.int 0) m := rfl
theorem zkD {row : List Int} {v more : Int} {m : Sto} : Run (zfK [.tup (row.map D.int),.int v,.int more] m) fun a m' => a = .int (if v ∈ row then row.getD ((row.idxOf v + more) % row.length).toNat 0 else v) /\ m' = m := by
 unfold zfK zkf; erw [zk7]; ac_nf
 by_cases hr : v ∈ row
 ·rw [decide_eq_true hr]; erw [zjK hr]; ac_nf; simp only [List.length_map]
  have hl : 0 < row.length := List.length_pos_of_mem hr
  rw [zbx (by omega)]; ac_nf
  have a0 := Int.emod_nonneg (row.idxOf v + more) (b := row.length) (by omega)
  have a1 := Int.emod_lt_of_pos (row.idxOf v + more) (b := row.length) (by (clear a0; omega))
  rw [if_pos hr]; generalize hx : ((row.idxOf v : Int) + more) % row.length = x at a0 a1
  obtain ⟨j,rfl⟩ : ∃ j : Nat,x = j := ⟨x.toNat,by (clear a1 hx hl; omega)⟩
  have hj : j < row.length := by (clear a0 hx hl; omega)
  rw [zbS (List.getElem?_eq_getElem hj)]; ac_nf
  refine Run.ok ⟨?_,rfl⟩
  simp only [Int.toNat_natCast,List.getD_eq_getElem?_getD,List.getElem?_eq_getElem hj,Option.getD_some]
 ·rw [decide_eq_false hr]; erw [if_neg hr]; exact Run.ok ⟨rfl,rfl⟩
theorem sl_fd {a b c : D} {m : Sto} : slD (.tup [a,b,c]) (some 1) none m = .ok (.tup [b,c]) m := by
 have e : slD (.tup [a,b,c]) (some 1) none m = if HT.sIx 3 0 (some 1) = 0 /\ HT.sIx 3 3 none = 3 then .bad else .ok (.tup (znE [a,b,c] (some 1) none)) m := rfl
 rw [e,if_neg (by decide)]
 rfl
theorem ziv {fs : List Fd} {n : Int} {i : Nat} {f : Fd} {fo ah : List Int} {v more : Int} {m : Sto} (hs : zlr fs) (hf : fs[i]? = some f) (hv : fo[i]? = some v) (v0 : 0 <= v) (v1 : v < 2 ^ f.b) (ha : ah.length = i) :
  Run (zcR [shD fs n,.int i,.tup (fo.map D.int),.tup (ah.map D.int),.int more] m) fun a m' => a = .int (exV f.b f.kd v more fo ah) /\ m' = m := by
 obtain ⟨hb0,hb1,hk⟩ := hs i f hf
 unfold zcR zgA shD; erw [zjj hf]; erw [sl_fd]; erw [zbS hv]; ac_nf
 have hlt := p2lt hb1
 cases hkd : f.kd with
 | step w =>
  rw [hkd] at hk
  simp only [Kd.Ok] at hk
  simp only [Kd.e]; erw [zgc (by (clear hb1 hb0 ha v1 v0; omega))]; erw [zar (zb8 (by (clear hk hlt hb0 ha v1 v0; omega)))]; ac_nf; exact Run.ok ⟨by simp only [exV,Int.mul_comm],rfl⟩
 | turn row =>
  simp only [Kd.e]; erw [zar zkD]; ac_nf; exact Run.ok ⟨by simp only [exV],rfl⟩
 | wth j w =>
  rw [hkd] at hk
  simp only [Kd.Ok] at hk
  simp only [Kd.e]; ac_nf
  have hj1 : j < ah.length := by (clear hlt hb1 hb0 v1 v0; omega)
  have hj2 : j < fo.length := by have := (List.getElem?_eq_some_iff.mp hv).1; (clear hj1 hlt hb1 hb0 ha v1 v0; omega)
  rw [zbS (List.getElem?_eq_getElem hj1)]; erw [zbS (List.getElem?_eq_getElem hj2)]; erw [zgc (by (clear hj2 hj1 hlt hb1 hb0 ha v1 v0; omega))]; erw [zar (zb8 (by (clear hj2 hj1 hk hlt hb0 ha v1 v0; omega)))]; ac_nf
  refine Run.ok ⟨?_,rfl⟩
  simp only [exV,List.getD_eq_getElem?_getD,List.getElem?_eq_getElem hj1,List.getElem?_eq_getElem hj2,Option.getD_some]
 | still =>
  simp only [Kd.e]; ac_nf; exact Run.ok ⟨by simp only [exV],rfl⟩
 | drawn =>
  simp only [Kd.e]; ac_nf; exact Run.ok ⟨by simp only [exV],rfl⟩
def fmD (a b : Int) (wys : List Wy) : D := .tup [.int a,.int b,.tup (wys.map Wy.e)]
def zdg (fs : List Fd) (wys : List Wy) : List Nat := List.zipWith (fun f w => Wy.w f.b w) fs wys
theorem zeK {fs : List Fd} {n : Int} {m : Sto} (h : fs.length <= 1000) : Run (zbW [shD fs n] m) fun a m' => a = .lst (fs.map fun f => .int f.b) /\ m' = m := by
 unfold zbW zgB shD; ac_nf
 rw [zd6 (ds := fs.map Fd.e) (fun d => match d with | .tup [_,b,_] => b | d => d)]
 ·ac_nf
  refine Run.ok ⟨?_,rfl⟩
  rw [List.map_map]
  rfl
 ·ac_nf
 ·rw [List.length_map]; omega
 ·intro d hd
  simp only [List.mem_map] at hd
  obtain ⟨f,_,rfl⟩ := hd
  exact ⟨_,rfl,(ix_t1 (.str f.nm) (.int f.b) [f.kd.e] : ixD (.tup _) (.int 1) m = _)⟩
theorem zoZ : ∀ (fs : List Fd) (wys : List Wy),zjF (wys.map Wy.e) (fs.map fun f => D.int f.b) = List.zipWith (fun (f : Fd) (w : Wy) => D.tup [w.e,.int f.b]) fs wys
 | [],[] => rfl
 | [],_ :: _ => rfl
 | _ :: _,[] => rfl
 | f :: fs,w :: ws => by simp only [List.map_cons,zjF,List.zipWith_cons_cons,zoZ fs ws]
theorem zmP {α β γ δ : Type} (g : γ -> δ) (f : α -> β -> γ) : ∀ (a : List α) (b : List β),(List.zipWith f a b).map g = List.zipWith (fun x y => g (f x y)) a b
 | [],_ => by simp
 | _ :: _,[] => by simp
 | x :: a,y :: b => by simp [zmP g f a b]
theorem zpj {α β γ : Type} (f : α -> β -> γ) : ∀ (a : List α) (b : List β) {c : γ},c ∈ List.zipWith f a b -> ∃ x y,c = f x y
 | [],_,c,h => by simp at h
 | _ :: _,[],c,h => by simp at h
 | x :: a,y :: b,c,h => by
  simp only [List.zipWith_cons_cons,List.mem_cons] at h
  rcases h with h | h
  ·exact ⟨x,y,h⟩
  ·exact zpj f a b h
def wdF (d : D) : D := match d with
 | .tup [a,b] => match zbK [a,b] [] with
  | .ok x _ => x
  | _ => .non
 | d => d
theorem zgh {fs : List Fd} {n a b : Int} {wys : List Wy} {m : Sto} (h : fs.length <= 1000) (hl : wys.length = fs.length) : Run (zdu [shD fs n,fmD a b wys] m) fun x m' => x = .lst ((zdg fs wys).map fun k : Nat => .int k) /\ m' = m := by
 unfold zdu zke fmD; erw [zd6 (ds := List.zipWith (fun (f : Fd) (w : Wy) => D.tup [w.e,.int f.b]) fs wys) wdF]
 ·ac_nf
  refine Run.ok ⟨?_,rfl⟩
  rw [zmP,zdg,zmP]
  congr 2
  funext f w
  show (match zbK [w.e,.int f.b] [] with | .ok x _ => x | _ => .non) = _
  rw [zar zdh]
 ·erw [zar (zeK h)]; ac_nf; simp only [zo0]; rw [if_pos (by simp [hl]),zoZ]
 ·simp; (clear hl; omega)
 ·intro d hd
  obtain ⟨f,w,rfl⟩ := zpj _ _ _ hd
  refine ⟨_,rfl,?_⟩
  show zbK [w.e,.int f.b] m = .ok (match zbK [w.e,.int f.b] [] with | .ok x _ => x | _ => .non) m
  rw [zar zdh,zar zdh]
def zgN (ws : List Nat) (k : Nat) : Nat := (ws.take k).sum
theorem zfg {ws : List Nat} {k w : Nat} (h : ws[k]? = some w) : zgN ws (k + 1) = zgN ws k + w := by
 unfold zgN; rw [zhy h,List.sum_append]
 simp
theorem zpK (ws : List Nat) (k : Nat) : zgN ws k <= ws.sum := by
 unfold zgN
 conv => rhs; rw [<- List.take_append_drop k ws,List.sum_append]
 omega
def ziP (l : List Nat) (ws : List Nat) (k : Nat) : Int := zdq ((l.drop (zgN ws k)).take (ws.getD k 0))
theorem Bin.drop {l : List Nat} (h : Bin l) (k : Nat) : Bin (l.drop k) := fun c hc => h c (List.mem_of_mem_drop hc)
theorem Bin.take {l : List Nat} (h : Bin l) (k : Nat) : Bin (l.take k) := fun c hc => h c (List.mem_of_mem_take hc)
theorem zjQ {z : Str} {lo hi : Option Int} {m : Sto} (h : z.length <= sizeLine) : slD (.str z) lo hi m = .ok (.str (Txt.slice z lo hi)) m := if_pos h
theorem zf2 {τ : Type} (f : Nat -> τ) (k : Nat) : (List.range (k + 1)).map f = (List.range k).map f ++ [f k] := by rw [List.range_succ,List.map_append]; rfl
theorem zfv {z : Str} {ws : List Nat} {m : Sto} (hz : Bin z.cps.toList) (hl : z.length <= sizeLine) (hs : ws.sum <= z.cps.size) (hw : ws.length < 1000) :
  Run (zbz [.str z,.lst (ws.map fun k : Nat => .int k)] m) fun a m' => a = .lst (((List.range ws.length).map (ziP z.cps.toList ws)).map D.int) /\ m' = m := by
 have h : Run (zbf 5 zdv [.str z,.lst (ws.map fun k : Nat => .int k)] m) fun a m' => a = .ob m.length /\ m' = m ++ [.lst (((List.range ws.length).map (ziP z.cps.toList ws)).map D.int)] := by
  unfold zdv; erw [zqQ]; ac_nf; refine Run.bind (zaW (fun k ρ m' => ∃ x,ρ = [some (.str z),some (.lst (ws.map fun k : Nat => .int k)),some (.ob m.length),some (.int (zgN ws k : Nat)),x] /\ m' = m ++ [.lst (((List.range k).map (ziP z.cps.toList ws)).map D.int)]) (ws.map fun k : Nat => .int k) 0 ⟨_,rfl,rfl⟩ ?_) ?_
  ·rintro i d ρ m' hd ⟨x,rfl,rfl⟩; rw [Nat.zero_add]
   have hi : i < ws.length := by have := (List.getElem?_eq_some_iff.mp hd).1; simpa using this
   have hwi : ws[i]? = some ws[i] := List.getElem?_eq_getElem hi
   have hd' : d = .int (ws[i] : Nat) := by
    rw [List.getElem?_map,hwi] at hd
    simpa using hd.symm
   subst hd'
   have hm : (m ++ [MO.lst (((List.range i).map (ziP z.cps.toList ws)).map D.int)])[m.length]? = some (.lst (((List.range i).map (ziP z.cps.toList ws)).map D.int)) := by simp
   have hsum := zfg hwi
   have hle := zpK ws (i + 1)
   erw [if_pos (zna hm)]; erw [zjQ hl]; ac_nf
   have hsl := Mth.slice_mid z (zgN ws i) (zgN ws (i + 1)) (by (clear hle hw hs hl; omega)) (by (clear hsum hw hl; omega))
   rw [hsum] at hsl
   rw [Nat.add_sub_cancel_left] at hsl
   rw [show ((zgN ws i : Nat) : Int) + (ws[i] : Nat) = ((zgN ws i + ws[i] : Nat) : Int) by (clear hle hsum hw hs hl; omega)]; rw [zar (zgp (by rw [hsl]; exact (hz.drop _).take _)),hsl]; erw [zkA hm (by simp; exact zcj (by (clear hle hsum hs hl; omega)))]; ac_nf
   refine Run.ok ⟨_,rfl,_,by rw [hsum,Int.natCast_add],?_⟩
   rw [zf2,List.map_append]
   have : ziP z.cps.toList ws i = zdq ((z.cps.toList.drop (zgN ws i)).take ws[i]) := by rw [ziP,List.getD_eq_getElem?_getD,hwi]; rfl
   rw [this]
   simp
  ·rintro _ m' ⟨ρ,rfl,x,rfl,rfl⟩; ac_nf
   refine Run.ok ⟨rfl,?_⟩
   simp
 unfold zbz
 unfold locF
 have h' := zar h
 rw [h',bind_ok]; generalize ((List.range ws.length).map (ziP z.cps.toList ws)) = l
 have e : frz (m ++ [.lst (l.map D.int)]) m.length (.ob m.length) = .lst (l.map D.int) := by simp [frz]
 rw [e]
 have hcl : clsd m.length (.lst (l.map D.int)) = true := by
  have : ∀ l : List Int,clsdL m.length (l.map D.int) = true := by
   intro l
   induction l with
   | nil => simp [clsdL]
   | cons a r ih => simp [clsdL,clsd,ih]
  simp [clsd,this]
 rw [if_pos ⟨by simp,hcl⟩]; exact Run.ok ⟨rfl,by simp⟩
theorem zfS {τ : Type} {f : τ -> D} : ∀ {xs : List τ} {k i : Nat} {d : D},(zbL k (xs.map f))[i]? = some d -> ∃ x,xs[i]? = some x /\ d = .tup [.int ((k + i : Nat) : Int),f x]
 | [],k,i,d,h => by simp [zbL] at h
 | x :: xs,k,0,d,h => by
  simp only [List.map_cons,zbL,List.getElem?_cons_zero,Option.some.injEq] at h
  exact ⟨x,rfl,h.symm⟩
 | x :: xs,k,i + 1,d,h => by
  simp only [List.map_cons,zbL,List.getElem?_cons_succ] at h
  obtain ⟨y,h1,h2⟩ := zfS h
  exact ⟨y,by simpa using h1,by rw [h2,show k + 1 + i = k + (i + 1) by omega]⟩
theorem zd2 {τ : Type} {f : τ -> D} : ∀ {xs : List τ} {k : Nat},(zbL k (xs.map f)).length = xs.length
 | [],k => rfl
 | x :: xs,k => by simp [zbL,zd2]
def hdV (fs : List Fd) (wys : List Wy) (fo : List Int) (more : Int) (l : List Nat) : Nat -> List Int
 | 0 => []
 | k + 1 => hdV fs wys fo more l k ++ [match fs[k]?,wys[k]?,fo[k]? with
  | some f,some w,some v => znW w f.b (exV f.b f.kd v more fo (hdV fs wys fo more l k)) (ziP l (zdg fs wys) k)
  | _,_,_ => 0]
theorem zjm (fs : List Fd) (wys : List Wy) (fo : List Int) (more : Int) (l : List Nat) : ∀ k,(hdV fs wys fo more l k).length = k
 | 0 => rfl
 | k + 1 => by rw [hdV,List.length_append,zjm fs wys fo more l k]; rfl
structure HdOk (fs : List Fd) (fo : List Int) : Prop where
 len : fo.length = fs.length
 at' : ∀ (i : Nat) (f : Fd) (v : Int),fs[i]? = some f -> fo[i]? = some v -> 0 <= v /\ v < 2 ^ f.b
structure WyOk (fs : List Fd) (wys : List Wy) : Prop where
 len : wys.length = fs.length
 at' : ∀ (i : Nat) (f : Fd) (w : Wy),fs[i]? = some f -> wys[i]? = some w -> w.Ok f.b
theorem zbY {fs : List Fd} {wys : List Wy} (h : WyOk fs wys) : (zdg fs wys).length = fs.length := by simp [zdg,h.len]
theorem zgI {fs : List Fd} {wys : List Wy} {i : Nat} {f : Fd} {w : Wy} (hf : fs[i]? = some f) (hw : wys[i]? = some w) : (zdg fs wys)[i]? = some (w.w f.b) := by
 rw [zdg,List.getElem?_zipWith,hf,hw]
theorem zkU {fs : List Fd} {n a b : Int} {wys : List Wy} {z : Str} {fo : List Int} {more : Int} {m : Sto} (hs : zlr fs) (hn : fs.length <= 12) (hw : WyOk fs wys) (hf : HdOk fs fo) (hz : Bin z.cps.toList) (hl : z.length <= sizeLine) (hsz : z.cps.size = (zdg fs wys).sum) :
  Run (zfO [shD fs n,fmD a b wys,.str z,.tup (fo.map D.int),.int more] m) fun x m' => x = .tup ((hdV fs wys fo more z.cps.toList fs.length).map D.int) /\ m' = m := by
 unfold zfO zkj; erw [zar (zgh (by (clear hsz hl; omega)) hw.len)]; erw [zar (zfv hz hl (by (clear hl hn; omega)) (by rw [zbY hw]; (clear hsz hl; omega)))]; ac_nf; refine Run.bind (zaW (fun k ρ m' => ∃ x y w,ρ = [some (shD fs n),some (fmD a b wys),some (.str z),some (.tup (fo.map D.int)),some (.int more),some (.tup ((hdV fs wys fo more z.cps.toList k).map D.int)),x,y,w] /\ m' = m) _ 0 ⟨_,_,_,rfl,rfl⟩ ?_) ?_
 ·rintro i d ρ m' hd ⟨x,y,w,rfl,rfl⟩
  obtain ⟨v,hv,rfl⟩ := zfS hd
  have hi : i < fs.length := by
   have := (List.getElem?_eq_some_iff.mp hv).1
   rw [List.length_map,List.length_range,zbY hw] at this
   exact this
  have hv' : v = ziP z.cps.toList (zdg fs wys) i := by
   rw [List.getElem?_map,List.getElem?_range (by rw [zbY hw]; exact hi)] at hv
   simpa using hv.symm
  subst hv'
  rw [Nat.zero_add]
  have e1 := List.getElem?_eq_getElem hi
  have e2 := List.getElem?_eq_getElem (show i < wys.length by rw [hw.len]; exact hi)
  have e3 := List.getElem?_eq_getElem (show i < fo.length by rw [hf.len]; exact hi)
  obtain ⟨v0,v1⟩ := hf.at' i _ _ e1 e3
  erw [zar (ziv hs e1 e3 v0 v1 (zjm _ _ _ _ _ i))]; ac_nf; simp only [shD,fmD]; erw [zlt (d := (wys[i]'(by rw [hw.len]; exact hi)).e) (by rw [List.getElem?_map,e2]; rfl)]; erw [zjj e1]; erw [zar (zgK (by have := (hs i _ e1).2.1; (clear v1 v0 hsz hl hn; omega)) (hw.at' i _ _ e1 e2))]; ac_nf; simp only [za2]
  rw [if_pos (by rw [List.length_map,zjm]; exact Nat.le_of_lt (zcj (by simp; (clear v0 hsz hl; omega))))]; ac_nf
  have eh : (hdV fs wys fo more z.cps.toList (i + 1)).map D.int = (hdV fs wys fo more z.cps.toList i).map D.int ++ [.int (znW (wys[i]'(by rw [hw.len]; exact hi)) fs[i].b (exV fs[i].b fs[i].kd (fo[i]'(by rw [hf.len]; exact hi)) more fo (hdV fs wys fo more z.cps.toList i)) (ziP z.cps.toList (zdg fs wys) i))] := by
   rw [hdV,e1,e2,e3]
   simp
  rw [eh]; exact Run.ok ⟨_,rfl,_,_,_,rfl,rfl⟩
 ·rintro _ m' ⟨ρ,rfl,x,y,w,rfl,rfl⟩; rw [Nat.zero_add,zd2,List.length_map,List.length_range,zbY hw]; ac_nf; exact Run.ok ⟨rfl,rfl⟩
open PySem PyProof.Rows L2 Mth
theorem lift {τ : Type} (enc : τ -> D) (P : Nat -> τ -> Prop) : ∀ (xs : List D) (k : Nat),(∀ i x,xs[i]? = some x -> ∃ t,x = enc t /\ P (k + i) t) -> ∃ l : List τ,xs = l.map enc /\ ∀ i t,l[i]? = some t -> P (k + i) t
 | [],k,_ => ⟨[],rfl,fun i t h => by simp at h⟩
 | x :: xs,k,h => by
  obtain ⟨t,rfl,ht⟩ := h 0 x rfl
  obtain ⟨l,rfl,hl⟩ := lift enc P xs (k + 1) fun i x hx => by
   rw [show k + 1 + i = k + (i + 1) by omega]
   exact h (i + 1) x (by simpa using hx)
  refine ⟨t :: l,rfl,fun i u hu => ?_⟩
  cases i with
  | zero => simp at hu; subst hu; exact ht
  | succ i =>
   rw [show k + (i + 1) = k + 1 + i by omega]
   exact hl i u (by simpa using hu)
open PySem L2
theorem str_0 {m : Sto} : strF [.int 0] m = .ok (.str ⟨#[48]⟩) m := rfl
theorem str_1 {m : Sto} : strF [.int 1] m = .ok (.str ⟨#[49]⟩) m := rfl
theorem zdj {fs : List Fd} {wys : List Wy} (hs : zlr fs) (hw : WyOk fs wys) : ∀ k,k <= fs.length -> zgN (zdg fs wys) k <= 40 * k
 | 0,_ => by simp [zgN]
 | k + 1,h => by
  have e1 := List.getElem?_eq_getElem (show k < fs.length by omega)
  have e2 := List.getElem?_eq_getElem (show k < wys.length by rw [hw.len]; omega)
  rw [zfg (zgI e1 e2)]
  have := zdj hs hw k (by omega)
  have h2 := Wy.w_le (hw.at' k _ _ e1 e2)
  have h3 := (hs k _ e1).2.1
  omega
theorem zqh {m : Sto} : zj4 (.int 10) (.int 18) m = .ok (.int 1000000000000000000) m := by
 rw [zfo]
 have e : zqf (.int 10) (.int 18) m = if (0 : Int) <= 18 /\ (18 : Int) <= 1000000 /\ (10 : Int).natAbs < 2 ^ 64 then .ok (.int ((10 : Int) ^ (18 : Int).toNat)) m else .bad := rfl
 rw [e,if_pos (by decide)]
 rfl
theorem add_s {a b : Str} {m : Sto} (h : a.length + b.length <= sizeLine) : za2 (.str a) (.str b) m = .ok (.str (a ++ b)) m := if_pos h
open PySem L2
def dig (n : Int) (k : Nat) : Nat := if n / 2 ^ k % 2 = 1 then 49 else 48
def dgs (n : Int) : Nat -> List Nat
 | 0 => []
 | k + 1 => dig n k :: dgs n k
theorem zau (n : Int) : ∀ k,(dgs n k).length = k
 | 0 => rfl
 | k + 1 => by rw [dgs,List.length_cons,zau n k]
theorem zdx (n : Int) : ∀ k,Bin (dgs n k)
 | 0 => fun c h => by simp [dgs] at h
 | k + 1 => fun c h => by
  rw [dgs,List.mem_cons] at h
  rcases h with rfl | h
  ·unfold dig; split <;> simp
  ·exact zdx n k c h
theorem zfh {a b : Str} (h : a.cps.toList = b.cps.toList) : a = b := by
 cases a; cases b
 congr 1
 exact Array.ext' h
theorem zbt {x : Int} {w : Nat} {m : Sto} (hw : w <= 40) : Run (zbh [.int x,.int w] m) fun a m' => a = .str ⟨(dgs x w).toArray⟩ /\ m' = m := by
 unfold zbh zir; erw [zdL (by (clear hw; omega)) (by omega),Int.toNat_natCast]; ac_nf; refine Run.bind (zaW (fun k ρ m' => ∃ (x3 : Option D),ρ = [some (.int (x / 2 ^ k)),some (.int w),some (.str ⟨(dgs x k).toArray⟩),x3] /\ m' = m) (zcD 0 w) 0 ⟨none,by rw [Int.pow_zero,Int.ediv_one]; rfl,rfl⟩ ?_) ?_
 ·rintro i d ρ m' hd ⟨x3,rfl,rfl⟩
  have hi : i < w := by
   have := (List.getElem?_eq_some_iff.mp hd).1
   rw [zaG] at this
   exact this
  rw [Nat.zero_add]
  have hdiv : x / 2 ^ i / 2 = x / 2 ^ (i + 1) := by rw [Int.ediv_ediv_of_nonneg (Int.le_of_lt (p2 i)),Int.pow_succ]
  have fin : ∀ (c : Nat),c = dig x i -> Run ((za2 (.str ⟨#[c]⟩) (.str ⟨(dgs x i).toArray⟩) m').bind fun a m => (zhn (.int (x / 2 ^ i)) (.int 2) m).bind fun b m => Res.ok (Fl.nx [some b,some (.int w),some a,some d]) m) fun fl m2 => ∃ ρ2,fl = Fl.nx ρ2 /\ ∃ (x3 : Option D),ρ2 = [some (.int (x / 2 ^ (i + 1))),some (.int w),some (.str ⟨(dgs x (i + 1)).toArray⟩),x3] /\ m2 = m' := by
   intro c hcc
   have h1 : (⟨(dgs x i).toArray⟩ : Str).length = i := by show (dgs x i).toArray.size = i; rw [List.size_toArray,zau]
   have h2 : (⟨#[c]⟩ : Str).length = 1 := rfl
   rw [add_s (by rw [h1,h2]; exact Nat.le_of_lt (zcj (by (clear h2 h1 hcc hdiv; omega))))]; erw [zrg (by decide)]; erw [hdiv]
   have e : (⟨#[c]⟩ : Str) ++ ⟨(dgs x i).toArray⟩ = ⟨(dgs x (i + 1)).toArray⟩ := by
    refine zfh ?_
    rw [PySem.W.KT.app_list,dgs,hcc]
    simp
   rw [e]; exact Run.ok ⟨_,rfl,_,rfl,rfl⟩
  erw [zbx (by decide)]; ac_nf
  rcases (show x / 2 ^ i % 2 = 0 ∨ x / 2 ^ i % 2 = 1 by (clear hdiv hi hw; omega)) with h | h
  ·rw [h,str_0]; ac_nf
   exact fin 48 (by unfold dig; rw [h]; rfl)
  ·rw [h,str_1]; ac_nf
   exact fin 49 (by unfold dig; rw [h]; rfl)
 ·rintro _ m' ⟨ρ,rfl,x3,rfl,rfl⟩; erw [Nat.zero_add,zaG]; ac_nf; exact Run.ok ⟨rfl,rfl⟩
def pcK (fs : List Fd) (wys : List Wy) (hd : List Int) : Nat -> List Nat
 | 0 => []
 | k + 1 => pcK fs wys hd k ++ match fs[k]?,wys[k]?,hd[k]? with
  | some f,some w,some v => dgs (v % 2 ^ w.w f.b) (w.w f.b)
  | _,_,_ => []
theorem zcJ {fs : List Fd} {wys : List Wy} {hd : List Int} (hw : WyOk fs wys) (hh : HdOk fs hd) : ∀ k,k <= fs.length -> (pcK fs wys hd k).length = zgN (zdg fs wys) k
 | 0,_ => by simp [pcK,zgN]
 | k + 1,h => by
  have e1 := List.getElem?_eq_getElem (show k < fs.length by omega)
  have e2 := List.getElem?_eq_getElem (show k < wys.length by rw [hw.len]; omega)
  have e3 := List.getElem?_eq_getElem (show k < hd.length by rw [hh.len]; omega)
  rw [pcK,e1,e2,e3,List.length_append,zcJ hw hh k (by omega),zfg (zgI e1 e2)]; simp only [zau]
theorem zmi {fs : List Fd} {wys : List Wy} {hd : List Int} : ∀ k,Bin (pcK fs wys hd k)
 | 0 => fun c h => by simp [pcK] at h
 | k + 1 => fun c h => by
  rw [pcK] at h
  rcases List.mem_append.mp h with h | h
  ·exact zmi k c h
  ·split at h
   ·exact zdx _ _ c h
   ·simp at h
open PySem PyProof.Rows L2 Mth
def pc1 (fs : List Fd) (wys : List Wy) (hd : List Int) (k : Nat) : List Nat := match fs[k]?,wys[k]?,hd[k]? with
 | some f,some w,some v => dgs (v % 2 ^ w.w f.b) (w.w f.b)
 | _,_,_ => []
open PySem L2
theorem max_i (a b : Int) {m : Sto} : zh7 [.int a,.int b] m = .ok (.int (if b > a then b else a)) m := rfl
theorem add_l {a b : List D} {m : Sto} (h : a.length + b.length <= sizeLine) : za2 (.lst a) (.lst b) m = .ok (.lst (a ++ b)) m := if_pos h
theorem add_t {a b : List D} {m : Sto} (h : a.length + b.length <= sizeLine) : za2 (.tup a) (.tup b) m = .ok (.tup (a ++ b)) m := if_pos h
theorem zh3 (l : List Nat) : ∀ a : Int,l.foldl (fun a c => a * 2 + if c = 49 then 1 else 0) a = a * 2 ^ l.length + zdq l := by
 induction l with
 | nil => intro a; simp [zdq]
 | cons c l ih =>
  intro a
  rw [List.foldl_cons,ih]
  have e : zdq (c :: l) = (if c = 49 then 1 else 0) * 2 ^ l.length + zdq l := by
   unfold zdq; rw [List.foldl_cons,ih]; simp only [Int.zero_mul,Int.zero_add]
   rfl
  rw [e,List.length_cons,Int.pow_succ]; generalize (2 : Int) ^ l.length = B; generalize zdq l = C
  split
  ·rw [Int.add_mul,Int.mul_assoc,Int.mul_comm 2 B,Int.add_assoc]
  ·rw [Int.add_zero,Int.mul_assoc,Int.mul_comm 2 B,Int.zero_mul,Int.zero_add]
theorem zmE (c : Nat) (l : List Nat) : zdq (c :: l) = (if c = 49 then 1 else 0) * 2 ^ l.length + zdq l := by
 have := zh3 (c :: l) 0
 unfold zdq; rw [List.foldl_cons,zh3]; simp only [Int.zero_mul,Int.zero_add]
 rfl
theorem zqV (n : Int) (k : Nat) : n % 2 ^ (k + 1) = (n / 2 ^ k % 2) * 2 ^ k + n % 2 ^ k := by
 have hB := p2 k
 rw [Int.pow_succ]; generalize (2 : Int) ^ k = B at hB
 have h1 := Int.emod_add_mul_ediv n B
 have h2 := Int.emod_add_mul_ediv (n / B) 2
 have h3 := Int.emod_nonneg n (b := B) (by (clear h2 h1; omega))
 have h4 := Int.emod_lt_of_pos n hB
 have h5 := Int.emod_nonneg (n / B) (b := 2) (by (clear h4 h3 h2 h1 hB; omega))
 have h6 := Int.emod_lt_of_pos (n / B) (b := 2) (by (clear h5 h4 h3 h2 h1 hB; omega))
 generalize hs : n / B % 2 = s at *; generalize hr : n % B = r at *; generalize n / B / 2 = q' at *
 have e : n = s * B + r + B * 2 * q' := by
  rw [<- h2] at h1
  rw [<- h1,Int.mul_add,Int.mul_comm B s,<- Int.mul_assoc]
  (clear h2 h1 h4 h3 hr h6 h5 hs hB; omega)
 rw [e,Int.add_mul_emod_self_left]
 apply Int.emod_eq_of_lt
 ·have := Int.mul_nonneg h5 (Int.le_of_lt hB); (clear e h2 h4 h1 hr h6 h5 hs hB; omega)
 ·rcases (show s = 0 ∨ s = 1 by (clear e h2 h4 h3 h1 hr hs hB; omega)) with rfl | rfl
  ·(clear e h2 h6 h5 hs h1 hr hB; omega)
  ·(clear e h2 h6 h5 hs h3 h1 hr hB; omega)
theorem zfb (n : Int) : ∀ w,zdq (dgs n w) = n % 2 ^ w
 | 0 => by simp [dgs,zdq,Int.emod_one]
 | k + 1 => by
  rw [dgs,zmE,zau,zfb n k,zqV]
  congr 2
  have h5 := Int.emod_nonneg (n / 2 ^ k) (b := 2) (by omega)
  have h6 := Int.emod_lt_of_pos (n / 2 ^ k) (b := 2) (by (clear h5; omega))
  unfold dig
  by_cases h : n / 2 ^ k % 2 = 1
  ·rw [if_pos h,if_pos rfl,h]
  ·rw [if_neg h,if_neg (by decide)]
   (clear h6 h5; omega)
theorem zmh (fs : List Fd) (wys : List Wy) (hd : List Int) {k : Nat} : ∀ N,k < N -> ∃ t,pcK fs wys hd N = pcK fs wys hd k ++ (pc1 fs wys hd k ++ t)
 | 0,h => by omega
 | N + 1,h => by
  have e : ∀ j,pcK fs wys hd (j + 1) = pcK fs wys hd j ++ pc1 fs wys hd j := fun j => by
   rw [pcK]
   congr 1
  rcases Nat.lt_or_ge k N with hk | hk
  ·obtain ⟨t,ht⟩ := zmh fs wys hd N hk
   exact ⟨t ++ pc1 fs wys hd N,by rw [e,ht]; simp only [List.append_assoc]⟩
  ·have : k = N := by omega
   subst this
   exact ⟨[],by rw [e,List.append_nil]⟩
theorem zmC {fs : List Fd} {wys : List Wy} {hd : List Int} (hw : WyOk fs wys) (hh : HdOk fs hd) {k : Nat} {f : Fd} {w : Wy} {v : Int} (e1 : fs[k]? = some f) (e2 : wys[k]? = some w) (e3 : hd[k]? = some v) :
  ziP (pcK fs wys hd fs.length) (zdg fs wys) k = v % 2 ^ w.w f.b := by
 have hk : k < fs.length := (List.getElem?_eq_some_iff.mp e1).1
 obtain ⟨t,ht⟩ := zmh fs wys hd fs.length hk
 unfold ziP
 have e4 : (zdg fs wys).getD k 0 = w.w f.b := by rw [List.getD_eq_getElem?_getD,zgI e1 e2]; rfl
 have e5 : pc1 fs wys hd k = dgs (v % 2 ^ w.w f.b) (w.w f.b) := by simp only [pc1,e1,e2,e3]
 rw [ht,e4,e5,<- zcJ hw hh k (by (clear e4; omega)),List.drop_append_of_le_length (Nat.le_refl _),List.drop_length,List.nil_append]
 have e6 : List.take (w.w f.b) (dgs (v % 2 ^ w.w f.b) (w.w f.b) ++ t) = dgs (v % 2 ^ w.w f.b) (w.w f.b) := by
  rw [List.take_append_of_le_length (by rw [zau]; exact Nat.le_refl _),List.take_of_length_le (by rw [zau]; exact Nat.le_refl _)]
 rw [e6,zfb,Int.emod_emod]
section
variable {m : Sto}
theorem is_nn : isD .non .non m = .ok (.bl true) m := rfl
theorem isnt_nn : zge .non .non m = .ok (.bl false) m := rfl
end
theorem znY {fs : List Fd} {n a b : Int} {wys : List Wy} {m : Sto} (hs : zlr fs) (hn : fs.length <= 12) (hw : WyOk fs wys) : zeg [shD fs n,fmD a b wys] m = .ok (.int ((zdg fs wys).sum : Nat)) m := by
 apply zar
 unfold zeg zkg; erw [zar (zgh (by omega) hw.len)]; ac_nf
 have e : ((zdg fs wys).map fun k : Nat => D.int k) = ((zdg fs wys).map fun k : Nat => (k : Int)).map D.int := by rw [List.map_map]; rfl
 rw [e]; simp only [zpL,lOf,Option.bind_some,zch]
 have hok : ∀ x,x ∈ ((zdg fs wys).map fun k : Nat => (k : Int)) -> 0 <= x /\ x <= 2 ^ 50 := by
  intro x hx
  simp only [List.mem_map] at hx
  obtain ⟨k,hk,rfl⟩ := hx
  obtain ⟨i,hi⟩ := List.mem_iff_getElem?.mp hk
  have hil : i < fs.length := by have := (List.getElem?_eq_some_iff.mp hi).1; rw [zbY hw] at this; exact this
  have e1 := List.getElem?_eq_getElem hil
  have e2 := List.getElem?_eq_getElem (show i < wys.length by rw [hw.len]; exact hil)
  rw [zgI e1 e2] at hi
  cases hi
  have := Wy.w_le (hw.at' i _ _ e1 e2)
  have := (hs i _ e1).2.1
  (clear hn; omega)
 rw [if_pos ⟨hok,by rw [List.length_map,zbY hw]; omega⟩]; ac_nf
 refine Run.ok ⟨?_,rfl⟩
 congr 1
 generalize zdg fs wys = l
 induction l with
 | nil => rfl
 | cons x l ih => simp only [List.map_cons,List.sum_cons,ih]; (clear ih hn; omega)
theorem ix_sh {fs : List Fd} {n : Int} {m : Sto} : ixD (shD fs n) (.int 0) m = .ok (.tup (fs.map Fd.e)) m := ix_t0 _ _
open PySem L2
open PySem L2
theorem zjn {m l : Sto} {r : Nat} {o : MO} (h : m[r]? = some o) : (m ++ l)[r]? = some o := by
 rw [List.getElem?_append_left (List.getElem?_eq_some_iff.mp h).1]; exact h
theorem zlE {xs : List D} {m : Sto} (h : xs.length <= 1000) : zbi xs m = .ok (.tup xs) m := if_pos (Nat.le_trans h (by decide))
theorem cut_to {τ : Type} (xs : List τ) (k : Nat) : znE xs none (some (k : Int)) = xs.take k := by
 unfold znE; rw [HT.sIx_nat,HT.sIx_none,List.drop_zero,Nat.sub_zero]
 rcases Nat.le_total k xs.length with h | h
 ·rw [Nat.min_eq_left h]
 ·rw [Nat.min_eq_right h,List.take_length,List.take_of_length_le h]
theorem mul_t {d : D} {n : Int} {m : Sto} (h : 1 <= n /\ n <= 1000) : zc2 (.tup [d]) (.int n) m = .ok (.tup (List.replicate n.toNat d)) m := by rw [zfy]; exact if_pos h
open PySem L2
def kGI3 (ρ : En) : Unit -> Sto -> Res En := fun _ m => .ok ρ m
def kGI2 (ρ : En) (d x : D) : D -> Sto -> Res En := fun y m => (putL x y d m).bind (kGI3 ρ)
def kGI1 (fi : EV) (ρ : En) (d : D) : D -> Sto -> Res En := fun x m => (fi ρ m).bind (kGI2 ρ d x)
section
variable {m : Sto} {ρ : En} {d x y : D} {fo fi : EV}
theorem gI_at : gI fo fi d ρ m = (fo ρ m).bind (kGI1 fi ρ d) := rfl
theorem zm0 : kGI1 fi ρ d x m = (fi ρ m).bind (kGI2 ρ d x) := rfl
theorem zmZ : kGI2 ρ d x y m = (putL x y d m).bind (kGI3 ρ) := rfl
theorem zq5 : kGI3 ρ () m = .ok ρ m := rfl
theorem lst_6 (a b c e f g : D) : zc9 [a,b,c,e,f,g] m = .ok (.lst [a,b,c,e,f,g]) m := if_pos (zbq (by simp))
theorem zoF (a b c e f g i : D) : zc9 [a,b,c,e,f,g,i] m = .ok (.lst [a,b,c,e,f,g,i]) m := if_pos (zbq (by simp))
end
theorem alpha {j : Nat} {m : Sto} (h : j < 26) : ixD (.str "abcdefghijklmnopqrstuvwxyz") (.int j) m = .ok (.str ⟨#[97 + j]⟩) m := by
 have hc : ∀ j,j < 26 -> (Str.ofString "abcdefghijklmnopqrstuvwxyz").cps.toList[j]? = some (97 + j) := by decide
 have e : ixD (.str "abcdefghijklmnopqrstuvwxyz") (.int j) m = if (Str.ofString "abcdefghijklmnopqrstuvwxyz").length <= sizeLine then opt ((L2.atI (Str.ofString "abcdefghijklmnopqrstuvwxyz").cps.toList j).map fun c => D.str ⟨#[c]⟩) m else .bad := rfl
 rw [e,if_pos (by decide),zhu,hc j h]
 rfl
theorem add_ss {a b : Str} {m : Sto} (h : a.length + b.length <= sizeLine) : za2 (.str a) (.str b) m = .ok (.str (a ++ b)) m := if_pos h
theorem zfU {i n : Nat} {d : D} (h : (zcD 0 n)[i]? = some d) : d = .int (i : Nat) := by
 have hi := (List.getElem?_eq_some_iff.mp h).1
 rw [zaG] at hi
 simp only [zcD,List.getElem?_map,List.getElem?_range hi,Option.map_some,Option.some.injEq,Int.zero_add] at h
 exact h.symm
theorem zqM {b : Nat} {y d : Int} (h : (2 : Int) ^ b ∣ (2 * y + 1) * d) : (2 : Int) ^ b ∣ d := by
 induction b generalizing d with
 | zero => simp
 | succ b ih =>
  obtain ⟨c,hc⟩ := h
  rw [Int.pow_succ] at hc
  have h2 : d % 2 = 0 := by
   have e1 : (2 * y + 1) * d = 2 * (y * d) + d := by rw [Int.add_mul,Int.mul_assoc,Int.one_mul]
   have e2 : 2 ^ b * 2 * c = 2 * (2 ^ b * c) := by rw [Int.mul_comm (2 ^ b) 2,Int.mul_assoc]
   rw [e1,e2] at hc
   generalize y * d = u at hc; generalize (2 : Int) ^ b * c = w at hc
   omega
  obtain ⟨d',rfl⟩ : ∃ d',d = 2 * d' := ⟨d / 2,by omega⟩
  have h3 : (2 : Int) ^ b ∣ (2 * y + 1) * d' := by
   refine ⟨c,?_⟩
   have e1 : (2 * y + 1) * (2 * d') = 2 * ((2 * y + 1) * d') := by rw [Int.mul_left_comm]
   have e2 : 2 ^ b * 2 * c = 2 * (2 ^ b * c) := by rw [Int.mul_comm (2 ^ b) 2,Int.mul_assoc]
   rw [e1,e2] at hc
   omega
  obtain ⟨e,he⟩ := ih h3
  exact ⟨e,by rw [he,Int.pow_succ,Int.mul_comm (2 ^ b) 2,Int.mul_assoc]⟩
theorem zpT {b : Nat} {f y : Int} {i j : Nat} (hi : (i : Int) < 2 ^ b) (hj : (j : Int) < 2 ^ b) (h : (f + (2 * y + 1) * i) % 2 ^ b = (f + (2 * y + 1) * j) % 2 ^ b) : i = j := by
 have h1 : (2 : Int) ^ b ∣ (2 * y + 1) * ((i : Int) - j) := by
  have := Int.dvd_of_emod_eq_zero (Int.emod_eq_emod_iff_emod_sub_eq_zero.mp h)
  rw [show f + (2 * y + 1) * i - (f + (2 * y + 1) * j) = (2 * y + 1) * ((i : Int) - j) by rw [Int.mul_sub]; omega] at this
  exact this
 obtain ⟨c,hc⟩ := zqM h1
 have hb := p2 b
 generalize (2 : Int) ^ b = B at *
 rcases Int.lt_trichotomy c 0 with h0 | h0 | h0
 ·have : B * c <= B * (-1) := Int.mul_le_mul_of_nonneg_left (by omega) (by omega)
  omega
 ·subst h0; omega
 ·have : B * 1 <= B * c := Int.mul_le_mul_of_nonneg_left (by omega) (by omega)
  omega
theorem zmF {τ : Type} [DecidableEq τ] (g : Nat -> τ) : ∀ n,(∀ i j,i < n -> j < n -> g i = g j -> i = j) -> ((List.range n).map g).Nodup := fun n h => by
 rw [List.Nodup,List.pairwise_map]
 have := List.nodup_range (n := n)
 refine List.Pairwise.imp_of_mem ?_ this
 intro a b ha hb hab e
 exact hab (h a b (List.mem_range.mp ha) (List.mem_range.mp hb) e)
def Kd.Ok2 (pl b : Nat) (k : Kd) : Prop := k.Ok pl b /\ ∀ row,k = .turn row -> 2 <= row.length /\ row.Nodup
open PySem L2
theorem slen {n : Nat} (h : n <= 100) : n <= sizeLine := Nat.le_trans h (by decide)
open PySem L2
def chB (c : Nat) : Bool := decide (97 <= c /\ c <= 122)
def nmB (x : Str) : Bool := decide (1 <= x.length /\ x.length <= 8) && x.cps.toList.all chB
structure ShG (fs : List Fd) : Prop where
 at' : ∀ (i : Nat) (f : Fd),fs[i]? = some f -> 0 < f.b /\ f.b <= 40 /\ f.kd.Ok2 i f.b
 nm : ∀ x ∈ fs.map Fd.nm,nmB x = true /\ x.length <= 8
 nd : (fs.map Fd.nm).Nodup
theorem ShG.ok {fs : List Fd} (h : ShG fs) : zlr fs := fun i f hf => let ⟨a,b,c⟩ := h.at' i f hf; ⟨a,b,c.1⟩
open PySem L2
def zjx (q : Nat) (seed turn : Int) : List (L2.Key × D) := [(Sum.inr "own", .ob q),(Sum.inr "seed", .int seed),(Sum.inr "turn", .int turn)]
structure P3 (m0 : Sto) (p q : Nat) (c : Nat) (m : Sto) : Prop where
 ex : ∃ (own : List Int) (seed turn : Int),m[p]? = some (.dct (zjx q seed turn)) /\ m[q]? = some (.lst (own.map D.int)) /\ p ≠ q /\ own.length <= 63 /\ (∀ a ∈ own,0 <= a) /\ 0 <= seed /\ seed < 2 ^ 62 /\ 0 <= turn /\ turn <= c
 fr : Fr p q m0 m
theorem P3.more {m0 : Sto} {p q c c' : Nat} {m : Sto} (h : P3 m0 p q c m) (k : c <= c') : P3 m0 p q c' m := by
 obtain ⟨own,s,t,h1,h2,h3,h4,h5,h6,h7,h8,h9⟩ := h.ex
 exact ⟨⟨own,s,t,h1,h2,h3,h4,h5,h6,h7,h8,by (clear h8 h7 h6 h4 h3; omega)⟩,h.fr⟩
theorem P3.re {m0 : Sto} {p q c : Nat} {m : Sto} (h : P3 m0 p q c m) : P3 m p q c m := ⟨h.ex,Fr.refl⟩
theorem P3.via {m0 : Sto} {p q c c' : Nat} {m m' : Sto} (h : P3 m0 p q c m) (h' : P3 m p q c' m') : P3 m0 p q c' m' := ⟨h'.ex,h.fr.trans h'.fr⟩
theorem P3.lt {m0 : Sto} {p q c : Nat} {m : Sto} (h : P3 m0 p q c m) : p < m.length /\ q < m.length := by
 obtain ⟨own,s,t,h1,h2,_⟩ := h.ex
 exact ⟨(List.getElem?_eq_some_iff.mp h1).1,(List.getElem?_eq_some_iff.mp h2).1⟩
theorem P3.app {m0 : Sto} {p q c : Nat} {m r : Sto} (h : P3 m0 p q c m) : P3 m0 p q c (m ++ r) := by
 obtain ⟨own,s,t,h1,h2,h3⟩ := h.ex
 exact ⟨⟨own,s,t,by rw [List.getElem?_append_left (List.getElem?_eq_some_iff.mp h1).1]; exact h1,by rw [List.getElem?_append_left (List.getElem?_eq_some_iff.mp h2).1]; exact h2,h3⟩,by rw [List.length_append]; exact Nat.le_trans h.fr.len (Nat.le_add_right _ _),fun j a b d => by rw [List.getElem?_append_left (Nat.lt_of_lt_of_le a h.fr.len)]; exact h.fr.at' j a b d⟩
theorem P3.set {m0 : Sto} {p q c r : Nat} {m : Sto} {o : MO} (h : P3 m0 p q c m) (h0 : m0.length <= r) (h1 : r ≠ p) (h2 : r ≠ q) : P3 m0 p q c (m.set r o) := by
 obtain ⟨own,s,t,g1,g2,h3⟩ := h.ex
 exact ⟨⟨own,s,t,by rw [zaY h1]; exact g1,by rw [zaY h2]; exact g2,h3⟩,by rw [List.length_set]; exact h.fr.len,fun j a b d => by rw [zaY (by omega)]; exact h.fr.at' j a b d⟩
theorem P3.kept {m : Sto} {p q c r : Nat} {m' : Sto} {o : MO} (h : P3 m p q c m') (hr : m[r]? = some o) (h1 : r ≠ p) (h2 : r ≠ q) : m'[r]? = some o := by
 rw [h.fr.at' r (List.getElem?_eq_some_iff.mp hr).1 h1 h2]; exact hr
theorem zeq (q : Nat) (s t : Int) : zd8 (zjx q s t) (.inr "own") = some (.ob q) := rfl
theorem zpD (q : Nat) (s t : Int) : zd8 (zjx q s t) (.inr "seed") = some (.int s) := rfl
theorem zlx (q : Nat) (s t : Int) : zd8 (zjx q s t) (.inr "turn") = some (.int t) := rfl
theorem zqB (q : Nat) (s t v : Int) : zg5 (zjx q s t) (.inr "turn") (.int v) = zjx q s v := rfl
theorem zoX (q : Nat) (s t : Int) : (zjx q s t).length < sizeLine := by show 3 < sizeLine; decide
def zqC : TV := by walk_at "#vFvZvkwc$vv^wdB"
def ownB : SV := by walk_at "#vmyivko$"
theorem zmH {q : Nat} {own : List Int} {m : Sto} (h2 : m[q]? = some (.lst (own.map D.int))) : neD (.ob q) (.lst []) m = .ok (.bl (!decide (own = []))) m := by
 have e := zrf own []
 rw [List.map_nil] at e
 simp only [neD,rs,h2,e]
theorem zm7 {q : Nat} {a : Int} {own : List Int} {m : Sto} (h2 : m[q]? = some (.lst ((a :: own).map D.int))) : ixD (.ob q) (.int 0) m = .ok (.int a) m := by
 simp only [ixD,h2]
 show opt (atI _ ((0 : Nat) : Int)) m = _
 rw [zhu]
 rfl
theorem zj6 {p q : Nat} {seed turn : Int} {ρ : En} : ∀ (own : List Int) (n : Nat) (m : Sto),own.length < n -> m[p]? = some (.dct (zjx q seed turn)) -> m[q]? = some (.lst (own.map D.int)) -> p ≠ q →
  Run (zc8 zqC ownB n (some (.ob p) :: ρ) m) fun fl m' => fl = .nx (some (.ob p) :: ρ) /\ ∃ own' : List Int,(own' = [] ∨ ∃ a r,own' = a :: r /\ a ≠ 0) /\ (∀ a ∈ own',a ∈ own) /\ own'.length <= own.length /\ m'[p]? = some (.dct (zjx q seed turn)) /\ m'[q]? = some (.lst (own'.map D.int)) /\ Fr p q m m'
 | own,0,m,h,_,_,_ => absurd h (Nat.not_lt_zero _)
 | [],n + 1,m,h,h1,h2,h3 => by
  rw [zc8]
  have e : zqC (some (.ob p) :: ρ) m = .ok false m := by
   unfold zqC; erw [zcN h1 (zeq _ _ _)]; erw [zmH (own := []) h2]
   rfl
  rw [e,bind_ok,if_neg (by decide)]; exact Run.ok ⟨rfl,[],.inl rfl,fun _ h => h,Nat.le_refl _,h1,h2,Fr.refl⟩
 | a :: own,n + 1,m,h,h1,h2,h3 => by
  rw [zc8]
  have e : zqC (some (.ob p) :: ρ) m = .ok (decide (a = 0)) m := by
   unfold zqC; erw [zcN h1 (zeq _ _ _)]; erw [zmH h2]; rw [decide_eq_false (by simp)]; erw [zcN h1 (zeq _ _ _)]; erw [zm7 h2]; ac_nf
  rw [e,bind_ok]
  by_cases h0 : a = 0
  ·rw [if_pos (decide_eq_true h0)]
   have eb : ownB (some (.ob p) :: ρ) m = .ok (.nx (some (.ob p) :: ρ)) (m.set q (.lst (own.map D.int))) := by
    unfold ownB; erw [zcN h1 (zeq _ _ _)]; erw [if_pos (show zdU (.ob q) m = true by simp only [zdU,h2])]; erw [zl8 h2]; ac_nf
   rw [eb,bind_ok]
   refine Run.mono (zj6 own n (m.set q (.lst (own.map D.int))) (by simp at h; omega) (by rw [zaY (Ne.symm h3)]; exact h1) (zbN h2) h3) ?_
   rintro fl m' ⟨rfl,own',g1,g2,g3,g4,g5,g6⟩
   exact ⟨rfl,own',g1,fun x hx => List.mem_cons_of_mem _ (g2 x hx),by simp; omega,g4,g5,Fr.set'.trans g6⟩
  ·rw [if_neg (by simp [h0])]; exact Run.ok ⟨rfl,a :: own,.inr ⟨a,own,rfl,h0⟩,fun _ h => h,Nat.le_refl _,h1,h2,Fr.refl⟩
theorem zio : ziq = (zap (zdB zej zqC ownB)
 (zap (sIf (tV (eOp neD (eOp ixD (zae 0) (eC (.str "own"))) (eFn zc9 zaj)))
 (zap (zaB (eOp zc7 (eOp ixD (eOp ixD (zae 0) (eC (.str "own"))) (eC (.int 0))) (zae 1)) (gN 2))
 (zap (zaB (eOp zhn (eOp ixD (eOp ixD (zae 0) (eC (.str "own"))) (eC (.int 0))) (zae 1)) (gI (eOp ixD (zae 0) (eC (.str "own"))) (eC (.int 0))))
 (zaJ (zae 2))))
 zbG)
 (zap (zkR (zae 0) (eC (.str "turn")) (eOp za2 (eOp ixD (zae 0) (eC (.str "turn"))) (eC (.int 1))))
 (zap (zaB (eOp ixD (zae 0) (eC (.str "turn"))) (gN 3))
 (zap (zaB (eOp za2 (eOp za2 (eOp ixD (zae 0) (eC (.str "seed"))) (eOp zc2 (eOp zc2 (zae 3) (zae 3)) (eC (.int 7919)))) (eOp zc2 (zae 3) (eC (.int 104729)))) (gN 4))
 (zap (zaB (eOp zc7 (eOp zc2 (zae 4) (eC (.int 48271))) (eC (.int 2305843009213693921))) (gN 4))
 (zap (zaB (eOp zc7 (eOp zc2 (zae 4) (eOp za2 (eOp zc7 (zae 4) (eC (.int 1000003))) (eC (.int 69621)))) (eC (.int 2305843009213693907))) (gN 4))
 (zaJ (eOp zc7 (eOp zhn (zae 4) (eC (.int 65537))) (zae 1)))))))))) := rfl
theorem zp5 {q : Nat} {a b : Int} {own : List Int} {m : Sto} (h2 : m[q]? = some (.lst ((a :: own).map D.int))) : putL (.ob q) (.int 0) (.int b) m = .ok () (m.set q (.lst ((b :: own).map D.int))) := by
 have e : ixN ((a :: own).map D.int).length 0 = some 0 := by
  unfold ixN; rw [if_pos (by decide),if_pos (by simp)]
  rfl
 simp only [putL,h2,e]
 rfl
theorem zgJ {n : Nat} {t : TV} {b : SV} {ρ : En} {m : Sto} : zdB n t b ρ m = zc8 t b n ρ m := rfl
theorem zaV {m0 : Sto} {p q c : Nat} {k : Int} {m : Sto} (hp : P3 m0 p q c m) (hc : c < 2 ^ 40) (k0 : 0 < k) (k1 : k < 2 ^ 64) :
  Run (zaA [.ob p,.int k] m) fun a m' => ∃ d : Int,a = .int d /\ 0 <= d /\ d < k /\ P3 m p q (c + 1) m' := by
 obtain ⟨own,s,t,h1,h2,h3,h4,h5,h6,h7,h8,h9⟩ := hp.ex
 unfold zaA; rw [zio,run_at]
 show Run (Res.bind (zap (zdB zej zqC ownB) _ (some (.ob p) :: [some (.int k),none,none,none]) m) zkp) _
 rw [seq_at,zgJ,bind_then]; refine Run.bind (zj6 (ρ := [some (.int k),none,none,none]) own zej m (Nat.lt_of_le_of_lt h4 (by decide)) h1 h2 h3) ?_; rintro _ m1 ⟨rfl,own',g1,g2,g3,g4,g5,g6⟩; erw [zcN g4 (zeq _ _ _)]; erw [zmH g5]
 rcases g1 with rfl | ⟨a,r,rfl,a0⟩
 ·rw [decide_eq_true rfl]; erw [zcN g4 (zlx _ _ _)]; erw [zp6 g4 (zoX _ _ _),zqB]
  have hp2 : (m1.set p (.dct (zjx q s (t + 1))))[p]? = some (.dct (zjx q s (t + 1))) := zbN g4
  have hq2 : (m1.set p (.dct (zjx q s (t + 1))))[q]? = some (.lst (([] : List Int).map D.int)) := by rw [zaY h3]; exact g5
  have f2 : Fr p q m (m1.set p (.dct (zjx q s (t + 1)))) := g6.trans Fr.set
  generalize hm2 : m1.set p (.dct (zjx q s (t + 1))) = m2 at hp2 hq2 f2; erw [zcN hp2 (zlx _ _ _)]; erw [zcN hp2 (zpD _ _ _)]; erw [zgc ⟨by omega,by omega⟩]; erw [zhj ⟨by decide,by decide⟩]; erw [zgc ⟨by omega,by omega⟩]; erw [zhj ⟨by decide,by decide⟩]; erw [zbx (by decide)]; ac_nf
  rw [zbx (by decide)]; erw [zhj (zmL _)]; erw [zbx (by decide)]; erw [zrg ⟨by decide,by decide⟩]; erw [zbx k0]; ac_nf; exact Run.ok ⟨_,rfl,Int.emod_nonneg _ (by omega),Int.emod_lt_of_pos _ k0,⟨⟨[],s,t + 1,hp2,hq2,h3,by decide,fun _ h => (nomatch h),h6,h7,by omega,by omega⟩,f2⟩⟩
 ·rw [decide_eq_false (by simp)]; erw [zcN g4 (zeq _ _ _)]; erw [zm7 g5]; erw [zbx k0]; erw [zcN g4 (zeq _ _ _)]; erw [zm7 g5]; erw [zrg ⟨k0,k1⟩]; ac_nf; simp only [gI_at,zm0,zmZ,bind_ok,bind_then,eC_at,op_at,kop_at,var_0]; rw [zcN g4 (zeq _ _ _)]; simp only [bind_ok,then_at,zm0,zmZ,eC_at,bind_then]
  rw [zp5 g5]; simp only [bind_ok,then_at,zq5]; ac_nf
  have ha : 0 <= a := h5 a (g2 a (by simp))
  exact Run.ok ⟨_,rfl,Int.emod_nonneg _ (by omega),Int.emod_lt_of_pos _ k0,⟨⟨a / k :: r,s,t,by rw [zaY (Ne.symm h3)]; exact g4,zbN g5,h3,Nat.le_trans g3 h4,fun x hx => by
   rcases List.mem_cons.mp hx with rfl | hx
   ·exact Int.ediv_nonneg ha (by omega)
   ·exact h5 x (g2 x (List.mem_cons_of_mem _ hx)),h6,h7,h8,by omega⟩,g6.trans Fr.set'⟩⟩
theorem zb2 {m0 : Sto} {p q c : Nat} {m : Sto} {xs : List D} (hp : P3 m0 p q c m) (hc : c < 2 ^ 40) (h0 : 0 < xs.length) (h1 : xs.length < 1000) :
  Run (zaN [.ob p,.lst xs] m) fun a m' => a ∈ xs /\ P3 m p q (c + 1) m' := by
 unfold zaN znn; ac_nf; refine Run.bind (zaV hp hc (by omega) (by omega)) ?_; rintro _ m1 ⟨d,rfl,d0,d1,hp1⟩; ac_nf
 obtain ⟨x,hx,e⟩ := zpn (m := m1) (xs := xs) d0 d1
 rw [e]; exact Run.ok ⟨hx,hp1⟩
theorem zea {m0 : Sto} {p q c b : Nat} {m : Sto} (hp : P3 m0 p q c m) (hc : c + 2 < 2 ^ 40) (hb : b <= 40) :
  Run (zba [.ob p,.int b] m) fun a m' => ∃ v : Int,a = .int v /\ 0 <= v /\ v < 2 ^ b /\ P3 m p q (c + 2) m' := by
 have hB := p2 b
 have hB2 := p2lt hb
 unfold zba zfP; erw [zdy (by omega)]; erw [zdy (by omega)]; ac_nf; refine Run.bind (zaV hp (by omega) hB hB2) ?_; rintro _ m1 ⟨x,rfl,x0,x1,hp1⟩; ac_nf; refine Run.bind (zaV hp1 (by omega) (by decide) (by decide)) ?_; rintro _ m2 ⟨y,rfl,y0,y1,hp2⟩; ac_nf
 obtain ⟨v,hv,e⟩ := zpn (m := m2) (xs := [.int 0,.int 1,.int (2 ^ b - 1),.int x]) y0 y1
 rw [e]; ac_nf
 have hv' : ∃ n : Int,v = .int n := by
  simp only [List.mem_cons,List.not_mem_nil,or_false] at hv
  rcases hv with rfl | rfl | rfl | rfl <;> exact ⟨_,rfl⟩
 obtain ⟨n,rfl⟩ := hv'
 rw [zdy (by omega)]; erw [zbx hB]; ac_nf; exact Run.ok ⟨_,rfl,Int.emod_nonneg _ (by omega),Int.emod_lt_of_pos _ hB,hp1.via hp2⟩
theorem neg_n (n : Int) {m : Sto} : negD (.int n) m = .ok (.int (-n)) m := rfl
theorem zmY {m0 : Sto} {p q c : Nat} {m : Sto} {pl b : Nat} (hp : P3 m0 p q c m) (hc : c + 8 < 2 ^ 40) (h1 : 0 < b) (h2 : b <= 40) (hpl : pl <= 100) :
  Run (zcQ [.ob p,.int pl,.int b] m) fun a m' => ∃ kd : Kd,a = kd.e /\ kd.Ok2 pl b /\ P3 m p q (c + 8) m' := by
 have hB := p2 b
 have hB2 := p2lt h2
 have hB4 := p2le h2
 have hB3 : (2 : Int) <= 2 ^ b := by
  have := Nat.pow_le_pow_right (n := 2) (by decide) h1
  exact_mod_cast this
 unfold zcQ zgx; ac_nf; refine Run.bind (zaV hp (by omega) (by decide) (by decide)) ?_; rintro _ m1 ⟨w,rfl,w0,w1,hp1⟩; ac_nf
 by_cases c1 : w < 2
 ·rw [if_pos c1]; ac_nf; exact Run.ok ⟨.still,rfl,⟨trivial,fun _ h => by cases h⟩,hp1.more (by omega)⟩
 rw [if_neg c1]; ac_nf
 by_cases c2 : w < 4
 ·rw [if_pos c2]; ac_nf; refine Run.bind (zea hp1 (by omega) h2) ?_; rintro _ m2 ⟨x,rfl,x0,x1,hp2⟩; ac_nf; exact Run.ok ⟨.step x,rfl,⟨⟨x0,x1⟩,fun _ h => by cases h⟩,(hp1.via hp2).more (by omega)⟩
 rw [if_neg c2]; ac_nf
 by_cases c3 : w = 4
 ·rw [if_pos c3]; ac_nf; refine Run.bind (zaV hp1 (by omega) (by decide) (by decide)) ?_; rintro _ m2 ⟨x,rfl,x0,x1,hp2⟩; erw [zdy (by omega)]; erw [zdy (by omega)]; ac_nf; refine Run.bind (zaV hp2 (by omega) hB hB2) ?_; rintro _ m3 ⟨y,rfl,y0,y1,hp3⟩; ac_nf; refine Run.bind (zaV hp3 (by omega) (by decide) (by decide)) ?_; rintro _ m4 ⟨z,rfl,z0,z1,hp4⟩
  erw [zgc ⟨by decide,by decide⟩]; ac_nf; generalize hn : (if (2 : Int) ^ b < 2 + x then (2 : Int) ^ b else 2 + x) = n
  have n0 : 2 <= n := by rw [<- hn]; split <;> omega
  have n1 : n <= 12 := by rw [<- hn]; split <;> omega
  have n2 : n <= 2 ^ b := by rw [<- hn]; split <;> omega
  clear hn
  obtain ⟨N,rfl⟩ : ∃ N : Nat,n = N := ⟨n.toNat,by omega⟩
  rw [zd6 (ds := zcD 0 N) (fun d => match d with | .int i => .int ((y + (2 * z + 1) * i) % 2 ^ b) | _ => .non)]
  ·ac_nf
   refine Run.ok ⟨.turn ((List.range N).map fun i : Nat => (y + (2 * z + 1) * (i : Int)) % 2 ^ b),?_,⟨⟨?_,by simp; omega,?_⟩,fun row h => ?_⟩,(hp1.via (hp2.via (hp3.via hp4))).more (by omega)⟩
   ·simp only [Kd.e,zcD,List.map_map,Int.zero_add]; rfl
   ·intro h
    have := congrArg List.length h
    simp at this
    omega
   ·intro v hv
    simp only [List.mem_map] at hv
    obtain ⟨i,_,rfl⟩ := hv
    exact ⟨Int.emod_nonneg _ (by omega),Int.emod_lt_of_pos _ hB⟩
   ·cases h
    exact ⟨by simp; omega,zmF _ _ fun i j hi hj e => zpT (by omega) (by omega) e⟩
  ·erw [zdL (by omega) (by omega)]
   rfl
  ·rw [zaG]; omega
  ·intro d hd
   simp only [zcD,List.mem_map] at hd
   obtain ⟨i,hi,rfl⟩ := hd
   refine ⟨_,rfl,?_⟩
   show eOp zc7 (eOp za2 (zae 5) (eOp zc2 (zae 6) (zae 8))) (eOp zhD (eC (.int 1)) (zae 2)) [some (.ob p),some (.int pl),some (.int b),some (.int w),some (.int N),some (.int y),some (.int (2 * z + 1)),none,some (.int (0 + (i : Nat)))] m4 = _
   erw [zgc ⟨by omega,by omega⟩]; erw [zdy (by omega)]; erw [zbx hB]
 rw [if_neg c3]; ac_nf
 by_cases c4 : w < 7 /\ 0 < pl
 ·rw [if_pos c4.1]; rw [decide_eq_true (show (0 : Int) < (pl : Nat) by omega)]; erw [neg_n]; erw [neg_n]; ac_nf; refine Run.bind (zaV hp1 (by omega) (by decide) (by decide)) ?_; rintro _ m2 ⟨x,rfl,x0,x1,hp2⟩; erw [zoF]; ac_nf; refine Run.bind (zaV hp2 (by omega) (by omega) (by omega)) ?_; rintro _ m3 ⟨y,rfl,y0,y1,hp3⟩; ac_nf
  refine Run.bind (zb2 hp3 (by omega) (by simp) (by simp)) ?_; rintro v m4 ⟨hv,hp4⟩; ac_nf
  obtain ⟨i,rfl⟩ : ∃ i : Nat,y = i := ⟨y.toNat,by omega⟩
  have hv' : ∃ t : Int,v = .int t /\ -99 <= t /\ t <= 99 := by
   simp only [List.mem_cons,List.not_mem_nil,or_false] at hv
   rcases hv with rfl | rfl | rfl | rfl | rfl | rfl | rfl <;> exact ⟨_,rfl,by omega,by omega⟩
  obtain ⟨t,rfl,t0,t1⟩ := hv'
  exact Run.ok ⟨.wth i t,rfl,⟨⟨by omega,t0,t1⟩,fun _ h => by cases h⟩,(hp1.via (hp2.via (hp3.via hp4))).more (by omega)⟩
 ·have hd : Run (Res.bind (zap zbG (zaJ (eFn zbi (zac (eC (.str "drawn")) zaj))) [some (.ob p),some (.int pl),some (.int b),some (.int w),none,none,none,none] m1) zkp) fun a m' => ∃ kd : Kd,a = kd.e /\ kd.Ok2 pl b /\ P3 m p q (c + 8) m' := by
   ac_nf; exact Run.ok ⟨.drawn,rfl,⟨trivial,fun _ h => by cases h⟩,hp1.more (by omega)⟩
  by_cases c5 : w < 7
  ·rw [if_pos c5]; rw [decide_eq_false (show ¬ (0 : Int) < (pl : Nat) by omega)]; ac_nf; exact Run.ok ⟨.drawn,rfl,⟨trivial,fun _ h => by cases h⟩,hp1.more (by omega)⟩
  ·rw [if_neg c5]; ac_nf; exact Run.ok ⟨.drawn,rfl,⟨trivial,fun _ h => by cases h⟩,hp1.more (by omega)⟩
theorem zjW (c : Nat) : ∀ (k : Nat) (a : Array Nat),((List.replicate k #[c]).foldl (· ++ ·) a).toList = a.toList ++ List.replicate k c
 | 0,a => by simp
 | k + 1,a => by
  rw [List.replicate_succ,List.foldl_cons,zjW c k]
  simp [List.replicate_succ]
theorem mul_one {c : Nat} {n : Nat} (h : 1 <= n) : (Txt.mul ⟨#[c]⟩ (n : Nat)).cps.toList = List.replicate n c := by
 unfold Txt.mul
 rw [if_neg (by omega)]
 split
 ·rename_i h2
  have : n = 1 := by
   rw [Bool.or_eq_true] at h2
   rcases h2 with h2 | h2
   ·have := eq_of_beq h2
    omega
   ·exact absurd (eq_of_beq h2) (by show ¬ 1 = 0; decide)
  subst this
  rfl
 ·show ((List.replicate (n : Int).toNat #[c]).foldl (· ++ ·) #[]).toList = _
  rw [zjW]
  simp
theorem nm_mul {j n : Nat} (hj : j < 26) (h1 : 1 <= n) (h2 : n <= 8) : nmB (Txt.mul ⟨#[97 + j]⟩ (n : Nat)) = true /\ (Txt.mul ⟨#[97 + j]⟩ (n : Nat)).length <= 8 /\ (Txt.mul ⟨#[97 + j]⟩ (n : Nat)).cps.toList.head? = some (97 + j) := by
 have e := mul_one (c := 97 + j) h1
 have hl : (Txt.mul ⟨#[97 + j]⟩ (n : Nat)).length = n := by
  show (Txt.mul ⟨#[97 + j]⟩ (n : Nat)).cps.size = n
  rw [<- Array.length_toList,e,List.length_replicate]
 refine ⟨?_,by omega,?_⟩
 ·unfold nmB; rw [hl,e,decide_eq_true ⟨h1,h2⟩,Bool.true_and,List.all_eq_true]
  intro x hx
  have := (List.mem_replicate.mp hx).2
  subst this
  simp only [chB,decide_eq_true_eq]
  omega
 ·rw [e]
  cases n with
  | zero => omega
  | succ n => rfl
theorem lst_8 (a b c e f g i j : D) {m : Sto} : zc9 [a,b,c,e,f,g,i,j] m = .ok (.lst [a,b,c,e,f,g,i,j]) m := if_pos (zbq (by simp))
theorem zkM {m0 : Sto} {p q c most : Nat} {m : Sto} (hp : P3 m0 p q c m) (hc : c + 200 < 2 ^ 40) (hm0 : 0 < most) (hm1 : most <= 12) :
  Run (zcf [.ob p,.int most] m) fun a m' => ∃ (fs : List Fd) (n : Int),a = shD fs n /\ 0 < n /\ n <= 1000000 /\ 0 < fs.length /\ fs.length <= 12 /\ ShG fs /\ P3 m p q (c + 200) m' := by
 unfold zcf zfQ; ac_nf; refine Run.bind (zaV hp (by omega) (by decide) (by decide)) ?_; rintro _ m1 ⟨f,rfl,f0,f1,hp1⟩
 obtain ⟨f,rfl⟩ : ∃ f' : Nat,f = f' := ⟨f.toNat,by omega⟩
 erw [zqQ]; ac_nf
 have hpA : P3 m p q (c + 1) (m1 ++ [.lst []]) := hp1.app
 have hr : (m1 ++ [MO.lst []])[m1.length]? = some (.lst []) := by simp
 have hrp : m1.length ≠ p := Nat.ne_of_gt hp1.lt.1
 have hrq : m1.length ≠ q := Nat.ne_of_gt hp1.lt.2
 have hr0 : m.length <= m1.length := hp1.fr.len
 generalize m1.length = r at hr hrp hrq hr0 ⊢; generalize m1 ++ [MO.lst []] = mA at hpA hr ⊢; refine Run.bind (zaV hpA (by omega) (by omega) (by omega)) ?_; rintro _ m2 ⟨k,rfl,k0,k1,hp2⟩
 obtain ⟨k,rfl⟩ : ∃ k' : Nat,k = k' := ⟨k.toNat,by omega⟩
 have hr2 := hp2.kept hr hrp hrq
 have hpB := hpA.via hp2
 erw [zdL (by omega) (by omega)]; ac_nf; refine Run.bind (zaW (fun i ρ m' => ∃ (fs : List Fd) (x5 x6 x7 : Option D),ρ = [some (.ob p),some (.int most),some (.str "abcdefghijklmnopqrstuvwxyz"),some (.int f),some (.ob r),x5,x6,x7] /\ m'[r]? = some (.lst (fs.map Fd.e)) /\ fs.length = i /\ (∀ (j : Nat) (g : Fd),fs[j]? = some g -> (0 < g.b /\ g.b <= 40 /\ g.kd.Ok2 j g.b) /\ nmB g.nm = true /\ g.nm.length <= 8 /\ g.nm.cps.toList.head? = some (97 + (f + 3 * j) % 26)) /\ P3 m p q (c + 2 + 9 * i) m') (zcD 0 (1 + (k : Int)).toNat) 0 ⟨[],none,none,none,rfl,hr2,rfl,fun j g h => by simp at h,hpB⟩ ?_) ?_
 ·rintro i d ρ m3 hd ⟨fs,x5,x6,x7,rfl,g1,g2,g3,g4⟩
  have hi := (List.getElem?_eq_some_iff.mp hd).1
  rw [zaG] at hi
  have := zfU hd
  subst this
  rw [Nat.zero_add] at g2 g4 ⊢
  erw [lst_8]; ac_nf; refine Run.bind (zb2 g4 (by omega) (by simp) (by simp)) ?_; rintro v m4 ⟨hv,hp4⟩
  have hv' : ∃ b : Nat,v = .int b /\ 0 < b /\ b <= 40 := by
   simp only [List.mem_cons,List.not_mem_nil,or_false] at hv
   rcases hv with rfl | rfl | rfl | rfl | rfl | rfl | rfl | rfl
   ·exact ⟨1,rfl,by decide,by decide⟩
   ·exact ⟨2,rfl,by decide,by decide⟩
   ·exact ⟨3,rfl,by decide,by decide⟩
   ·exact ⟨4,rfl,by decide,by decide⟩
   ·exact ⟨5,rfl,by decide,by decide⟩
   ·exact ⟨8,rfl,by decide,by decide⟩
   ·exact ⟨16,rfl,by decide,by decide⟩
   ·exact ⟨40,rfl,by decide,by decide⟩
  obtain ⟨b,rfl,b0,b1⟩ := hv'
  erw [zgc ⟨by decide,by decide⟩]; erw [zbx (by decide)]; erw [show ((f : Int) + 3 * (i : Nat)) % 26 = (((f + 3 * i) % 26 : Nat) : Int) by push_cast; rfl,alpha (Nat.mod_lt _ (by decide))]; erw [zbx (by decide)]; erw [show (1 : Int) + ((f : Int) + (i : Nat)) % 8 = ((1 + (f + i) % 8 : Nat) : Int) by push_cast; rfl,mul_s (by rfl) (by omega) (by omega)]
  ac_nf
  have g1' := hp4.kept g1 hrp hrq
  rw [if_pos (zna g1')]; ac_nf; refine Run.bind (zmY hp4 (by omega) b0 b1 (by omega)) ?_; rintro _ m5 ⟨kd,rfl,hk,hp5⟩
  have g1'' := hp5.kept g1' hrp hrq
  erw [zkA g1'' (by rw [List.length_map]; exact zcj (by omega))]; ac_nf
  obtain ⟨n1,n2,n3⟩ := nm_mul (j := (f + 3 * i) % 26) (n := 1 + (f + i) % 8) (Nat.mod_lt _ (by decide)) (by omega) (by omega)
  refine Run.ok ⟨_,rfl,fs ++ [⟨Txt.mul ⟨#[97 + (f + 3 * i) % 26]⟩ ((1 + (f + i) % 8 : Nat) : Int),b,kd⟩],_,_,_,rfl,?_,?_,?_,?_⟩
  ·rw [zbN g1'',List.map_append]
   rfl
  ·rw [List.length_append,g2]; rfl
  ·intro j g hg
   rcases Nat.lt_trichotomy j fs.length with hj | hj | hj
   ·rw [List.getElem?_append_left hj] at hg; exact g3 j g hg
   ·subst hj
    simp at hg
    subst hg
    exact ⟨⟨b0,b1,by rw [g2]; exact hk⟩,n1,n2,by rw [g2]; exact n3⟩
   ·rw [List.getElem?_eq_none (by simp; omega)] at hg; cases hg
  ·refine P3.set ((g4.via (hp4.via hp5)).more (by omega)) hr0 hrp hrq
 ·rintro _ m3 ⟨ρ,rfl,fs,x5,x6,x7,rfl,g1,g2,g3,g4⟩
  rw [Nat.zero_add,zaG] at g2 g4
  ac_nf; simp only [zjJ,g1]; erw [pow106]; erw [lst_8]; ac_nf; refine Run.bind (zb2 g4 (by omega) (by simp) (by simp)) ?_; rintro v m4 ⟨hv,hp4⟩
  have hv' : ∃ n : Int,v = .int n /\ 0 < n /\ n <= 1000000 := by
   simp only [List.mem_cons,List.not_mem_nil,or_false] at hv
   rcases hv with rfl | rfl | rfl | rfl | rfl | rfl | rfl | rfl <;> exact ⟨_,rfl,by omega,by omega⟩
  obtain ⟨n,rfl,n0,n1⟩ := hv'
  ac_nf
  have hfl : fs.length <= 12 := by omega
  refine Run.ok ⟨fs,n,rfl,n0,n1,by omega,hfl,⟨fun j g h => (g3 j g h).1,fun x hx => ?_,?_⟩,(g4.via hp4).more (by omega)⟩
  ·obtain ⟨g,hg,rfl⟩ := List.mem_map.mp hx
   obtain ⟨j,hj⟩ := List.mem_iff_getElem?.mp hg
   exact ⟨(g3 j g hj).2.1,(g3 j g hj).2.2.1⟩
  ·rw [List.Nodup,List.pairwise_map,List.pairwise_iff_getElem]
   intro i j hi hj hij e
   have a1 := (g3 i fs[i] (List.getElem?_eq_getElem hi)).2.2.2
   have a2 := (g3 j fs[j] (List.getElem?_eq_getElem hj)).2.2.2
   rw [e,a2] at a1
   have := Option.some.inj a1
   omega
structure Fm where
 a : Nat
 b : Nat
 wys : List Wy
def Fm.e (f : Fm) : D := fmD f.a f.b f.wys
structure FmOk (fs : List Fd) (f : Fm) : Prop where
 a0 : 0 < f.a
 a1 : f.a <= 40
 b0 : 0 < f.b
 b1 : f.b <= 40
 wy : WyOk fs f.wys
structure Rd4 where
 skips : Nat
 gap : Nat
 late : Nat
 anew : Nat
def Rd4.e (r : Rd4) : D := .tup [.int r.skips,.int r.gap,.int r.late,.int r.anew]
structure RdOk (r : Rd4) : Prop where
 s1 : r.skips <= 39
 g0 : r.skips <= r.gap
 g1 : r.gap <= 400
 l1 : r.late <= 20
 n1 : r.anew <= 400
structure Pt where
 fs : List Fd
 n : Int
 wide : Nat
 fms : List Fm
 rd : Rd4
def Pt.e (p : Pt) : D := .tup [shD p.fs p.n,.int p.wide,.tup (p.fms.map Fm.e),p.rd.e]
structure PtOk (p : Pt) : Prop where
 n0 : 0 < p.n
 n1 : p.n <= 1000000
 f0 : 0 < p.fs.length
 f1 : p.fs.length <= 12
 sh : ShG p.fs
 w0 : 0 < p.wide
 w1 : p.wide <= 40
 fm : ∀ f ∈ p.fms,FmOk p.fs f
 fml : p.fms.length <= 12
 rd : RdOk p.rd
theorem znT {m0 : Sto} {p q c b : Nat} {m : Sto} (hp : P3 m0 p q c m) (hc : c + 5 < 2 ^ 40) (h0 : 0 < b) (h1 : b <= 40) :
  Run (zdY [.ob p,.int b] m) fun a m' => ∃ wy : Wy,a = wy.e /\ wy.Ok b /\ P3 m p q (c + 4) m' := by
 unfold zdY zil; ac_nf; refine Run.bind (zaV hp (by omega) (by decide) (by decide)) ?_; rintro _ m1 ⟨x,rfl,x0,x1,hp1⟩; ac_nf
 by_cases c1 : x < 3
 ·rw [if_pos c1]; ac_nf; exact Run.ok ⟨.keep,rfl,trivial,hp1.more (by omega)⟩
 rw [if_neg c1]; ac_nf
 by_cases c2 : x = 3
 ·rw [if_pos c2]; ac_nf; exact Run.ok ⟨.whole,rfl,trivial,hp1.more (by omega)⟩
 rw [if_neg c2]; ac_nf; refine Run.bind (zaV hp1 (by omega) (by omega) (by omega)) ?_; rintro _ m2 ⟨y,rfl,y0,y1,hp2⟩
 obtain ⟨w,hw⟩ : ∃ w : Nat,1 + y = w := ⟨(1 + y).toNat,by omega⟩
 erw [hw]; refine Run.bind (zea hp2 (by omega) (b := w) (by omega)) ?_; rintro _ m3 ⟨v,rfl,v0,v1,hp3⟩; ac_nf; exact Run.ok ⟨.low w v,rfl,⟨by omega,by omega,v0,v1⟩,(hp1.via (hp2.via hp3)).more (by omega)⟩
theorem lst_9 (a b c e f g i j k : D) {m : Sto} : zc9 [a,b,c,e,f,g,i,j,k] m = .ok (.lst [a,b,c,e,f,g,i,j,k]) m := if_pos (slen (by simp))
theorem znq {m0 : Sto} {p q c : Nat} {m : Sto} {fs : List Fd} {n : Int} (hp : P3 m0 p q c m) (hc : c + 62 < 2 ^ 40) (hs : zlr fs) (hn : fs.length <= 12) :
  Run (zcg [.ob p,shD fs n] m) fun x m' => ∃ f : Fm,x = f.e /\ FmOk fs f /\ P3 m p q (c + 62) m' := by
 unfold zcg zgy shD; ac_nf; refine Run.bind (zfW (ds := fs.map Fd.e) (fun k m' => P3 m p q (c + 5 * k) m') (fun i d x => ∃ w : Wy,x = w.e /\ ∀ f,fs[i]? = some f -> w.Ok f.b) (by ac_nf) (by rw [List.length_map]; omega) hp.re ?_) ?_
 ·intro i d m' hd hI
  have hi : i < fs.length := by have := (List.getElem?_eq_some_iff.mp hd).1; simpa using this
  have e1 := List.getElem?_eq_getElem hi
  have hd' : d = fs[i].e := by
   rw [List.getElem?_map,e1] at hd
   simpa using hd.symm
  subst hd'
  obtain ⟨b0,b1,hk⟩ := hs i _ e1
  simp only [Fd.e]; ac_nf
  refine Run.mono (znT hI (by omega) b0 b1) ?_
  rintro a m3 ⟨w,rfl,hw,hp3⟩
  exact ⟨⟨w,rfl,fun f hf => by rw [e1] at hf; cases hf; exact hw⟩,(hI.via hp3).more (by omega)⟩
 ·rintro xs m' ⟨hlen,hP,hI⟩; ac_nf
  rw [List.length_map] at hlen hI
  obtain ⟨l,rfl,hl⟩ := lift Wy.e (fun i w => ∀ f,fs[i]? = some f -> Wy.Ok f.b w) xs 0 fun i x hx => by
   have hi : i < fs.length := by have := (List.getElem?_eq_some_iff.mp hx).1; omega
   rw [Nat.zero_add]
   exact hP i fs[i].e x (by rw [List.getElem?_map,List.getElem?_eq_getElem hi]; rfl) hx
  rw [zoF]; ac_nf; refine Run.bind (zb2 hI (by omega) (by simp) (by simp)) ?_; rintro v m2 ⟨hv,hp2⟩; erw [lst_9]; ac_nf; refine Run.bind (zb2 hp2 (by omega) (by simp) (by simp)) ?_; rintro u m3 ⟨hu,hp3⟩; ac_nf
  have hv' : ∃ a : Nat,v = .int a /\ 0 < a /\ a <= 40 := by
   simp only [List.mem_cons,List.not_mem_nil,or_false] at hv
   rcases hv with rfl | rfl | rfl | rfl | rfl | rfl | rfl
   ·exact ⟨1,rfl,by decide,by decide⟩
   ·exact ⟨2,rfl,by decide,by decide⟩
   ·exact ⟨3,rfl,by decide,by decide⟩
   ·exact ⟨4,rfl,by decide,by decide⟩
   ·exact ⟨6,rfl,by decide,by decide⟩
   ·exact ⟨9,rfl,by decide,by decide⟩
   ·exact ⟨40,rfl,by decide,by decide⟩
  have hu' : ∃ a : Nat,u = .int a /\ 0 < a /\ a <= 40 := by
   simp only [List.mem_cons,List.not_mem_nil,or_false] at hu
   rcases hu with rfl | rfl | rfl | rfl | rfl | rfl | rfl | rfl | rfl
   ·exact ⟨1,rfl,by decide,by decide⟩
   ·exact ⟨2,rfl,by decide,by decide⟩
   ·exact ⟨3,rfl,by decide,by decide⟩
   ·exact ⟨4,rfl,by decide,by decide⟩
   ·exact ⟨5,rfl,by decide,by decide⟩
   ·exact ⟨6,rfl,by decide,by decide⟩
   ·exact ⟨8,rfl,by decide,by decide⟩
   ·exact ⟨12,rfl,by decide,by decide⟩
   ·exact ⟨40,rfl,by decide,by decide⟩
  obtain ⟨a,rfl,a0,a1⟩ := hv'
  obtain ⟨b,rfl,b0,b1⟩ := hu'
  refine Run.ok ⟨⟨a,b,l⟩,rfl,⟨a0,a1,b0,b1,⟨by simpa using hlen,fun i f v hf hv => ?_⟩⟩,(hI.via (hp2.via hp3)).more (by omega)⟩
  have := hl i v hv
  rw [Nat.zero_add] at this
  exact this f hf
theorem zn9 {m0 : Sto} {p q c : Nat} {m : Sto} (hp : P3 m0 p q c m) (hc : c + 4 < 2 ^ 40) :
  Run (zdZ [.ob p] m) fun x m' => ∃ r : Rd4,x = r.e /\ RdOk r /\ P3 m p q (c + 4) m' := by
 unfold zdZ zim; erw [zoF]; ac_nf; refine Run.bind (zb2 hp (by omega) (by simp) (by simp)) ?_; rintro v m1 ⟨hv,hp1⟩
 have hv' : ∃ s : Nat,v = .int s /\ s <= 39 := by
  simp only [List.mem_cons,List.not_mem_nil,or_false] at hv
  rcases hv with rfl | rfl | rfl | rfl | rfl | rfl | rfl
  ·exact ⟨0,rfl,by decide⟩
  ·exact ⟨0,rfl,by decide⟩
  ·exact ⟨1,rfl,by decide⟩
  ·exact ⟨2,rfl,by decide⟩
  ·exact ⟨3,rfl,by decide⟩
  ·exact ⟨5,rfl,by decide⟩
  ·exact ⟨39,rfl,by decide⟩
 obtain ⟨s,rfl,s1⟩ := hv'
 ac_nf; refine Run.bind (zb2 hp1 (by omega) (by simp) (by simp)) ?_; rintro v m2 ⟨hv,hp2⟩
 have hv' : ∃ g : Nat,v = .int g /\ g <= 361 := by
  simp only [List.mem_cons,List.not_mem_nil,or_false] at hv
  rcases hv with rfl | rfl | rfl | rfl | rfl
  ·exact ⟨0,rfl,by decide⟩
  ·exact ⟨1,rfl,by decide⟩
  ·exact ⟨4,rfl,by decide⟩
  ·exact ⟨30,rfl,by decide⟩
  ·exact ⟨361,rfl,by decide⟩
 obtain ⟨g,rfl,g1⟩ := hv'
 erw [lst_6]; ac_nf; refine Run.bind (zb2 hp2 (by omega) (by simp) (by simp)) ?_; rintro v m3 ⟨hv,hp3⟩
 have hv' : ∃ l : Nat,v = .int l /\ l <= 20 := by
  simp only [List.mem_cons,List.not_mem_nil,or_false] at hv
  rcases hv with rfl | rfl | rfl | rfl | rfl | rfl
  ·exact ⟨0,rfl,by decide⟩
  ·exact ⟨0,rfl,by decide⟩
  ·exact ⟨1,rfl,by decide⟩
  ·exact ⟨2,rfl,by decide⟩
  ·exact ⟨5,rfl,by decide⟩
  ·exact ⟨20,rfl,by decide⟩
 obtain ⟨l,rfl,l1⟩ := hv'
 erw [zoF]; ac_nf; refine Run.bind (zb2 hp3 (by omega) (by simp) (by simp)) ?_; rintro v m4 ⟨hv,hp4⟩
 have hv' : ∃ a : Nat,v = .int a /\ a <= 400 := by
  simp only [List.mem_cons,List.not_mem_nil,or_false] at hv
  rcases hv with rfl | rfl | rfl | rfl | rfl | rfl | rfl
  ·exact ⟨0,rfl,by decide⟩
  ·exact ⟨0,rfl,by decide⟩
  ·exact ⟨0,rfl,by decide⟩
  ·exact ⟨7,rfl,by decide⟩
  ·exact ⟨30,rfl,by decide⟩
  ·exact ⟨1,rfl,by decide⟩
  ·exact ⟨400,rfl,by decide⟩
 obtain ⟨a,rfl,a1⟩ := hv'
 erw [zlE (by simp)]; ac_nf; exact Run.ok ⟨⟨s,s + g,l,a⟩,by simp [Rd4.e],⟨s1,by show s <= s + g; omega,by show s + g <= 400; omega,l1,a1⟩,(hp1.via (hp2.via (hp3.via hp4))).more (by omega)⟩
theorem zmj {m0 : Sto} {p q c most : Nat} {m : Sto} (hp : P3 m0 p q c m) (hc : c + 1000 < 2 ^ 40) (hm0 : 0 < most) (hm1 : most <= 12) :
  Run (zc3 [.ob p,.int most] m) fun x m' => ∃ pt : Pt,x = pt.e /\ PtOk pt /\ 9 <= pt.wide /\ P3 m p q (c + 1000) m' := by
 unfold zc3 zin; ac_nf; refine Run.bind (zkM hp (by omega) hm0 hm1) ?_; rintro _ m1 ⟨fs,n,rfl,n0,n1,f0,f1,hs,hp1⟩; ac_nf
 have hk : Run (zcw 1 (zkB ziV (zac (eFn zaN (zac (zae 0) (zac (eFn zc9 (zac (eC (.int 0)) (zac (eC (.int 1)) (zac (eC (.int 2)) (zac (eC (.int 3)) (zac (eC (.int 5)) (zac (eC (.int 12)) zaj))))))) zaj))) zaj)) (gN 4) zcG (eFn zcg (zac (zae 0) (zac (zae 2) zaj))) [some (.ob p),some (.int most),some (shD fs n),none] m1) fun xs m' => ∃ fms : List Fm,xs = fms.map Fm.e /\ (∀ f ∈ fms,FmOk fs f) /\ fms.length <= 12 /\ P3 m p q (c + 950) m' := by
  unfold zcw; erw [lst_6]; ac_nf; refine Run.bind (zb2 hp1 (by omega) (by simp) (by simp)) ?_; rintro v m2 ⟨hv,hp2⟩
  have hv' : ∃ k : Nat,v = .int k /\ k <= 12 := by
   simp only [List.mem_cons,List.not_mem_nil,or_false] at hv
   rcases hv with rfl | rfl | rfl | rfl | rfl | rfl
   ·exact ⟨0,rfl,by decide⟩
   ·exact ⟨1,rfl,by decide⟩
   ·exact ⟨2,rfl,by decide⟩
   ·exact ⟨3,rfl,by decide⟩
   ·exact ⟨5,rfl,by decide⟩
   ·exact ⟨12,rfl,by decide⟩
  obtain ⟨k,rfl,k1⟩ := hv'
  erw [zdL (by omega) (by omega)]; erw [if_pos (by rw [zaG]; omega)]
  refine Run.mono (zhr (g := gN 4) (ρ := [some (.ob p),some (.int most),some (shD fs n),none] ++ List.replicate 1 none) (fun k m' => P3 m p q (c + 201 + 62 * k) m') (fun i d x => ∃ f : Fm,x = f.e /\ FmOk fs f) (zcD 0 (k : Int).toNat) 0 (hp1.via hp2) ?_) ?_
  ·intro i d m' hd hI
   have hi := (List.getElem?_eq_some_iff.mp hd).1
   rw [zaG] at hi
   rw [Nat.zero_add] at hI
   show Run (Res.bind (gN 4 d [some (.ob p),some (.int most),some (shD fs n),none,none] m') _) _
   ac_nf
   refine Run.mono (znq hI (by omega) hs.ok f1) ?_
   rintro a m3 ⟨f,rfl,hf,hp3⟩
   exact ⟨⟨f,rfl,hf⟩,(hI.via hp3).more (by omega)⟩
  ·rintro xs m' ⟨hlen,hP,hI⟩
   rw [zaG] at hlen hI
   obtain ⟨l,rfl,hl⟩ := lift Fm.e (fun i f => FmOk fs f) xs 0 fun i x hx => by
    have hi : i < k := by have := (List.getElem?_eq_some_iff.mp hx).1; omega
    exact hP i (.int (i : Nat)) x (by simp [zcD,hi]) hx
   refine ⟨l,rfl,fun f hf => ?_,by rw [List.length_map] at hlen; omega,hI.more (by omega)⟩
   obtain ⟨i,hi⟩ := List.mem_iff_getElem?.mp hf
   exact hl i f hi
 refine Run.bind hk ?_; rintro _ m2 ⟨fms,rfl,hfm,hfl,hp2⟩; ac_nf; refine Run.bind (zb2 hp2 (by omega) (by simp) (by simp)) ?_; rintro v m3 ⟨hv,hp3⟩
 have hv' : ∃ w : Nat,v = .int w /\ 9 <= w /\ w <= 40 := by
  simp only [List.mem_cons,List.not_mem_nil,or_false] at hv
  rcases hv with rfl | rfl | rfl | rfl
  ·exact ⟨9,rfl,by decide,by decide⟩
  ·exact ⟨12,rfl,by decide,by decide⟩
  ·exact ⟨16,rfl,by decide,by decide⟩
  ·exact ⟨40,rfl,by decide,by decide⟩
 obtain ⟨w,rfl,w0,w1⟩ := hv'
 ac_nf; refine Run.bind (zn9 hp3 (by omega)) ?_; rintro _ m4 ⟨r,rfl,hr,hp4⟩; erw [zlE (by simp)]; ac_nf; exact Run.ok ⟨⟨fs,n,w,fms,r⟩,rfl,⟨n0,n1,f0,f1,hs,by show 0 < w; omega,w1,hfm,hfl,hr⟩,w0,(hp2.via (hp3.via hp4)).more (by omega)⟩
theorem zov {m0 : Sto} {p q c most : Nat} {m : Sto} (hp : P3 m0 p q c m) (hc : c + 1000 < 2 ^ 40) (hm0 : 0 < most) (hm1 : most <= 12) :
  Run (zc3 [.ob p,.int most] m) fun x m' => ∃ pt : Pt,x = pt.e /\ PtOk pt /\ P3 m p q (c + 1000) m' := Run.mono (zmj hp hc hm0 hm1) fun _ _ ⟨pt,h1,h2,_,h3⟩ => ⟨pt,h1,h2,h3⟩
theorem zfp {m : Sto} : zj4 (.int 10) (.int 60) m = .ok (.int (10 ^ 60)) m := by
 rw [zfo]
 have e : zqf (.int 10) (.int 60) m = if (0 : Int) <= 60 /\ (60 : Int) <= 1000000 /\ (10 : Int).natAbs < 2 ^ 64 then .ok (.int ((10 : Int) ^ (60 : Int).toNat)) m else .bad := rfl
 rw [e,if_pos (by decide)]
 rfl
theorem zqg {m : Sto} : zj4 (.int 10) (.int 30) m = .ok (.int 1000000000000000000000000000000) m := by
 rw [zfo]
 have e : zqf (.int 10) (.int 30) m = if (0 : Int) <= 30 /\ (30 : Int) <= 1000000 /\ (10 : Int).natAbs < 2 ^ 64 then .ok (.int ((10 : Int) ^ (30 : Int).toNat)) m else .bad := rfl
 rw [e,if_pos (by decide)]
 rfl
theorem zj9 {a b : Int} {m : Sto} (h : a.natAbs.log2 < 1100 /\ b.natAbs.log2 < 1100) : zqU (.int a) (.int b) m = .ok (.int (a * b)) m := by rw [zmK]; exact if_pos h
theorem zrc : (0 : Int) < 10 ^ 60 * 10 ^ 60 * 10 ^ 60 * 10 ^ 60 * 10 ^ 60 := by decide +kernel
theorem abs_i (c : Int) {m : Sto} : absF [.int c] m = .ok (.int c.natAbs) m := by
 have e : (if c < 0 then -c else c) = (c.natAbs : Int) := by split <;> omega
 rw [<- e]
 rfl
theorem sl_scr {ns : List Int} {m : Sto} : slD (.scr (ns.map D.int)) none (some 63) m = .ok (.lst ((ns.take 63).map D.int)) m := by
 show Res.ok (D.lst (znE (ns.map D.int) none (some ((63 : Nat) : Int)))) m = _
 rw [cut_to,List.map_take]
theorem zrk {ns : List Int} {m : Sto} (hn : ns.length <= 63) : Run (zei [.scr (ns.map D.int)] m) fun a m' => ∃ p q,a = .ob p /\ P3 m' p q 0 m' := by
 unfold zei zkk; erw [zqQ]; erw [zfp]; erw [zfp]; erw [zj9 (by decide +kernel)]; erw [zfp]; erw [zj9 (by decide +kernel)]; erw [zfp]; erw [zj9 (by decide +kernel)]; erw [zfp]; erw [zj9 (by decide +kernel)]; ac_nf
 have hN := zrc
 generalize (10 : Int) ^ 60 * 10 ^ 60 * 10 ^ 60 * 10 ^ 60 * 10 ^ 60 = N at hN; rw [sl_scr]; ac_nf
 have hr : (m ++ [MO.lst []])[m.length]? = some (.lst []) := by simp
 generalize m.length = r at hr ⊢; generalize m ++ [MO.lst []] = mA at hr ⊢; refine Run.bind (zaW (fun k ρ m' => ∃ (seed : Int) (own : List Int) (x4 : Option D),ρ = [some (.scr (ns.map D.int)),some (.int seed),some (.ob r),some (.int N),x4] /\ m'[r]? = some (.lst (own.map D.int)) /\ own.length <= k /\ (∀ a ∈ own,0 <= a) /\ 0 <= seed /\ seed < 2305843009213693951) ((ns.take 63).map D.int) 0 ⟨41,[],none,rfl,hr,Nat.le_refl _,fun _ h => (nomatch h),by decide,by decide⟩ ?_) ?_
 ·rintro i d ρ m1 hd ⟨seed,own,x4,rfl,g1,g2,g3,g4,g5⟩
  have hi := (List.getElem?_eq_some_iff.mp hd).1
  rw [List.length_map,List.length_take] at hi
  obtain ⟨v,hv,rfl⟩ := List.mem_map.mp (List.mem_of_getElem? hd)
  erw [zhj ⟨by decide,by decide⟩]; erw [zqg]; erw [zbx (by decide)]; erw [zbx (by decide)]; erw [abs_i]; erw [zqh]; ac_nf; generalize hS : (seed * 1000003 + v % 1000000000000000000000000000000 + 7) % 2305843009213693951 = S
  have S0 : 0 <= S := by rw [<- hS]; exact Int.emod_nonneg _ (by decide)
  have S1 : S < 2305843009213693951 := by rw [<- hS]; exact Int.emod_lt_of_pos _ (by decide)
  by_cases hb : (1000000000000000000 : Int) <= (v.natAbs : Int)
  ·rw [if_pos hb]; erw [if_pos (zna g1)]; erw [abs_i]; erw [zbx hN]; erw [zkA g1 (by rw [List.length_map]; exact zcj (by omega))]; ac_nf
   refine Run.ok ⟨_,rfl,S,own ++ [(v.natAbs : Int) % N],_,rfl,by rw [zbN g1,List.map_append]; rfl,by rw [List.length_append]; show own.length + 1 <= _; omega,fun a ha => ?_,S0,S1⟩
   rcases List.mem_append.mp ha with ha | ha
   ·exact g3 a ha
   ·rw [List.mem_singleton.mp ha]
    exact Int.emod_nonneg _ (by omega)
  ·rw [if_neg hb]; ac_nf; exact Run.ok ⟨_,rfl,S,own,_,rfl,g1,by omega,g3,S0,S1⟩
 ·rintro _ m1 ⟨ρ,rfl,seed,own,x4,rfl,g1,g2,g3,g4,g5⟩
  rw [Nat.zero_add,List.length_map,List.length_take] at g2
  erw [show zhp [("own", zae 2),("seed", zae 1),("turn", eC (.int 0))] [some (.scr (ns.map D.int)),some (.int seed),some (.ob r),some (.int N),x4] m1 = .ok (.ob m1.length) (m1 ++ [.dct (zjx r seed 0)]) from rfl]; ac_nf
  have hrl := (List.getElem?_eq_some_iff.mp g1).1
  exact Run.ok ⟨m1.length,r,rfl,⟨⟨own,seed,0,by simp,by rw [List.getElem?_append_left hrl]; exact g1,by omega,by omega,g3,g4,by omega,by decide,by decide⟩,Fr.refl⟩⟩
open PySem L2
section
variable {c f mth : Str} {fa fv : EV} {fr : AV} {ρ : En} {m : Sto} {d : D} {g : List D -> Sto -> Res D}
def kFs3 (ρ : En) : Unit -> Sto -> Res Fl := fun _ m3 => .ok (.nx ρ) m3
def kFs2 (c f : Str) (ρ : En) (y : D) : D -> Sto -> Res Fl := fun x m2 => (zn0 c f x y m2).bind (kFs3 ρ)
def kFs1 (c f : Str) (fo : EV) (ρ : En) : D -> Sto -> Res Fl := fun y m1 => (fo ρ m1).bind (kFs2 c f ρ y)
theorem fld_at : zcy c f fa ρ m = (fa ρ m).bind (zps c f) := rfl
theorem sfld_at : zec c f fa fv ρ m = (fv ρ m).bind (kFs1 c f fa ρ) := rfl
theorem kfs1_at : kFs1 c f fa ρ d m = (fa ρ m).bind (kFs2 c f ρ d) := rfl
theorem kfs2_at (x : D) : kFs2 c f ρ d x m = (zn0 c f x d m).bind (kFs3 ρ) := rfl
theorem kfs3_at : kFs3 ρ () m = .ok (.nx ρ) m := rfl
def kMt2 (g : List D -> Sto -> Res D) (x : D) : List D -> Sto -> Res D := fun ds m2 => g (x :: ds) m2
def kMt1 (c mth : Str) (g : List D -> Sto -> Res D) (fr : AV) (ρ : En) : D -> Sto -> Res D := fun x m1 => if zii c mth x m1 = true then (fr ρ m1).bind (kMt2 g x) else .bad
theorem mth_at : zda c mth g fa fr ρ m = (fa ρ m).bind (kMt1 c mth g fr ρ) := rfl
theorem kmt1_at : kMt1 c mth g fr ρ d m = if zii c mth d m = true then (fr ρ m).bind (kMt2 g d) else .bad := rfl
theorem kmt2_at (ds : List D) : kMt2 g d ds m = g (d :: ds) m := rfl
def kPar3 (i j k : Nat) (ρ : En) : List D -> Sto -> Res Fl := fun ds m1 => match ds with
 | [x,y,z] => .ok (.nx (((ρ.set i (some x)).set j (some y)).set k (some z))) m1
 | _ => .bad
theorem par3_at (i j k : Nat) : zn7 i j k fr ρ m = (fr ρ m).bind (kPar3 i j k ρ) := rfl
theorem kpar3_at (i j k : Nat) (x y z : D) : kPar3 i j k ρ [x,y,z] m = .ok (.nx (((ρ.set i (some x)).set j (some y)).set k (some z))) m := rfl
def kForO (h : GV) (b : SV) (ρ : En) : Nat × MO × List D -> Sto -> Res Fl := fun t m1 => zmR t.1 t.2.1 h b t.2.2 ρ m1
theorem forO_at {it : OI} {h : GV} {b : SV} : sForO it h b ρ m = (it ρ m).bind (kForO h b ρ) := rfl
theorem kforO_at {h : GV} {b : SV} (k : Nat) (o : MO) (ds : List D) : kForO h b ρ (k,o,ds) m = zmR k o h b ds ρ m := rfl
theorem objI_at : aObj fa ρ m = (fa ρ m).bind asObj := rfl
theorem isnt_in (i : Int) : zge (.int i) .non m = .ok (.bl true) m := rfl
theorem is_in (i : Int) : isD (.int i) .non m = .ok (.bl false) m := rfl
theorem znr {k : Nat} {fs : List (Str × D)} {v : D} (h : m[k]? = some (.ins c fs)) (e : fs.lookup f = some v) : zps c f (.ob k) m = .ok v m := by
 simp only [zps,h,if_true,e,opt]
theorem zhE {k : Nat} {fs : List (Str × D)} {y : D} (h : m[k]? = some (.ins c fs)) (e : fs.length < 1000) : zn0 c f (.ob k) y m = .ok () (m.set k (.ins c (zhT f y fs))) := by
 simp only [zn0,h]
 exact if_pos ⟨trivial,e⟩
theorem mth_ok {k : Nat} {fs : List (Str × D)} (h : m[k]? = some (.ins c fs)) (e : fs.lookup mth = none) : zii c mth (.ob k) m = true := by
 simp only [zii,h,e,decide_true,Option.isNone_none,Bool.and_self]
end
local macro_rules | `(tactic| walk_at "w") => do
  let ids := ("run_at fin_nx fin_rt seq_at seq_nx seq_rt nil_at ret_at rt_at retN_at drop_at kdrop_at if_at kif_at asg_at kasg_at nx_at gs_nil gs_cons gT_at par_at kpar_at List.set_cons_zero List.set_cons_succ for_at kfor_at eC_at op_at kop_at un_at fn_at ife_at kife_at aNil_at aCons_at kcons_at kcons2_at asB_at tV_at andT_at kandT_at orT_at korT_at notT_at knotT_at and_at kand_at or_at kor_at not_at knot_at aIt_at sq_t sq_l sq_s sq_c rngA_at enumA_at kenum_t kenum_l zipA_at kzip_at zip3A_at kzip3_at kzip4_at oNone_at oSome_at ksome_at slD_at ksl1_at ksl2_at slA_at kslA1_at kslA2_at meth_at kmeth_at isStr_at isTup_at chain_at kch1_at kch2_at kch3_at put_at kputA_at kputB_at kputC_at kputE_at bind_ok bind_then then_at var_0 var_S gN_at Bool.false_eq_true reduceIte List.map_cons List.map_nil List.length_cons List.length_nil Nat.reduceAdd Nat.reduceSub List.cons_append List.nil_append add_i sub_i eq_i ne_i eq_s ne_s lt_i le_i gt_i ge_i lst_0 lst_2 lst_3 lst_4 lst_5 tup_0 tup_1 tup_2 tup_3 min_i len_t len_l tup_l l1 ix_t0 ix_t1 ix_t2 List.replicate List.append_nil decide_eq_true_eq Bool.not_true Bool.not_false eq_self not_true_eq_false not_false_eq_true decide_true decide_false ofs_eq String.reduceEq fld_at sfld_at kfs1_at kfs2_at kfs3_at mth_at kmt1_at kmt2_at par3_at kpar3_at forO_at kforO_at objI_at isnt_in is_in is_nn isnt_nn max_i".splitOn " ").toArray.map fun s => Lean.mkIdent s.toName
  `(tactic| try simp only [$[$ids:ident],*])
def onD : Option Nat -> D
 | none => .non
 | some n => .int n
section
variable {m : Sto} {k l : Nat} {pt : Pt} {hs : List (List Int)} {had base : Option Nat} {fresh : Nat}
theorem zfG (pt : Pt) {m : Sto} : ixD pt.e (.int 0) m = .ok (shD pt.fs pt.n) m := ix_t0 _ _
theorem ix_pt1 (pt : Pt) {m : Sto} : ixD pt.e (.int 1) m = .ok (.int pt.wide) m := ix_t1 _ _ _
theorem zm6 (pt : Pt) {m : Sto} : ixD pt.e (.int 2) m = .ok (.tup (pt.fms.map Fm.e)) m := ix_t2 _ _ _ _
theorem ix_pt3 (pt : Pt) {m : Sto} : ixD pt.e (.int 3) m = .ok pt.rd.e m := zlt (n := 3) rfl
end
def wdN (n : Nat) : Nat := if n <= 1 then 0 else (n - 1).log2 + 1
theorem wdN_lt {n w : Nat} : 2 ^ w < n ↔ w < wdN n := by
 unfold wdN
 by_cases h : n <= 1
 ·rw [if_pos h]
  have := Nat.one_le_two_pow (n := w)
  omega
 ·rw [if_neg h,Nat.lt_succ_iff,Nat.le_log2 (by omega)]
  omega
def wfT : TV := by walk_at "#vy71"
def wfB : SV := by walk_at "#,S7NuMu8!u96"
theorem zlw {n : Nat} {m : Sto} : ∀ (j w fuel : Nat),w + j = wdN n -> j < fuel -> zc8 wfT wfB fuel [some (.int n),some (.int w),some (.int (2 ^ w))] m = .ok (.nx [some (.int n),some (.int (wdN n)),some (.int (2 ^ wdN n))]) m
 | 0,w,0,_,h => absurd h (Nat.not_lt_zero _)
 | 0,w,fuel + 1,e,_ => by
  have hw : w = wdN n := by omega
  subst hw
  have hn : ¬ ((2 : Int) ^ wdN n < n) := by
   have := mt wdN_lt.mp (Nat.lt_irrefl (wdN n))
   exact_mod_cast this
  rw [zc8]
  have et : wfT [some (.int n),some (.int (wdN n)),some (.int (2 ^ wdN n))] m = .ok false m := by
   unfold wfT; erw [decide_eq_false hn]
  rw [et,bind_ok,if_neg (by decide)]
 | j + 1,w,0,_,h => absurd h (Nat.not_lt_zero _)
 | j + 1,w,fuel + 1,e,h => by
  have hn : (2 : Int) ^ w < n := by
   have := wdN_lt.mpr (show w < wdN n by omega)
   exact_mod_cast this
  rw [zc8]
  have et : wfT [some (.int n),some (.int w),some (.int (2 ^ w))] m = .ok true m := by
   unfold wfT; erw [decide_eq_true hn]
  have eb : wfB [some (.int n),some (.int w),some (.int (2 ^ w))] m = .ok (.nx [some (.int n),some (.int ((w + 1 : Nat) : Int)),some (.int (2 ^ (w + 1)))]) m := by
   unfold wfB; erw [zhj ⟨by decide,by decide⟩]; erw [Int.pow_succ]
   rfl
  rw [et,bind_ok,if_pos rfl,eb,bind_ok]
  exact zlw j (w + 1) fuel (by omega) (by omega)
theorem zgi {n : Nat} {m : Sto} (h : n <= 2 ^ 50) : zbT [.int n] m = .ok (.int (wdN n)) m := by
 have hw : wdN n <= 50 := Nat.le_of_not_lt fun z => by
  have := wdN_lt.mpr z
  omega
 apply zar
 unfold zbT zbf
 show Run (Res.bind (zap (zaB (eC (.int 0)) (gN 1)) (zap (zaB (eC (.int 1)) (gN 2)) (zap (zdB zej wfT wfB) (zaJ (zae 1)))) [some (.int n),none,none] m) zkp) _
 erw [zgJ]
 have := zlw (n := n) (m := m) (wdN n) 0 zej (by omega) (Nat.lt_of_le_of_lt hw (by decide))
 rw [show ((0 : Nat) : Int) = 0 from rfl,show ((2 : Int) ^ 0) = 1 from rfl] at this
 rw [this]; ac_nf; exact Run.ok ⟨rfl,rfl⟩
def fmW (pt : Pt) : Fm := ⟨1,pt.wide,List.replicate pt.fs.length .whole⟩
def za1 (pt : Pt) : Option Nat -> Fm
 | none => fmW pt
 | some i => pt.fms.getD i ⟨1,1,[]⟩
def zfd (pt : Pt) : Option Nat -> Prop
 | none => True
 | some i => i < pt.fms.length
theorem zpr {pt : Pt} (h : PtOk pt) : FmOk pt.fs (fmW pt) := ⟨by show 0 < 1; decide,by show 1 <= 40; decide,h.w0,h.w1,⟨by simp [fmW],fun i f w hf hw => by
 simp only [fmW] at hw
 have := List.mem_of_getElem? hw
 rw [(List.mem_replicate.mp this).2]
 exact trivial⟩⟩
def lsz (pt : Pt) (at' : Option Nat) : Nat := wdN (1 + pt.fms.length) + (za1 pt at').b + (zdg pt.fs (za1 pt at').wys).sum + wdN pt.n.toNat
def ckS (hd : List Int) : Int := ((List.range hd.length).map fun i : Nat => ((i : Int) + 2) * hd.getD i 0).sum
def ckV (pt : Pt) (number : Nat) (hd : List Int) : Int := ((number : Int) + ckS hd) % pt.n
theorem zks (hd : List Int) : ∀ (xs : List Int) (k : Nat),(zbL k (xs.map D.int)).map (fun d => match d with | .tup [.int i,.int v] => D.int ((i + 2) * v) | _ => .non) = ((List.range xs.length).map fun i : Nat => (((k + i : Nat) : Int) + 2) * xs.getD i 0).map D.int
 | [],k => rfl
 | x :: xs,k => by
  rw [List.map_cons,zbL,List.map_cons,zks hd xs (k + 1),List.length_cons,List.range_succ_eq_map,List.map_cons,List.map_cons,List.map_map]; simp only [Nat.add_zero,List.getD_cons_zero,List.map_map]
  congr 1
  apply List.map_congr_left
  intro i _
  simp only [Function.comp,Nat.succ_eq_add_one,List.getD_cons_succ]; rw [show k + 1 + i = k + (i + 1) by omega]
theorem sum_i {xs : List Int} {m : Sto} (h : (∀ a,a ∈ xs -> 0 <= a /\ a <= 2 ^ 50) /\ xs.length <= 1000) : zpL [.lst (xs.map D.int)] m = .ok (.int xs.sum) m := by
 simp only [zpL,lOf,Option.bind_some,zch]
 exact if_pos h
def zkH : Option Nat -> Int
 | none => 0
 | some i => 1 + (i : Int)
def ltL (pt : Pt) (at' : Option Nat) (number : Nat) (hd : List Int) : List Nat := dgs (zkH at') (wdN (1 + pt.fms.length)) ++ dgs ((number : Int) % 2 ^ (za1 pt at').b) (za1 pt at').b ++ pcK pt.fs (za1 pt at').wys hd pt.fs.length ++ dgs (ckV pt number hd) (wdN pt.n.toNat)
theorem zep {n : Nat} (h : n <= 2 ^ 50) : wdN n <= 50 := Nat.le_of_not_lt fun z => by
 have := wdN_lt.mpr z
 omega
theorem zpM (a b : List Nat) : ((⟨a.toArray⟩ : Str) ++ ⟨b.toArray⟩) = ⟨(a ++ b).toArray⟩ := by
 apply zfh
 show (a.toArray ++ b.toArray).toList = _
 simp
theorem add_str {a b : List Nat} {m : Sto} (h : a.length + b.length <= 100000) : za2 (.str ⟨a.toArray⟩) (.str ⟨b.toArray⟩) m = .ok (.str ⟨(a ++ b).toArray⟩) m := by
 rw [add_ss (show a.toArray.size + b.toArray.size <= sizeLine from by simp; exact Nat.le_trans h (by decide)),zpM]
structure PtW (p : Pt) : Prop where
 n0 : 0 < p.n
 n1 : p.n <= 1000000
 f0 : 0 < p.fs.length
 f1 : p.fs.length <= 12
 sh : zlr p.fs
 w0 : 0 < p.wide
 w1 : p.wide <= 40
 fm : ∀ f ∈ p.fms,FmOk p.fs f
 fml : p.fms.length <= 12
theorem P3.fr2 {m0 m m' : Sto} {p q c k l : Nat} (h : P3 m0 p q c m) (f : Fr k l m m') (a : k ≠ p) (b : k ≠ q) (c' : l ≠ p) (d : l ≠ q) : P3 m' p q c m' := by
 obtain ⟨own,s,t,h1,h2,h3⟩ := h.ex
 refine ⟨⟨own,s,t,?_,?_,h3⟩,Fr.refl⟩
 ·rw [f.at' p (List.getElem?_eq_some_iff.mp h1).1 (Ne.symm a) (Ne.symm c')]; exact h1
 ·rw [f.at' q (List.getElem?_eq_some_iff.mp h2).1 (Ne.symm b) (Ne.symm d)]; exact h2
def zqR (xs : List Nat) : List D := xs.map fun n => D.int (n : Nat)
theorem of_nat {m0 : Sto} {p q c : Nat} {m : Sto} (ns : List Nat) (hp : P3 m0 p q c m) (hc : c < 2 ^ 40) (h0 : 0 < ns.length) (h1 : ns.length < 1000) :
  Run (zaN [.ob p,.lst (zqR ns)] m) fun a m' => ∃ n ∈ ns,a = .int (n : Nat) /\ P3 m p q (c + 1) m' := by
 refine Run.mono (zb2 hp hc (by simpa [zqR] using h0) (by simpa [zqR] using h1)) ?_
 rintro a m' ⟨ha,hp'⟩
 obtain ⟨n,hn,rfl⟩ := List.mem_map.mp ha
 exact ⟨n,hn,rfl,hp'⟩
theorem zgE {k : Nat} {o : MO} {g : GV} {c : TV} {el : EV} {ρ : En} {m : Sto} (b : D -> Bool) (hk : m[k]? = some o) : ∀ (ds : List D),(∀ d ∈ ds,∃ ρ1,g d ρ m = .ok ρ1 m /\ c ρ1 m = .ok (b d) m /\ el ρ1 m = .ok d m) -> zem k o g c el ρ ds m = .ok (ds.filter b) m
 | [],_ => by rw [zem,zpp hk]; rfl
 | d :: r,h => by
  obtain ⟨ρ1,e1,e2,e3⟩ := h d (by simp)
  have ih := zgE (g := g) (c := c) (el := el) (ρ := ρ) b hk r fun d hd => h d (List.mem_cons_of_mem _ hd)
  rw [zem,zpp hk,e1,bind_ok,e2,bind_ok]
  cases hb : b d with
  | true => rw [if_pos rfl,e3,bind_ok,ih,bind_ok,List.filter_cons_of_pos hb]
  | false => rw [if_neg (by simp),ih,List.filter_cons_of_neg (by simp [hb])]
section
variable {m m0 : Sto} {k l r p q c i : Nat} {pt : Pt} {hd : List Int} {had base : Option Nat} {fresh : Nat} {s d2 : D} {x8 x9 x10 : Option D}
theorem Fr.keep {m' : Sto} {o : MO} (f : Fr k l m m') (h : m[r]? = some o) (a : r ≠ k) (b : r ≠ l) : m'[r]? = some o := by rw [f.at' r (List.getElem?_eq_some_iff.mp h).1 a b]; exact h
end
section
variable {m0 m : Sto} {p q c : Nat} {fs : List Fd} {n : Int}
theorem zfV (hp : P3 m0 p q c m) (hc : c + 30 < 2 ^ 40) (hs : zlr fs) (hl : fs.length <= 12) :
  Run (za6 [.ob p,shD fs n] m) fun a m' => ∃ hd,a = zb7 hd /\ HdOk fs hd /\ P3 m p q (c + 30) m' := by
 unfold za6 zeF shD; ac_nf; refine Run.bind (zfW (ds := fs.map Fd.e) (fun k m' => P3 m p q (c + 2 * k) m') (fun i d x => ∃ v : Int,x = .int v /\ ∀ f,fs[i]? = some f -> 0 <= v /\ v < 2 ^ f.b) (by ac_nf) (by rw [List.length_map]; omega) hp.re ?_) ?_
 ·intro i d m' hd hI
  have hi : i < fs.length := by have := (List.getElem?_eq_some_iff.mp hd).1; simpa using this
  have e1 := List.getElem?_eq_getElem hi
  have hd' : d = fs[i].e := by
   rw [List.getElem?_map,e1] at hd
   simpa using hd.symm
  subst hd'
  obtain ⟨b0,b1,hk⟩ := hs i _ e1
  simp only [Fd.e]; ac_nf
  refine Run.mono (zea hI (by omega) b1) ?_
  rintro a m3 ⟨v,rfl,v0,v1,hp3⟩
  exact ⟨⟨v,rfl,fun f hf => by rw [e1] at hf; cases hf; exact ⟨v0,v1⟩⟩,(hI.via hp3).more (by omega)⟩
 ·rintro xs m' ⟨hlen,hP,hI⟩; ac_nf
  rw [List.length_map] at hlen hI
  obtain ⟨l,rfl,hl2⟩ := lift D.int (fun i v => ∀ f,fs[i]? = some f -> 0 <= v /\ v < 2 ^ f.b) xs 0 fun i x hx => by
   have hi : i < fs.length := by have := (List.getElem?_eq_some_iff.mp hx).1; omega
   rw [Nat.zero_add]
   exact hP i fs[i].e x (by rw [List.getElem?_map,List.getElem?_eq_getElem hi]; rfl) hx
  refine Run.ok ⟨l,rfl,⟨by simpa using hlen,fun i f v hf hv => ?_⟩,hI.more (by omega)⟩
  have := hl2 i v hv
  rw [Nat.zero_add] at this
  exact this f hf
end
def lwT : TV := by walk_at "#vyvn1"
def lwB : SV := by walk_at "#u8!u96"
theorem zmQ {n : Nat} {m : Sto} (h50 : wdN n <= 50) : ∀ (j w fuel : Nat),w + j = wdN n -> j < fuel -> zc8 lwT lwB fuel [some (.int n),some (.int w)] m = .ok (.nx [some (.int n),some (.int (wdN n))]) m
 | 0,w,0,_,h => absurd h (Nat.not_lt_zero _)
 | 0,w,fuel + 1,e,_ => by
  have hw : w = wdN n := by omega
  subst hw
  have hn : ¬ ((2 : Int) ^ wdN n < n) := by
   have := mt wdN_lt.mp (Nat.lt_irrefl (wdN n))
   exact_mod_cast this
  rw [zc8]
  have et : lwT [some (.int n),some (.int (wdN n))] m = .ok false m := by
   unfold lwT; erw [zdy (by omega)]; erw [decide_eq_false hn]
  rw [et,bind_ok,if_neg (by decide)]
 | j + 1,w,0,_,h => absurd h (Nat.not_lt_zero _)
 | j + 1,w,fuel + 1,e,h => by
  have hn : (2 : Int) ^ w < n := by
   have := wdN_lt.mpr (show w < wdN n by omega)
   exact_mod_cast this
  rw [zc8]
  have et : lwT [some (.int n),some (.int w)] m = .ok true m := by
   unfold lwT; erw [zdy (by omega)]; erw [decide_eq_true hn]
  have eb : lwB [some (.int n),some (.int w)] m = .ok (.nx [some (.int n),some (.int ((w + 1 : Nat) : Int))]) m := by
   unfold lwB; ac_nf
   rfl
  rw [et,bind_ok,if_pos rfl,eb,bind_ok]
  exact zmQ h50 j (w + 1) fuel (by omega) (by omega)
theorem zcb {n : Nat} {m : Sto} (h : n <= 2 ^ 50) : zaM [.int n] m = .ok (.int (wdN n)) m := by
 have hw := zep h
 apply zar
 unfold zaM zbf
 show Run (Res.bind (zap (zaB (eC (.int 0)) (gN 1)) (zap (zdB zej lwT lwB) (zaJ (zae 1))) [some (.int n),none] m) zkp) _
 erw [zgJ]
 have := zmQ (n := n) (m := m) hw (wdN n) 0 zej (by omega) (Nat.lt_of_le_of_lt hw (by decide))
 rw [show ((0 : Nat) : Int) = 0 from rfl] at this
 rw [this]; ac_nf; exact Run.ok ⟨rfl,rfl⟩
def ckP (hd : List Int) (k : Nat) : Int := ((List.range k).map fun i : Nat => ((i : Int) + 2) * hd.getD i 0).sum
theorem ckP_s (hd : List Int) (k : Nat) : ckP hd (k + 1) = ckP hd k + ((k : Int) + 2) * hd.getD k 0 := by
 unfold ckP; rw [List.range_succ,List.map_append,List.sum_append]
 simp
theorem zcc {pt : Pt} {number : Nat} {hd : List Int} {m : Sto} (h : PtOk pt) (hh : HdOk pt.fs hd) : za0 [shD pt.fs pt.n,.int number,zb7 hd] m = .ok (.int (ckV pt number hd)) m := by
 have hl := hh.len
 have h1 := h.f1
 apply zar
 unfold za0 zgz zb7; erw [List.length_map,zdL (by omega) (by omega)]; ac_nf; refine Run.bind (zaW (fun k ρ m' => ∃ x4 : Option D,ρ = [some (shD pt.fs pt.n),some (.int number),some (.tup (hd.map D.int)),some (.int ((number : Int) + ckP hd k)),x4] /\ m' = m) _ 0 ⟨_,by rw [show ckP hd 0 = 0 from rfl,Int.add_zero],rfl⟩ ?_) ?_
 ·rintro i d ρ m1 hd1 ⟨x4,rfl,rfl⟩
  have hi := (List.getElem?_eq_some_iff.mp hd1).1
  rw [zaG] at hi
  have := zfU hd1
  subst this
  rw [Nat.zero_add]
  have e2 := List.getElem?_eq_getElem (show i < hd.length by omega)
  erw [zbS e2]; erw [zgc ⟨by omega,by omega⟩]; ac_nf
  have e3 : (number : Int) + ckP hd (i + 1) = (number : Int) + ckP hd i + ((i : Int) + 2) * hd[i] := by rw [ckP_s,List.getD,e2,Option.getD_some,Int.add_assoc]
  rw [<- e3]; exact Run.ok ⟨_,rfl,_,rfl,rfl⟩
 ·rintro _ m1 ⟨ρ,rfl,x4,rfl,rfl⟩; rw [Nat.zero_add,zaG]; erw [show ixD (shD pt.fs pt.n) (.int 1) m1 = .ok (.int pt.n) m1 from ix_t1 _ _ _]; erw [zbx h.n0]; exact Run.ok ⟨rfl,rfl⟩
theorem zjg {pt : Pt} {hd : List Int} {m : Sto} (h : PtOk pt) (hh : HdOk pt.fs hd) : za5 [shD pt.fs pt.n,.non,zb7 hd] m = .ok (.str ⟨(pcK pt.fs (fmW pt).wys hd pt.fs.length).toArray⟩) m := by
 have hl := hh.len
 have h1 := h.f1
 have hw := (zpr h).wy
 apply zar
 unfold za5 zcP zb7 shD; ac_nf; refine Run.bind (zaW (fun k ρ m' => ∃ x4 x5 x6 : Option D,ρ = [some (.tup [.tup (pt.fs.map Fd.e),.int pt.n]),some .non,some (.tup (hd.map D.int)),some (.str ⟨(pcK pt.fs (fmW pt).wys hd k).toArray⟩),x4,x5,x6] /\ m' = m) (zbL 0 (pt.fs.map Fd.e)) 0 ⟨_,_,_,rfl,rfl⟩ ?_) ?_
 ·rintro i d ρ m1 hd1 ⟨x4,x5,x6,rfl,rfl⟩
  obtain ⟨f,e1,rfl⟩ := zfS hd1
  have hi := (List.getElem?_eq_some_iff.mp e1).1
  obtain ⟨b0,b1,_⟩ := h.sh.ok i f e1
  have e2 := List.getElem?_eq_getElem (show i < hd.length by omega)
  have e3 : (fmW pt).wys[i]? = some .whole := by simp [fmW,hi]
  have hpl := zcJ hw hh i (by omega)
  have hsb := zdj h.sh.ok hw i (by omega)
  rw [Nat.zero_add]; ac_nf; simp only [Fd.e]; erw [zbS e2]; erw [zdy (by omega)]; erw [zbx (p2 f.b)]; erw [zar (zbt b1)]; erw [add_str (by rw [zau,hpl]; omega)]; ac_nf
  have e4 : pcK pt.fs (fmW pt).wys hd i ++ dgs (hd[i] % 2 ^ f.b) f.b = pcK pt.fs (fmW pt).wys hd (i + 1) := by
   rw [pcK,e1,e2,e3]
   rfl
  rw [e4]; exact Run.ok ⟨_,rfl,_,_,_,rfl,rfl⟩
 ·rintro _ m1 ⟨ρ,rfl,x4,x5,x6,rfl,rfl⟩; rw [Nat.zero_add,zd2]; ac_nf; exact Run.ok ⟨rfl,rfl⟩
theorem zfD {pt : Pt} {number : Nat} {hd : List Int} {m : Sto} (h : PtOk pt) (hh : HdOk pt.fs hd) : zaT [pt.e,.non,.int number,zb7 hd] m = .ok (.str ⟨(ltL pt none number hd).toArray⟩) m := by
 have hf := zpr h
 have w1 := zep (n := 1 + pt.fms.length) (by have := h.fml; omega)
 have w2 := zep (n := pt.n.toNat) (by have := h.n1; omega)
 have hb := h.w1
 have hpl := zcJ hf.wy hh pt.fs.length (Nat.le_refl _)
 have hsb := zdj h.sh.ok hf.wy pt.fs.length (Nat.le_refl _)
 have hf1 := h.f1
 have hfl := h.fml
 have hn1 := h.n1
 have hn0 := h.n0
 have u1 : wdN (1 + pt.fms.length) <= 40 := Nat.le_of_not_lt fun z => by
  have := wdN_lt.mpr z
  omega
 have u2 : wdN pt.n.toNat <= 40 := Nat.le_of_not_lt fun z => by
  have := wdN_lt.mpr z
  omega
 apply zar
 unfold zaT zdw Pt.e
 erw [show (1 : Int) + (((pt.fms.map Fm.e).length : Nat) : Int) = ((1 + pt.fms.length : Nat) : Int) by rw [List.length_map]; omega,zcb (by omega)]; erw [zar (zbt u1)]; erw [zdy (by omega)]; erw [zbx (p2 pt.wide)]; erw [zar (zbt hb)]; erw [add_str (by rw [zau,zau]; omega)]; ac_nf
 rw [zjg h hh]; erw [add_str (by rw [List.length_append,zau,zau,hpl]; omega)]; erw [zcc h hh]; erw [show ixD (shD pt.fs pt.n) (.int 1) m = .ok (.int pt.n) m from ix_t1 _ _ _]; ac_nf
 rw [show zaM [.int pt.n] m = .ok (.int (wdN pt.n.toNat)) m by
  have := zcb (n := pt.n.toNat) (m := m) (by omega)
  rw [show ((pt.n.toNat : Nat) : Int) = pt.n by omega] at this
  exact this]
 erw [zar (zbt u2)]; erw [add_str (by rw [List.length_append,List.length_append,zau,zau,zau,hpl]; omega)]; exact Run.ok ⟨rfl,rfl⟩
theorem fmW_6 {pt : Pt} (h : PtW pt) : FmOk pt.fs (fmW pt) := ⟨by show 0 < 1; decide,by show 1 <= 40; decide,h.w0,h.w1,⟨by simp [fmW],fun i f w hf hw => by
 simp only [fmW] at hw
 have := List.mem_of_getElem? hw
 rw [(List.mem_replicate.mp this).2]
 exact trivial⟩⟩
theorem zeI {pt : Pt} (h : PtW pt) {at' : Option Nat} (ha : zfd pt at') : FmOk pt.fs (za1 pt at') := by
 cases at' with
 | none => exact fmW_6 h
 | some i =>
  have hi : i < pt.fms.length := ha
  show FmOk pt.fs (pt.fms.getD i ⟨1,1,[]⟩)
  simp only [List.getD,List.getElem?_eq_getElem hi,Option.getD_some]
  exact h.fm _ (List.getElem_mem hi)
theorem zd1 {pt : Pt} {at' : Option Nat} {m : Sto} (h : PtW pt) (ha : zfd pt at') : za7 [pt.e,onD at'] m = .ok (za1 pt at').e m := by
 apply zar
 unfold za7 zkm
 cases at' with
 | none =>
  simp only [onD]; erw [ix_pt1]; erw [zfG]; erw [ix_sh]; erw [List.length_map,mul_t ⟨by have := h.f0; omega,by have := h.f1; omega⟩]; ac_nf
  refine Run.ok ⟨?_,rfl⟩
  simp only [za1,fmW,Fm.e,fmD,List.map_replicate,Int.toNat_natCast,Wy.e]
  rfl
 | some i =>
  have hi : i < pt.fms.length := ha
  simp only [onD]; erw [zm6]; ac_nf
  rw [zlt (d := (za1 pt (some i)).e) (by
   rw [List.getElem?_map,List.getElem?_eq_getElem hi]
   simp [za1,List.getD,List.getElem?_eq_getElem hi])]
  exact Run.ok ⟨rfl,rfl⟩
theorem ziQ {pt : Pt} {m : Sto} (h : PtW pt) : za8 [pt.e] m = .ok (.int (wdN (1 + pt.fms.length))) m := by
 apply zar
 unfold za8 zfM; erw [zm6]; erw [List.length_map,show (1 : Int) + (pt.fms.length : Nat) = ((1 + pt.fms.length : Nat) : Int) by push_cast; rfl,zgi (by have := h.fml; omega)]; exact Run.ok ⟨rfl,rfl⟩
theorem zkx {pt : Pt} {m : Sto} (h : PtW pt) : zbj [pt.e] m = .ok (.int (wdN pt.n.toNat)) m := by
 have h0 := h.n0
 have h1 := h.n1
 apply zar
 unfold zbj zeG; erw [zfG]; erw [show ixD (shD pt.fs pt.n) (.int 1) m = .ok (.int pt.n) m from ix_t1 _ _ _]; ac_nf
 have e := zgi (n := pt.n.toNat) (m := m) (by omega)
 rw [Int.toNat_of_nonneg (by omega)] at e
 rw [e]; exact Run.ok ⟨rfl,rfl⟩
theorem zh8 {pt : Pt} {at' : Option Nat} {m : Sto} (h : PtW pt) (ha : zfd pt at') : zbU [pt.e,onD at'] m = .ok (.int (lsz pt at')) m := by
 apply zar
 unfold zbU zeD; erw [zd1 h ha]; erw [ziQ h]; erw [show ixD (za1 pt at').e (.int 1) m = .ok (.int (za1 pt at').b) m from ix_t1 _ _ _]; erw [zfG]; erw [show zeg [shD pt.fs pt.n,(za1 pt at').e] m = .ok (.int ((zdg pt.fs (za1 pt at').wys).sum : Nat)) m from znY h.sh h.f1 (zeI h ha).wy]; ac_nf
 rw [zkx h]; ac_nf
 refine Run.ok ⟨?_,rfl⟩
 unfold lsz
 congr 1
theorem zeb (l : List Nat) : (⟨l.toArray⟩ : Str).cps.size = l.length := List.size_toArray ..
theorem zo6 {l : List Nat} {b : Nat} {m : Sto} (h : l.length <= 1000000) (hb : b <= l.length) : slD (.str ⟨l.toArray⟩) none (some (b : Int)) m = .ok (.str ⟨(l.take b).toArray⟩) m := by
 rw [zjQ (show (⟨l.toArray⟩ : Str).cps.size <= sizeLine by rw [zeb]; exact Nat.le_trans h (by decide))]
 congr 2
 exact zfh (by rw [Mth.slice_lo _ _ (by rw [zeb]; exact hb)])
theorem zo5 {l : List Nat} {a b : Nat} {m : Sto} (h : l.length <= 1000000) (ha : a <= b) (hb : b <= l.length) : slD (.str ⟨l.toArray⟩) (some (a : Int)) (some (b : Int)) m = .ok (.str ⟨((l.drop a).take (b - a)).toArray⟩) m := by
 rw [zjQ (show (⟨l.toArray⟩ : Str).cps.size <= sizeLine by rw [zeb]; exact Nat.le_trans h (by decide))]
 congr 2
 exact zfh (by rw [Mth.slice_mid _ _ _ ha (by rw [zeb]; exact hb)])
theorem zo7 {l : List Nat} {a : Nat} {m : Sto} (h : l.length <= 1000000) (ha : a <= l.length) : slD (.str ⟨l.toArray⟩) (some (a : Int)) none m = .ok (.str ⟨(l.drop a).toArray⟩) m := by
 rw [zjQ (show (⟨l.toArray⟩ : Str).cps.size <= sizeLine by rw [zeb]; exact Nat.le_trans h (by decide))]
 congr 2
 exact zfh (by rw [Mth.slice_hi _ _ (by rw [zeb]; exact ha)])
theorem zhi {l : List Nat} {m : Sto} (h : Bin l) : za4 [.str ⟨l.toArray⟩] m = .ok (.int (zdq l)) m := zar (zgp (z := ⟨l.toArray⟩) h)
theorem znP {l : List Nat} {m : Sto} (h : Bin l) : zd0 [.str ⟨l.toArray⟩] m = .ok (.bl true) m := by
 apply zar
 unfold zd0 zit; erw [show isiD "str" (.str ⟨l.toArray⟩) m = .ok (.bl true) m from rfl]; ac_nf; refine Run.bind (zaW (fun k ρ m' => ∃ x,ρ = [some (.str ⟨l.toArray⟩),x] /\ m' = m) (zeN ⟨l.toArray⟩) 0 ⟨_,rfl,rfl⟩ ?_) ?_
 ·rintro i d ρ m' hd ⟨x,rfl,rfl⟩
  obtain ⟨c,hc,rfl⟩ := zjR hd
  ac_nf
  rcases h c (List.mem_of_getElem? hc) with rfl | rfl
  ·rw [if_neg (by decide)]; ac_nf; exact Run.ok ⟨_,rfl,_,rfl,rfl⟩
  ·rw [if_pos (by decide),show (!decide ((⟨#[49]⟩ : Str) = Str.ofString "1")) = false by decide]; ac_nf; exact Run.ok ⟨_,rfl,_,rfl,rfl⟩
 ·rintro _ m' ⟨ρ,rfl,x,rfl,rfl⟩; ac_nf; exact Run.ok ⟨rfl,rfl⟩
theorem le_wdN (n : Nat) : n <= 2 ^ wdN n := Nat.le_of_not_lt (mt wdN_lt.mp (Nat.lt_irrefl _))
theorem wdN_li {n : Nat} : ((n : Nat) : Int) <= 2 ^ wdN n := by exact_mod_cast le_wdN n
theorem zpN {pt : Pt} {at' : Option Nat} (ha : zfd pt at') : 0 <= zkH at' /\ zkH at' <= pt.fms.length := by
 cases at' with
 | none => exact ⟨Int.le_refl _,by simp [zkH]⟩
 | some i =>
  have : i < pt.fms.length := ha
  simp only [zkH]
  omega
theorem zmB {x : Int} {n : Nat} (h0 : 0 <= x) (h1 : x < n) : zdq (dgs x (wdN n)) = x := by
 rw [zfb]
 exact Int.emod_eq_of_lt h0 (Int.lt_of_lt_of_le h1 wdN_li)
theorem zkJ {pt : Pt} {at' : Option Nat} {r : List Nat} {m : Sto} (h : PtW pt) (ha : zfd pt at') (hl : (dgs (zkH at') (wdN (1 + pt.fms.length)) ++ r).length <= 1000000) : zce [pt.e,.str ⟨(dgs (zkH at') (wdN (1 + pt.fms.length)) ++ r).toArray⟩] m = .ok (onD at') m := by
 have hb := zpN ha
 apply zar
 unfold zce zgt; erw [ziQ h]; erw [zo6 hl (by rw [List.length_append,zau]; omega),List.take_left' (zau _ _)]; erw [zhi (zdx _ _),zmB hb.1 (by omega)]; erw [zm6]; erw [List.length_map,if_neg (by omega)]; ac_nf
 cases at' with
 | none =>
  rw [if_pos (show zkH none = 0 from rfl)]; ac_nf; exact Run.ok ⟨rfl,rfl⟩
 | some i =>
  rw [if_neg (by simp only [zkH]; omega)]; ac_nf
  refine Run.ok ⟨?_,rfl⟩
  simp only [zkH,onD]
  congr 1
  omega
structure LtB (pt : Pt) (at' : Option Nat) (mid : List Nat) (ck : Int) : Prop where
 a : zfd pt at'
 b : Bin mid
 l : mid.length = (za1 pt at').b + (zdg pt.fs (za1 pt at').wys).sum
 c0 : 0 <= ck
 c1 : ck < pt.n
def ltB (pt : Pt) (at' : Option Nat) (mid : List Nat) (ck : Int) : List Nat := dgs (zkH at') (wdN (1 + pt.fms.length)) ++ (mid ++ dgs ck (wdN pt.n.toNat))
theorem zqY {pt : Pt} {at' : Option Nat} {mid : List Nat} {ck : Int} (h : LtB pt at' mid ck) : (ltB pt at' mid ck).length = lsz pt at' := by
 unfold ltB lsz; rw [List.length_append,List.length_append,zau,zau,h.l]
 omega
theorem Bin.app {a b : List Nat} (h : Bin a) (h' : Bin b) : Bin (a ++ b) := fun c hc => (List.mem_append.mp hc).elim (h c) (h' c)
theorem zqZ {pt : Pt} {at' : Option Nat} {mid : List Nat} {ck : Int} (h : LtB pt at' mid ck) : Bin (ltB pt at' mid ck) := (zdx _ _).app (h.b.app (zdx _ _))
theorem zpk {pt : Pt} {at' : Option Nat} (h : PtW pt) (ha : zfd pt at') : 0 < lsz pt at' /\ lsz pt at' <= 700 := by
 have hf := zeI h ha
 have hb0 := hf.b0
 have hb1 := hf.b1
 have hs := zdj h.sh hf.wy pt.fs.length (Nat.le_refl _)
 have w1 := zep (n := 1 + pt.fms.length) (by have := h.fml; omega)
 have w2 := zep (n := pt.n.toNat) (by have := h.n1; omega)
 have hw : (zdg pt.fs (za1 pt at').wys).sum <= 40 * pt.fs.length := by
  have e : zgN (zdg pt.fs (za1 pt at').wys) pt.fs.length = (zdg pt.fs (za1 pt at').wys).sum := by
   unfold zgN; rw [List.take_of_length_le (by have := zbY hf.wy; omega)]
  omega
 have := h.f1
 unfold lsz
 omega
theorem zmU {l : List Nat} {m : Sto} (h : l.length <= 1000000) : zex [.str ⟨l.toArray⟩] m = .ok (.int l.length) m := by
 have e : zex [.str ⟨l.toArray⟩] m = if l.toArray.size <= sizeLine then .ok (.int (l.toArray.size : Nat)) m else .bad := rfl
 rw [e,List.size_toArray,if_pos (Nat.le_trans h (by decide))]
theorem zqW {fa fd : EV} {ρ : En} {m m1 m2 : Sto} {x d : D} (h1 : fa ρ m = .ok x m1) (h2 : fd ρ m1 = .ok d m2) : zlk fa fd ρ m = zmO x d m2 := by
 unfold zlk; rw [h1,bind_ok,h2,bind_ok]
theorem zlm {n k : Nat} {fi : EV} {g : GV} {c : TV} {el : EV} {ρ : En} {m : Sto} {kvs : List (L2.Key × D)} (b : D -> Bool) (h : fi ρ m = .ok (.ob k) m) (hk : m[k]? = some (.dct kvs)) (hl : kvs.length <= 1000000)
  (hf : ∀ d ∈ zm1 kvs,∃ ρ1,g d (ρ ++ List.replicate n none) (m.set k .hid) = .ok ρ1 (m.set k .hid) /\ c ρ1 (m.set k .hid) = .ok (b d) (m.set k .hid) /\ el ρ1 (m.set k .hid) = .ok d (m.set k .hid)) : zgC n fi g c el ρ m = .ok (.lst ((zm1 kvs).filter b)) m := by
 unfold zgC zq6; rw [h,bind_ok]; simp only [hk,if_pos hl]; rw [show (kvs.map fun p => kD p.1) = zm1 kvs from rfl,zgE b (zbN hk) _ hf]; simp only []; rw [List.set_set]
 congr 1
 exact List.ext_getElem? fun j => by
  by_cases hj : k = j
  ·subst hj; rw [zbN hk,hk]
  ·rw [zaY hj]
def zfZ : Option Int -> D
 | none => .non
 | some i => .int i
def hlD (hl : List (Int × List Int)) : List (L2.Key × D) := hl.map fun p => (Sum.inl p.1,zb7 p.2)
def ksH (hl : List (Int × List Int)) : List Int := hl.map (·.1)
theorem zkc (hl : List (Int × List Int)) : zm1 (hlD hl) = (ksH hl).map D.int := by
 unfold zm1 hlD ksH; rw [List.map_map,List.map_map]
 rfl
theorem zgr : ∀ (hl : List (Int × List Int)),zdt (hlD hl) = some (ksH hl)
 | [] => rfl
 | p :: r => by
  show (zdt (hlD r)).map (p.1 :: ·) = _
  rw [zgr r]
  rfl
def vlH (hl : List (Int × List Int)) (n : Int) : Option (List Int) := match hl with
 | [] => none
 | p :: r => if p.1 = n then some p.2 else vlH r n
theorem zff (n : Int) : ∀ (hl : List (Int × List Int)),zd8 (hlD hl) (.inl n) = (vlH hl n).map zb7
 | [] => rfl
 | p :: r => by
  show (if (Sum.inl p.1 : L2.Key) = .inl n then some (zb7 p.2) else zd8 (hlD r) (.inl n)) = _
  unfold vlH
  by_cases h : p.1 = n
  ·rw [if_pos (by rw [h]),if_pos h]; rfl
  ·rw [if_neg (fun z => h (Sum.inl.inj z)),if_neg h]; exact zff n r
theorem vlH_none {hl : List (Int × List Int)} {n : Int} : vlH hl n = none ↔ n ∉ ksH hl := by
 induction hl with
 | nil => simp [vlH,ksH]
 | cons p r ih =>
  unfold vlH
  by_cases h : p.1 = n
  ·simp [h,ksH]
  ·rw [if_neg h,ih]
   simp [ksH,Ne.symm h]
theorem zeW {hl : List (Int × List Int)} {n : Int} (h : n ∈ ksH hl) : ∃ x,vlH hl n = some x /\ (n,x) ∈ hl := by
 induction hl with
 | nil => simp [ksH] at h
 | cons p r ih =>
  unfold vlH
  by_cases e : p.1 = n
  ·exact ⟨p.2,if_pos e,by rw [<- e]; exact List.mem_cons_self⟩
  ·rw [if_neg e]
   obtain ⟨x,h1,h2⟩ := ih (by
    rcases List.mem_cons.mp (show n ∈ p.1 :: ksH r from h) with z | z
    ·exact absurd z.symm e
    ·exact z)
   exact ⟨x,h1,List.mem_cons_of_mem _ h2⟩
def mxB (n : Int) (ks : List Int) : Option Int := if ks.filter (fun k => decide (k < n)) = [] then none else some (maxV (ks.filter fun k => decide (k < n)))
theorem zns (b : Int -> Bool) (b' : D -> Bool) (h : ∀ i,b' (.int i) = b i) (ks : List Int) : (ks.map D.int).filter b' = (ks.filter b).map D.int := by
 induction ks with
 | nil => rfl
 | cons k r ih =>
  rw [List.map_cons,List.filter_cons,h,ih,List.filter_cons]
  split <;> rfl
theorem zk9 {ns : List Int} {d : D} {m : Sto} : zmO (.lst (ns.map D.int)) d m = .ok (if ns = [] then d else .int (maxV ns)) m := by
 unfold zmO; simp only [lOf,Option.bind_some,zch]
 split <;> rfl
def ltI (n : Int) : D -> Bool
 | .int i => decide (i < n)
 | _ => false
def orD (o : Option Int) (d : D) : D := match o with
 | none => d
 | some i => .int i
theorem orD_i (o : Option Int) (b : Int) : orD o (.int b) = .int (o.getD b) := by cases o <;> rfl
theorem orD_n (o : Option Int) : orD o .non = zfZ o := by cases o <;> rfl
theorem maxK {k i1 : Nat} {fi fd : EV} {ρ : En} {m : Sto} {hl : List (Int × List Int)} {n : Int} {d : D} {fn : EV} (hi : i1 = ρ.length) (h : fi ρ m = .ok (.ob k) m) (hk : m[k]? = some (.dct (hlD hl))) (hl' : hl.length <= 1000000) (hn : ∀ x m',fn (ρ ++ [some x]) m' = .ok (.int n) m') (hd : fd ρ m = .ok d m) :
  zlk (zgC 1 fi (gN i1) (tV (eOp ltD (zae i1) fn)) (zae i1)) fd ρ m = .ok (orD (mxB n (ksH hl)) d) m := by
 subst hi
 rw [zqW (zlm (ltI n) h hk (by rw [hlD,List.length_map]; exact hl') (by
  intro x hx
  rw [zkc] at hx
  obtain ⟨i,hi,rfl⟩ := List.mem_map.mp hx
  have hg : ∀ m',gN ρ.length (.int i) (ρ ++ List.replicate 1 none) m' = .ok (ρ ++ [some (.int i)]) m' := fun m' => by
   show Res.ok ((ρ ++ [none]).set ρ.length (some (.int i))) m' = _
   rw [List.set_append_right _ _ (Nat.le_refl _),Nat.sub_self]
   rfl
  have hv : ∀ m',zae ρ.length (ρ ++ [some (.int i)]) m' = .ok (.int i) m' := fun m' => by
   unfold zae; rw [List.getElem?_append_right (Nat.le_refl _),Nat.sub_self]
   rfl
  refine ⟨_,hg _,?_,hv _⟩
  unfold tV eOp; rw [hv,bind_ok,hn,bind_ok]
  rfl)) hd,zkc,zns (fun k => decide (k < n)) (ltI n) (fun _ => rfl),zk9]
 unfold mxB
 split <;> rfl
theorem zg4 {k : L2.Key} {d : D} : ∀ {acc : List (L2.Key × D)},zd8 acc k = none -> zg5 acc k d = acc ++ [(k,d)]
 | [],_ => rfl
 | p :: r,h => by
  unfold zd8 at h
  by_cases e : p.1 = k
  ·rw [if_pos e] at h; cases h
  ·rw [if_neg e] at h
   unfold zg5; rw [if_neg e,zg4 h]
   rfl
theorem zjI {k : L2.Key} {q : L2.Key × D} (hq : q.1 ≠ k) : ∀ {acc : List (L2.Key × D)},zd8 (acc ++ [q]) k = zd8 acc k
 | [] => by show (if q.1 = k then some q.2 else none) = none; rw [if_neg hq]
 | p :: r => by
  show (if p.1 = k then some p.2 else zd8 (r ++ [q]) k) = (if p.1 = k then some p.2 else zd8 r k)
  rw [zjI hq]
theorem zeo {g : GV} {c : TV} {ek ev : EV} {ρ : En} {m : Sto} (b : Int -> Bool) (f : Int -> D) : ∀ (ks : List Int) (acc : List (L2.Key × D)),(∀ k ∈ ks,∃ ρ1,g (.int k) ρ m = .ok ρ1 m /\ c ρ1 m = .ok (b k) m /\ (b k = true -> ek ρ1 m = .ok (.int k) m /\ ev ρ1 m = .ok (f k) m)) -> ks.Nodup →
  (∀ k ∈ ks,zd8 acc (.inl k) = none) -> zeV g c ek ev ρ (ks.map D.int) acc m = .ok (acc ++ (ks.filter b).map fun k => (Sum.inl k,f k)) m
 | [],acc,_,_,_ => by rw [List.map_nil,zeV]; simp
 | k :: r,acc,h,hn,hd => by
  obtain ⟨ρ1,h1,h2,h3⟩ := h k List.mem_cons_self
  obtain ⟨n1,n2⟩ := List.nodup_cons.mp hn
  rw [List.map_cons,zeV,h1,bind_ok,h2,bind_ok,List.filter_cons]
  cases hb : b k with
  | false =>
   rw [if_neg Bool.false_ne_true,if_neg Bool.false_ne_true]
   exact zeo b f r acc (fun k hk => h k (List.mem_cons_of_mem _ hk)) n2 fun k hk => hd k (List.mem_cons_of_mem _ hk)
  | true =>
   obtain ⟨h4,h5⟩ := h3 hb
   rw [if_pos rfl,if_pos rfl,h4,bind_ok,h5,bind_ok]
   show zeV g c ek ev ρ (r.map D.int) (zg5 acc (.inl k) (f k)) m = _
   rw [zg4 (hd k List.mem_cons_self),zeo b f r _ (fun k hk => h k (List.mem_cons_of_mem _ hk)) n2 fun j hj => by
    rw [zjI fun z => n1 (by rw [Sum.inl.inj z]; exact hj)]
    exact hd j (List.mem_cons_of_mem _ hj)]
   simp
def lstV (hl : List (Int × List Int)) (bound : Int) : Int := (mxB bound (ksH hl)).getD bound
def zcu (hl : List (Int × List Int)) (bound : Int) : List (Int × List Int) := ((zdk (ksH hl)).filter fun k => decide (lstV hl bound <= k)).map fun k => (k,(vlH hl k).getD [])
theorem ix_h {m : Sto} {h : Nat} {hl : List (Int × List Int)} {n : Int} {x : List Int} (hk : m[h]? = some (.dct (hlD hl))) (e : vlH hl n = some x) : ixD (.ob h) (.int n) m = .ok (zb7 x) m := by
 show (match m[h]? with
  | some (.lst ds) => opt (L2.atI ds n) m
  | some (.dct kvs) => opt (zd8 kvs (.inl n)) m
  | _ => .bad) = _
 rw [hk]
 show opt (zd8 (hlD hl) (.inl n)) m = _
 rw [zff,e]
 rfl
theorem in_h {m : Sto} {h : Nat} {hl : List (Int × List Int)} {n : Int} (hk : m[h]? = some (.dct (hlD hl))) : MD.inD (.int n) (.ob h) m = .ok (.bl (vlH hl n).isSome) m := by
 unfold MD.inD inO
 simp only [hk]; rw [zff,Option.isSome_map]
theorem zpO {m : Sto} {h : Nat} {hl : List (Int × List Int)} (hk : m[h]? = some (.dct (hlD hl))) (hl' : hl.length < 64) : zfi [.ob h] m = .ok (.lst (zlg (zdk (ksH hl)))) m := by
 unfold zfi dOf; simp only [hk,Option.bind_some,zgr]; rw [if_pos (by rw [ksH,List.length_map]; exact hl')]
theorem zpF {m : Sto} {h : Nat} {hl : List (Int × List Int)} {bound : Int} (hk : m[h]? = some (.dct (hlD hl))) (hl' : hl.length < 64) (hn : (ksH hl).Nodup) :
  zbn [.ob h,.int bound] m = .ok (.ob m.length) (m ++ [.dct (hlD (zcu hl bound))]) := by
 have hns : (zdk (ksH hl)).Nodup := (zbk _).nodup_iff.mpr hn
 have key : Run (zbn [.ob h,.int bound] m) fun a m' => a = .ob m.length /\ m' = m ++ [.dct (hlD (zcu hl bound))] := by
  unfold zbn zfL; erw [maxK (k := h) (i1 := 3) (fi := zae 0) (fd := zae 1) (fn := zae 1) (ρ := [some (.ob h),some (.int bound),none]) (hl := hl) (n := bound) (d := .int bound) rfl rfl hk (by omega) (fun _ _ => rfl) rfl]; rw [orD_i,show (mxB bound (ksH hl)).getD bound = lstV hl bound from rfl]; ac_nf
  unfold znw
  have hit : ∀ x,aIt (eFn zfi (zac (zae 0) zaj)) [some (.ob h),some (.int bound),x] m = .ok ((zdk (ksH hl)).map D.int) m := fun x => by
   unfold aIt eFn zac zaj
   show ((zfi [.ob h] m).bind zjA) = _
   rw [zpO hk hl',bind_ok]
   rfl
  rw [hit,bind_ok,if_pos (by rw [List.length_map,zfj,ksH,List.length_map]; omega)]
  rw [zeo (fun k => decide (lstV hl bound <= k)) (fun k => zb7 ((vlH hl k).getD [])) _ [] (by
   intro k hk'
   obtain ⟨x,hx,_⟩ := zeW ((zbk _).mem_iff.mp hk')
   refine ⟨[some (.ob h),some (.int bound),some (.int (lstV hl bound)),some (.int k)],rfl,rfl,fun _ => ⟨rfl,?_⟩⟩
   show ixD (.ob h) (.int k) m = _
   rw [ix_h hk hx,hx]
   rfl) hns (fun _ _ => rfl),bind_ok]
  ac_nf
  refine Run.ok ⟨rfl,?_⟩
  rw [zcu,hlD,List.map_map]
  rfl
 obtain ⟨a,m',e,rfl,rfl⟩ := key
 exact e
def rdF (pt : D) (top : Option Int) (h : Nat) : List (Str × D) := [("pact", pt),("highest", zfZ top),("held", .ob h)]
structure RdAt (m : Sto) (k h : Nat) (pt : Pt) (top : Option Int) (hl : List (Int × List Int)) : Prop where
 self : m[k]? = some (.ins "Reader" (rdF pt.e top h))
 dct : m[h]? = some (.dct (hlD hl))
 kh : k ≠ h
theorem RdAt.app {m r : Sto} {k h : Nat} {pt : Pt} {top : Option Int} {hl : List (Int × List Int)} (x : RdAt m k h pt top hl) : RdAt (m ++ r) k h pt top hl := ⟨zjn x.self,zjn x.dct,x.kh⟩
theorem RdAt.lt {m : Sto} {k h : Nat} {pt : Pt} {top : Option Int} {hl : List (Int × List Int)} (x : RdAt m k h pt top hl) : k < m.length /\ h < m.length := ⟨(List.getElem?_eq_some_iff.mp x.self).1,(List.getElem?_eq_some_iff.mp x.dct).1⟩
theorem RdAt.fr {m m' : Sto} {k h p q : Nat} {pt : Pt} {top : Option Int} {hl : List (Int × List Int)} (x : RdAt m k h pt top hl) (f : Fr p q m m') (a : k ≠ p) (b : k ≠ q) (c : h ≠ p) (d : h ≠ q) : RdAt m' k h pt top hl :=
 ⟨by rw [f.at' k x.lt.1 a b]; exact x.self,by rw [f.at' h x.lt.2 c d]; exact x.dct,x.kh⟩
section
variable {m : Sto} {k h : Nat} {pt : Pt} {top : Option Int} {hl : List (Int × List Int)} {n t : Int}
theorem RdAt.pact (x : RdAt m k h pt top hl) : zps "Reader" "pact" (.ob k) m = .ok pt.e m := znr x.self rfl
theorem RdAt.high (x : RdAt m k h pt top hl) : zps "Reader" "highest" (.ob k) m = .ok (zfZ top) m := znr x.self rfl
theorem RdAt.held (x : RdAt m k h pt top hl) : zps "Reader" "held" (.ob k) m = .ok (.ob h) m := znr x.self rfl
theorem RdAt.meth (x : RdAt m k h pt top hl) {f : Str} (e : (rdF pt.e top h).lookup f = none) : zii "Reader" f (.ob k) m = true := mth_ok x.self e
theorem ix_rd2 (r : Rd4) {m : Sto} : ixD r.e (.int 2) m = .ok (.int r.late) m := ix_t2 _ _ _ _
theorem zg1 (x : RdAt m k h pt (some t) hl) : zaF [.ob k] m = .ok (.int (t - pt.rd.late)) m := by
 apply zar
 unfold zaF zdW; erw [x.high]; simp only [zfZ]; erw [x.pact]; erw [ix_pt3]; erw [ix_rd2]; ac_nf; exact Run.ok ⟨rfl,rfl⟩
def zgd (pt : Pt) (top : Option Int) (n : Int) : Bool := decide (n < 0) || (match top with
 | some t => decide (n < t - pt.rd.late)
 | none => false)
theorem late_w (x : RdAt m k h pt top hl) : za9 [.ob k,.int n] m = .ok (.bl (zgd pt top n)) m := by
 apply zar
 unfold za9 zdd; ac_nf
 by_cases hn : n < 0
 ·rw [if_pos hn]; ac_nf; exact Run.ok ⟨by simp [zgd,hn],rfl⟩
 ·rw [if_neg hn]; erw [x.high]
  cases top with
  | none =>
   simp only [zfZ]; ac_nf; exact Run.ok ⟨by simp [zgd,hn],rfl⟩
  | some t =>
   simp only [zfZ]; erw [if_pos (x.meth rfl)]; erw [zg1 x]; ac_nf; exact Run.ok ⟨by simp [zgd,hn],rfl⟩
theorem zpi (x : RdAt m k h pt top hl) (hl' : hl.length < 64) : zaQ [.ob k,.int n] m = .ok (zfZ (mxB n (ksH hl))) m := by
 apply zar
 unfold zaQ zcO; erw [maxK (k := h) (i1 := 2) (fi := zcy "Reader" "held" (zae 0)) (fd := eC .non) (fn := zae 1) (ρ := [some (.ob k),some (.int n)]) (hl := hl) (n := n) (d := .non) rfl x.held x.dct (by omega) (fun _ _ => rfl) rfl,orD_n]; ac_nf; exact Run.ok ⟨rfl,rfl⟩
def znS (hl : List (Int × List Int)) (n : Int) (reach : Nat) : Bool := match mxB n (ksH hl) with
 | none => true
 | some f => decide ((reach : Int) < n - f)
theorem far_w {reach : Nat} (x : RdAt m k h pt top hl) (hl' : hl.length < 64) : zbp [.ob k,.int n,.int reach] m = .ok (.bl (znS hl n reach)) m := by
 apply zar
 unfold zbp zdX; erw [if_pos (x.meth rfl)]; erw [zpi x hl']
 unfold znS
 cases mxB n (ksH hl) with
 | none =>
  simp only [zfZ]; ac_nf; exact Run.ok ⟨rfl,rfl⟩
 | some f =>
  simp only [zfZ]; ac_nf; exact Run.ok ⟨rfl,rfl⟩
def zcv (pt : Pt) (hl : List (Int × List Int)) (at' : Option Nat) (n : Int) (bits : List Nat) : List Int := match at' with
 | none => (List.range (pt.fs.map fun f => f.b).length).map (ziP bits (pt.fs.map fun f => f.b))
 | some i => match mxB n (ksH hl) with
  | none => []
  | some f => hdV pt.fs (za1 pt (some i)).wys ((vlH hl f).getD []) (n - f) bits pt.fs.length
theorem zfx {n f : Int} {ks : List Int} (e : mxB n ks = some f) : f ∈ ks /\ f < n /\ ∀ g ∈ ks,g < n -> g <= f := by
 unfold mxB at e
 split at e
 ·cases e
 ·rename_i hne
  have e := Option.some.inj e
  have h1 := zoD hne
  have h2 := fun g (hg : g ∈ ks.filter fun k => decide (k < n)) => zq2 hg
  rw [e] at h1 h2
  rw [List.mem_filter] at h1
  exact ⟨h1.1,by simpa using h1.2,fun g hg hlt => h2 g (List.mem_filter.mpr ⟨hg,by simpa using hlt⟩)⟩
theorem zj8 {n : Int} {ks : List Int} (e : mxB n ks = none) : ∀ g ∈ ks,n <= g := fun g hg => by
 unfold mxB at e
 split at e
 ·rename_i h
  have := List.filter_eq_nil_iff.mp h g hg
  simp at this
  exact this
 ·cases e
end
section
variable {m : Sto} {k h : Nat} {pt : Pt} {top : Option Int} {hl : List (Int × List Int)} {n t : Int}
def zcA (top : Option Int) (n : Int) : Int := match top with
 | none => n
 | some t => if t < n then n else t
theorem Fr.app {p q : Nat} {m r : Sto} : Fr p q m (m ++ r) := ⟨by rw [List.length_append]; omega,fun j hj _ _ => List.getElem?_append_left hj⟩
theorem zjV (x : RdAt m k h pt top hl) (hl' : hl.length < 64) (hn : (ksH hl).Nodup) : Run (za3 [.ob k,.int n] m) fun a m' => a = .non /\ RdAt m' k m.length pt (some (zcA top n)) (zcu hl (zcA top n - pt.rd.late)) /\ Fr k h m m' := by
 have e1 : (eIf (tV (eOp isD (zcy "Reader" "highest" (zae 0)) (eC .non))) (zae 1) (eFn zh7 (zac (zcy "Reader" "highest" (zae 0)) (zac (zae 1) zaj)))) [some (.ob k),some (.int n)] m = .ok (zfZ (some (zcA top n))) m := by
  erw [x.high]
  cases top with
  | none => simp only [zfZ]; ac_nf; rfl
  | some t =>
   simp only [zfZ]; erw [x.high]; simp only [zfZ]; ac_nf
   rfl
 unfold za3 zez
 have key : ∀ (fo : EV) (s : SV),Run ((zap (zec "Reader" "highest" (zae 0) fo) s [some (.ob k),some (.int n)] m).bind zkp) = Run ((((fo [some (.ob k),some (.int n)] m).bind fun y m1 => (zn0 "Reader" "highest" (.ob k) y m1).bind fun _ m3 => s [some (.ob k),some (.int n)] m3)).bind zkp) := by
  intro fo s
  congr 2
  unfold zap zec
  cases fo [some (.ob k),some (.int n)] m with
  | ok y m1 =>
   simp only [bind_ok]
   show Res.bind (Res.bind (Res.bind (zae 0 [some (.ob k),some (.int n)] m1) _) _) _ = _
   show Res.bind (Res.bind (zn0 "Reader" "highest" (.ob k) y m1) _) _ = _
   cases zn0 "Reader" "highest" (.ob k) y m1 <;> rfl
  | exc => rfl
  | bad => rfl
 rw [show zbf 2 (zap (zec "Reader" "highest" (zae 0) (eIf (tV (eOp isD (zcy "Reader" "highest" (zae 0)) (eC .non))) (zae 1) (eFn zh7 (zac (zcy "Reader" "highest" (zae 0)) (zac (zae 1) zaj))))) (zec "Reader" "held" (zae 0) (eFn zbn (zac (zcy "Reader" "held" (zae 0)) (zac (zda "Reader" "least" zaF (zae 0) zaj) zaj))))) [.ob k,.int n] m = Res.bind (zap (zec "Reader" "highest" (zae 0) (eIf (tV (eOp isD (zcy "Reader" "highest" (zae 0)) (eC .non))) (zae 1) (eFn zh7 (zac (zcy "Reader" "highest" (zae 0)) (zac (zae 1) zaj))))) (zec "Reader" "held" (zae 0) (eFn zbn (zac (zcy "Reader" "held" (zae 0)) (zac (zda "Reader" "least" zaF (zae 0) zaj) zaj)))) [some (.ob k),some (.int n)] m) zkp from rfl,key,e1,bind_ok,zhE x.self (by show 3 < 1000; decide),bind_ok]
 have x1 : RdAt (m.set k (.ins "Reader" (rdF pt.e (some (zcA top n)) h))) k h pt (some (zcA top n)) hl := ⟨zbN x.self,by rw [zaY x.kh]; exact x.dct,x.kh⟩
 have f1 : Fr k h m (m.set k (.ins "Reader" (rdF pt.e (some (zcA top n)) h))) := Fr.set
 have l1 : (m.set k (.ins "Reader" (rdF pt.e (some (zcA top n)) h))).length = m.length := List.length_set ..
 rw [show zhT "highest" (zfZ (some (zcA top n))) (rdF pt.e top h) = rdF pt.e (some (zcA top n)) h from rfl]; generalize m.set k (.ins "Reader" (rdF pt.e (some (zcA top n)) h)) = m1 at x1 f1 l1 ⊢; erw [x1.held]; erw [if_pos (x1.meth rfl)]; erw [zg1 x1]; erw [zpF x1.dct hl' hn]; ac_nf
 have x2 := x1.app (r := [.dct (hlD (zcu hl (zcA top n - pt.rd.late)))])
 rw [zhE x2.self (by show 3 < 1000; decide)]; ac_nf
 have hkl := x1.lt
 refine Run.ok ⟨rfl,⟨?_,?_,by omega⟩,(f1.trans Fr.app).trans Fr.set⟩
 ·rw [zbN x2.self]
  rfl
 ·rw [zaY (by omega),<- l1]
  simp
end
theorem zou {pt : Pt} {at' : Option Nat} {num bits : List Nat} {ck : Int} {m : Sto} (h : PtW pt) (hl : LtB pt at' (num ++ bits) ck) (hq : num.length = (za1 pt at').b) : zeh [pt.e,.str ⟨(ltB pt at' (num ++ bits) ck).toArray⟩] m = .ok (.tup [onD at',.int (zdq num),.str ⟨bits.toArray⟩,.int ck]) m := by
 have hb := zpk h hl.a
 have hn := zqY hl
 have hc0 := hl.c0
 have hc1 := hl.c1
 have h0 := h.n0
 have hll := hl.l
 rw [List.length_append] at hll
 have e1 : ∀ m,ixD (za1 pt at').e (.int 1) m = .ok (.int (za1 pt at').b) m := fun m => ix_t1 _ _ _
 have ez : lsz pt at' = wdN (1 + pt.fms.length) + (za1 pt at').b + (zdg pt.fs (za1 pt at').wys).sum + wdN pt.n.toNat := rfl
 have ed : (ltB pt at' (num ++ bits) ck).drop (lsz pt at' - wdN pt.n.toNat) = dgs ck (wdN pt.n.toNat) := by
  unfold ltB; rw [<- List.append_assoc]
  exact List.drop_left' (by rw [List.length_append,zau,hl.l]; omega)
 have en : ((ltB pt at' (num ++ bits) ck).drop (wdN (1 + pt.fms.length))).take (za1 pt at').b = num := by
  unfold ltB; rw [List.drop_left' (zau _ _),List.append_assoc]
  exact List.take_left' hq
 have eb : ((ltB pt at' (num ++ bits) ck).drop (wdN (1 + pt.fms.length) + (za1 pt at').b)).take (lsz pt at' - wdN pt.n.toNat - (wdN (1 + pt.fms.length) + (za1 pt at').b)) = bits := by
  unfold ltB; rw [<- List.drop_drop,List.drop_left' (zau _ _),List.append_assoc,List.drop_left' hq]
  exact List.take_left' (by omega)
 apply zar
 unfold zeh zki; erw [znP (zqZ hl)]; erw [show zce [pt.e,.str ⟨(ltB pt at' (num ++ bits) ck).toArray⟩] m = .ok (onD at') m from zkJ h hl.a (by rw [show (dgs (zkH at') (wdN (1 + pt.fms.length)) ++ ((num ++ bits) ++ dgs ck (wdN pt.n.toNat))).length = lsz pt at' from hn]; omega)]; erw [zmU (by omega)]; erw [zh8 h hl.a,hn]
 erw [ziQ h]; erw [zd1 h hl.a]; erw [e1]; erw [zmU (by omega),hn]; erw [zkx h]; erw [show ((lsz pt at' : Nat) : Int) - (wdN pt.n.toNat : Nat) = ((lsz pt at' - wdN pt.n.toNat : Nat) : Int) by omega,zo7 (by omega) (by omega),ed]; erw [zhi (zdx _ _),zmB hc0 (by omega)]; ac_nf
 rw [zfG]; erw [show ixD (shD pt.fs pt.n) (.int 1) m = .ok (.int pt.n) m from ix_t1 _ _ _]; erw [if_neg (by omega)]; erw [show ((wdN (1 + pt.fms.length) : Nat) : Int) + ((za1 pt at').b : Nat) = ((wdN (1 + pt.fms.length) + (za1 pt at').b : Nat) : Int) by omega,zo5 (by omega) (by omega) (by omega),Nat.add_sub_cancel_left,en]; erw [zhi (fun c hc => hl.b c (List.mem_append_left _ hc))]
 erw [zo5 (by omega) (by omega) (by omega),eb]; erw [show zbi [onD at',.int (zdq num),.str ⟨bits.toArray⟩,.int ck] m = .ok (.tup [onD at',.int (zdq num),.str ⟨bits.toArray⟩,.int ck]) m from if_pos (zbq (by simp))]; ac_nf; exact Run.ok ⟨rfl,rfl⟩
def ckI (pt : Pt) (number : Int) (hd : List Int) : Int := (number + ckS hd) % pt.n
def ckFn (d : D) : D := match d with
 | .tup [.int i,.int v] => D.int ((i + 2) * v)
 | _ => .non
theorem znv (hd : List Int) : (zbL 0 (hd.map D.int)).map ckFn = ((List.range hd.length).map fun i : Nat => (((0 + i : Nat) : Int) + 2) * hd.getD i 0).map D.int := zks hd hd 0
theorem znI {pt : Pt} {number : Int} {hd : List Int} {m : Sto} (h : PtW pt) (hh : HdOk pt.fs hd) : zc4 [shD pt.fs pt.n,.int number,zb7 hd] m = .ok (.int (ckI pt number hd)) m := by
 have hl := hh.len
 have h1 := h.f1
 apply zar
 unfold zc4 zis zb7; ac_nf
 rw [zd6 (ds := zbL 0 (hd.map D.int)) ckFn (by ac_nf) (by rw [zd2]; omega) (by
  intro d hd'
  obtain ⟨i,hi⟩ := List.mem_iff_getElem?.mp hd'
  obtain ⟨v,hv,rfl⟩ := zfS hi
  have hil := (List.getElem?_eq_some_iff.mp hv).1
  refine ⟨_,rfl,?_⟩
  show (eOp zc2 (eOp za2 (zae 3) (eC (.int 2))) (zae 4)) [some (shD pt.fs pt.n),some (.int number),some (.tup (hd.map D.int)),some (.int ((0 + i : Nat) : Int)),some (.int v)] m = _
  erw [zgc ⟨by omega,by omega⟩]
  rfl)]
 ac_nf
 rw [znv hd,sum_i ⟨fun a ha' => by
  simp only [List.mem_map,List.mem_range] at ha'
  obtain ⟨i,hi,rfl⟩ := ha'
  have e1 := List.getElem?_eq_getElem (show i < pt.fs.length by omega)
  have e2 := List.getElem?_eq_getElem hi
  obtain ⟨v0,v1⟩ := hh.at' i _ _ e1 e2
  have hB := p2le (h.sh i _ e1).2.1
  simp only [List.getD,e2,Option.getD_some]
  have hk : ((0 + i : Nat) : Int) + 2 <= 14 := by omega
  have hk0 : 0 <= ((0 + i : Nat) : Int) + 2 := by omega
  generalize ((0 + i : Nat) : Int) + 2 = q at hk hk0; generalize hd[i] = v at v0 v1
  refine ⟨Int.mul_nonneg hk0 v0,?_⟩
  have : q * v <= 14 * v := Int.mul_le_mul_of_nonneg_right hk v0
  omega,by simp; omega⟩]
 erw [show ixD (shD pt.fs pt.n) (.int 1) m = .ok (.int pt.n) m from ix_t1 _ _ _]; erw [zbx h.n0]
 refine Run.ok ⟨?_,rfl⟩
 unfold ckI ckS; simp only [Nat.zero_add]
theorem wsW (pt : Pt) : zdg pt.fs (fmW pt).wys = pt.fs.map fun f => f.b := by
 unfold zdg fmW
 induction pt.fs with
 | nil => rfl
 | cons f r ih =>
  show Wy.w f.b .whole :: List.zipWith (fun f w => Wy.w f.b w) r (List.replicate r.length .whole) = _
  rw [ih]
  rfl
section
variable {m : Sto} {k h : Nat} {pt : Pt} {top : Option Int} {hl : List (Int × List Int)} {n t : Int}
theorem zij {at' : Option Nat} {bits : List Nat} (x : RdAt m k h pt top hl) (hp : PtW pt) (ha : zfd pt at') (hl' : hl.length < 64) (hb : Bin bits) (hbl : bits.length = (zdg pt.fs (za1 pt at').wys).sum) (hf : at' ≠ none -> ∃ f,mxB n (ksH hl) = some f) (hhs : ∀ p ∈ hl,HdOk pt.fs p.2) :
  zaS [.ob k,onD at',.int n,.str ⟨bits.toArray⟩] m = .ok (zb7 (zcv pt hl at' n bits)) m := by
 have h1 := hp.f1
 have hfm := zeI hp ha
 have hsz : bits.length <= 700 := by
  have := (zpk hp ha).2
  unfold lsz at this
  omega
 have hsl : (⟨bits.toArray⟩ : Str).length <= sizeLine := by
  show bits.toArray.size <= sizeLine
  rw [List.size_toArray]
  exact Nat.le_trans hsz (by decide)
 apply zar
 unfold zaS zcx
 cases at' with
 | none =>
  simp only [onD]; erw [x.pact]; erw [zfG]; erw [zar (zeK (by omega))]; ac_nf
  rw [show (pt.fs.map fun f => D.int f.b) = (pt.fs.map fun f => f.b).map (fun k : Nat => D.int k) by rw [List.map_map]; rfl,zar (zfv (z := ⟨bits.toArray⟩) hb hsl (by
   show _ <= bits.toArray.size
   rw [List.size_toArray,hbl,show za1 pt none = fmW pt from rfl,wsW]
   exact Nat.le_refl _) (by rw [List.length_map]; omega))]
  ac_nf; exact Run.ok ⟨rfl,rfl⟩
 | some i =>
  obtain ⟨f,hf⟩ := hf (by simp)
  obtain ⟨hm,_,_⟩ := zfx hf
  obtain ⟨fo,e1,e2⟩ := zeW hm
  simp only [onD]; erw [if_pos (x.meth rfl)]; erw [zpi x hl',hf]; simp only [zfZ]; erw [x.pact]; erw [zfG]; erw [x.pact]; erw [show za7 [pt.e,.int i] m = .ok (za1 pt (some i)).e m from zd1 (at' := some i) hp ha]; erw [x.held]; erw [ix_h x.dct e1]; ac_nf
  unfold Fm.e zb7
  rw [zar (zkU hp.sh h1 hfm.wy (hhs _ e2) (z := ⟨bits.toArray⟩) hb hsl (by show bits.toArray.size = _; rw [List.size_toArray]; exact hbl))]; ac_nf
  refine Run.ok ⟨?_,rfl⟩
  unfold zcv; simp only [hf,e1,Option.getD_some]
end
def zga (x : Str) : D := .tup [.str "not", .str x]
def twD (n : Int) : D := .tup [.str "twice", .int n]
def rdD (n : Int) (hd : List Int) : D := .tup [.str "read", .int n,zb7 hd]
def zph (pt : Pt) (top : Option Int) (at' : Option Nat) (r : Int) : Int := match at',top with
 | some i,some t => (t - pt.rd.late) + (r - (t - pt.rd.late)) % 2 ^ (za1 pt (some i)).b
 | _,_ => r
def rdN (pt : Pt) (top : Option Int) (hl : List (Int × List Int)) (at' : Option Nat) (n : Int) (bits : List Nat) (ck : Int) : D × Option Int × List (Int × List Int) :=
 if zgd pt top n = true then (zga "late", top,hl)
 else if n ∈ ksH hl then (twD n,top,hl)
 else if at' ≠ none /\ znS hl n (za1 pt at').a = true then (zga "far", some (zcA top n),zcu hl (zcA top n - pt.rd.late))
 else if ckI pt n (zcv pt hl at' n bits) ≠ ck then (zga "check", top,hl)
 else (rdD n (zcv pt hl at' n bits),some (zcA top n),zcu (hl ++ [(n,zcv pt hl at' n bits)]) (zcA top n - pt.rd.late))
def rdV (pt : Pt) (top : Option Int) (hl : List (Int × List Int)) (at' : Option Nat) (r : Int) (bits : List Nat) (ck : Int) : D × Option Int × List (Int × List Int) :=
 if at' ≠ none /\ top = none then (zga "blank", top,hl) else rdN pt top hl at' (zph pt top at' r) bits ck
def zlZ : SV := by walk_at "#,gz$z%1fCvE/vG%z&JvlBCvzu:vNwD]Oxsuy5u7Ow<gx8x9w!u,v-Cvz"
def zlY : SV := by walk_at "#uLvYgyzy{w!vNy|]q|V5uyu,y}C]uLvFwC7hvYgy~z!1CJ%v^wqvBB$Ow<gx8x9w!vNz#]|W"
theorem znl : zeA = (zap (zaB (eFn zeh (zac (zcy "Reader" "pact" (zae 0)) (zac (zae 1) zaj))) (gT 4 (zaL (gN 2) (zaL (gN 3) (zaL (gN 4) (zaL (gN 5) zeT))))))
 (zap (sIf (tV (eOp zge (zae 2) (eC .non)))
 (zap (sIf (tV (eOp isD (zcy "Reader" "highest" (zae 0)) (eC .non)))
 (zaJ (eFn zbi (zac (eC (.str "not")) (zac (eC (.str "blank")) zaj))))
 zbG)
 (zaB (eFn zbg (zac (zda "Reader" "least" zaF (zae 0) zaj) (zac (zae 3) (zac (eOp ixD (eFn za7 (zac (zcy "Reader" "pact" (zae 0)) (zac (zae 2) zaj))) (eC (.int 1))) zaj)))) (gN 3)))
 zbG) zlY)) := rfl
theorem zkC {l r : Int} {w : Nat} {m : Sto} (hw : w <= 1000000) : zbg [.int l,.int r,.int w] m = .ok (.int (l + (r - l) % 2 ^ w)) m := by
 apply zar
 unfold zbg zef; erw [zar (zb8 hw)]; ac_nf; exact Run.ok ⟨rfl,rfl⟩
theorem put_h {m : Sto} {h : Nat} {hl : List (Int × List Int)} {n : Int} {x : List Int} (hk : m[h]? = some (.dct (hlD hl))) (hn : n ∉ ksH hl) (hl' : hl.length < 1000) : zf5 (.ob h) (.int n) (zb7 x) m = .ok () (m.set h (.dct (hlD (hl ++ [(n,x)])))) := by
 unfold zf5; simp only [hk,zie]; rw [if_pos (by rw [hlD,List.length_map]; exact zcj (by omega)),zg4 (by rw [zff,vlH_none.mpr hn]; rfl)]
 congr 3
 unfold hlD; rw [List.map_append]
 rfl
section
variable {m : Sto} {k h : Nat} {pt : Pt} {top : Option Int} {hl : List (Int × List Int)} {n t : Int} {at' : Option Nat} {bits : List Nat} {ck : Int}
def RdB (m : Sto) (k h : Nat) (pt : Pt) (v : D × Option Int × List (Int × List Int)) (a : D) (m' : Sto) : Prop := ∃ h',a = v.1 /\ RdAt m' k h' pt v.2.1 v.2.2 /\ Fr k h m m' /\ (h' = h ∨ m.length <= h')
theorem zjL {x1 x6 : Option D} (x : RdAt m k h pt top hl) (hp : PtW pt) (ha : zfd pt at') (hl' : hl.length < 63) (hn : (ksH hl).Nodup) (hb : Bin bits) (hbl : bits.length = (zdg pt.fs (za1 pt at').wys).sum) (hhs : ∀ p ∈ hl,HdOk pt.fs p.2)
  (hok : zgd pt top n = false -> n ∉ ksH hl -> (at' = none ∨ znS hl n (za1 pt at').a = false) -> HdOk pt.fs (zcv pt hl at' n bits)) :
  Run ((zlY [some (.ob k),x1,some (onD at'),some (.int n),some (.str ⟨bits.toArray⟩),some (.int ck),x6] m).bind zkp) (RdB m k h pt (rdN pt top hl at' n bits ck)) := by
 unfold zlY; erw [if_pos (x.meth rfl)]; erw [late_w x]
 unfold rdN
 cases hlt : zgd pt top n with
 | true =>
  rw [if_pos rfl]; ac_nf; exact Run.ok ⟨h,rfl,x,Fr.refl,.inl rfl⟩
 | false =>
 rw [if_neg Bool.false_ne_true]; erw [x.held]; erw [in_h x.dct]
 by_cases hk : n ∈ ksH hl
 ·obtain ⟨y,hy,_⟩ := zeW hk
  rw [if_pos hk,hy]; simp only [Option.isSome_some]; ac_nf; exact Run.ok ⟨h,rfl,x,Fr.refl,.inl rfl⟩
 rw [if_neg hk,vlH_none.mpr hk]; simp only [Option.isSome_none]; ac_nf
 have last : (at' = none ∨ znS hl n (za1 pt at').a = false) -> Run ((zlZ [some (.ob k),x1,some (onD at'),some (.int n),some (.str ⟨bits.toArray⟩),some (.int ck),x6] m).bind zkp)
  (RdB m k h pt (if ckI pt n (zcv pt hl at' n bits) ≠ ck then (zga "check", top,hl) else (rdD n (zcv pt hl at' n bits),some (zcA top n),zcu (hl ++ [(n,zcv pt hl at' n bits)]) (zcA top n - pt.rd.late)))) := by
  intro hfar
  have hh := hok hlt hk hfar
  unfold zlZ; erw [if_pos (x.meth rfl)]; ac_nf
  rw [zij x hp ha (by omega) hb hbl (fun hne => by
   rcases hfar with z | z
   ·exact absurd z hne
   ·unfold znS at z
    cases e : mxB n (ksH hl) with
    | none => rw [e] at z; cases z
    | some f => exact ⟨f,rfl⟩) hhs]
  erw [x.pact]; erw [zfG]; erw [znI hp hh]; ac_nf
  by_cases hck : ckI pt n (zcv pt hl at' n bits) = ck
  ·rw [if_neg (by simpa using hck)]; rw [if_neg (not_not_intro hck)]; erw [x.held]; erw [put_h x.dct hk (by omega)]; ac_nf
   have x2 : RdAt (m.set h (.dct (hlD (hl ++ [(n,zcv pt hl at' n bits)])))) k h pt top (hl ++ [(n,zcv pt hl at' n bits)]) := ⟨by rw [zaY (Ne.symm x.kh)]; exact x.self,zbN x.dct,x.kh⟩
   have f2 : Fr k h m (m.set h (.dct (hlD (hl ++ [(n,zcv pt hl at' n bits)])))) := Fr.set'
   have l2 : (m.set h (.dct (hlD (hl ++ [(n,zcv pt hl at' n bits)])))).length = m.length := List.length_set ..
   generalize m.set h (.dct (hlD (hl ++ [(n,zcv pt hl at' n bits)]))) = m2 at x2 f2 l2 ⊢; rw [if_pos (x2.meth rfl)]; ac_nf
   refine Run.bind (zjV x2 (by rw [List.length_append]; show hl.length + 1 < 64; omega) (by
    unfold ksH at hn hk ⊢
    rw [List.map_append,List.nodup_append]
    refine ⟨hn,by simp,fun a ha b hb e => hk ?_⟩
    have : b = n := by simpa using hb
    rw [<- this,<- e]
    exact ha)) ?_
   rintro _ m3 ⟨rfl,x3,f3⟩; ac_nf; exact Run.ok ⟨_,rfl,x3,f2.trans f3,.inr (by omega)⟩
  ·rw [if_pos (by simpa using hck)]; rw [if_pos hck]; ac_nf; exact Run.ok ⟨h,rfl,x,Fr.refl,.inl rfl⟩
 cases at' with
 | none =>
  rw [if_neg (by simp)]
  have := last (.inl rfl)
  simp only [onD] at this ⊢
  ac_nf
  exact this
 | some i =>
  simp only [onD] at last ⊢
  erw [if_pos (x.meth rfl)]; erw [x.pact]; erw [show za7 [pt.e,.int i] m = .ok (za1 pt (some i)).e m from zd1 (at' := some i) hp ha]; erw [show ixD (za1 pt (some i)).e (.int 0) m = .ok (.int (za1 pt (some i)).a) m from ix_t0 _ _]; erw [far_w x (by omega)]
  cases hf : znS hl n (za1 pt (some i)).a with
  | true =>
   rw [if_pos ⟨by simp,rfl⟩]; erw [if_pos (x.meth rfl)]; ac_nf; refine Run.bind (zjV x (by omega) hn) ?_; rintro _ m3 ⟨rfl,x3,f3⟩; ac_nf; exact Run.ok ⟨_,rfl,x3,f3,.inr (Nat.le_refl _)⟩
  | false =>
   rw [if_neg (by simp)]
   have := last (.inr hf)
   ac_nf
   exact this
theorem zob {num : List Nat} (x : RdAt m k h pt top hl) (hp : PtW pt) (hL : LtB pt at' (num ++ bits) ck) (hq : num.length = (za1 pt at').b) (hl' : hl.length < 63) (hn : (ksH hl).Nodup) (hhs : ∀ p ∈ hl,HdOk pt.fs p.2)
  (hok : zgd pt top (zph pt top at' (zdq num)) = false -> zph pt top at' (zdq num) ∉ ksH hl -> (at' = none ∨ znS hl (zph pt top at' (zdq num)) (za1 pt at').a = false) -> HdOk pt.fs (zcv pt hl at' (zph pt top at' (zdq num)) bits)) :
  Run (zaP [.ob k,.str ⟨(ltB pt at' (num ++ bits) ck).toArray⟩] m) (RdB m k h pt (rdV pt top hl at' (zdq num) bits ck)) := by
 have hb : Bin bits := fun c hc => hL.b c (List.mem_append_right _ hc)
 have hbl : bits.length = (zdg pt.fs (za1 pt at').wys).sum := by
  have := hL.l
  rw [List.length_append] at this
  omega
 have hb1 := (zeI hp hL.a).b1
 unfold zaP; rw [znl]; erw [x.pact]; erw [zou hp hL hq]; ac_nf
 unfold rdV
 cases at' with
 | none =>
  rw [if_neg (by simp)]
  have := zjL (x1 := some (.str ⟨(ltB pt none (num ++ bits) ck).toArray⟩)) (x6 := none) x hp hL.a hl' hn hb hbl hhs (n := zph pt top none (zdq num)) (ck := ck) hok
  simp only [onD] at this ⊢
  ac_nf
  exact this
 | some i =>
  simp only [onD]; erw [x.high]
  cases top with
  | none =>
   simp only [zfZ]; rw [if_pos ⟨by simp,by simp⟩]; ac_nf; exact Run.ok ⟨h,rfl,x,Fr.refl,.inl rfl⟩
  | some t =>
   simp only [zfZ]; rw [if_neg (by simp)]; erw [if_pos (x.meth rfl)]; erw [zg1 x]; erw [x.pact]; erw [show za7 [pt.e,.int i] m = .ok (za1 pt (some i)).e m from zd1 (at' := some i) hp hL.a]; erw [show ixD (za1 pt (some i)).e (.int 1) m = .ok (.int (za1 pt (some i)).b) m from ix_t1 _ _ _]; erw [zkC (by omega)]
   have := zjL (x1 := some (.str ⟨(ltB pt (some i) (num ++ bits) ck).toArray⟩)) (x6 := none) x hp hL.a hl' hn hb hbl hhs (n := zph pt (some t) (some i) (zdq num)) (ck := ck) hok
   simp only [onD] at this
   ac_nf
   exact this
end
theorem mxB_iff {n f : Int} {ks : List Int} : mxB n ks = some f ↔ f ∈ ks /\ f < n /\ ∀ g ∈ ks,g < n -> g <= f := by
 constructor
 ·exact zfx
 ·rintro ⟨h1,h2,h3⟩
  cases e : mxB n ks with
  | none => have := zj8 e f h1; omega
  | some g =>
   obtain ⟨g1,g2,g3⟩ := zfx e
   have a := h3 g g1 g2
   have b := g3 f h1 h2
   congr 1
   omega
def kpF (e : Int) (ns : List Int) : List Int := zdk (ns.filter fun x => decide (e <= x) || decide (mxB e ns = some x))
theorem mem_kpF {e x : Int} {ns : List Int} : x ∈ kpF e ns ↔ x ∈ ns /\ (e <= x ∨ mxB e ns = some x) := by
 unfold kpF; rw [(zbk _).mem_iff,List.mem_filter]
 simp
theorem zia {e : Int} {ns : List Int} (h : ns.Nodup) : (kpF e ns).Nodup := (zbk _).nodup_iff.mpr (h.sublist List.filter_sublist)
theorem zq3 (e : Int) (ns : List Int) : (kpF e ns).length <= ns.length := by
 unfold kpF; rw [zfj]
 exact List.length_filter_le _ _
theorem zle (e : Int) (ns : List Int) : (kpF e ns).Pairwise (· <= ·) := zcH _
theorem zkI {a b : List Int} (ha : a.Nodup) (hb : b.Nodup) (sa : a.Pairwise (· <= ·)) (sb : b.Pairwise (· <= ·)) (h : ∀ x,x ∈ a ↔ x ∈ b) : a = b :=
 PySem.W.ksm_same ((List.perm_ext_iff_of_nodup ha hb).mpr h) sa sb
theorem zib {e : Int} {ks : List Int} (hn : ks.Nodup) : ((zdk ks).filter fun k => decide ((mxB e ks).getD e <= k)) = kpF e ks := by
 refine zkI ((((zbk _).nodup_iff.mpr hn)).sublist List.filter_sublist) (zia hn) ((zcH ks).sublist List.filter_sublist) (zle _ _) fun x => ?_
 rw [List.mem_filter,(zbk _).mem_iff,mem_kpF]
 constructor
 ·rintro ⟨h1,h2⟩
  refine ⟨h1,?_⟩
  have h2 : (mxB e ks).getD e <= x := by simpa using h2
  cases h : mxB e ks with
  | none => rw [h] at h2; exact .inl h2
  | some f =>
   rw [h] at h2
   obtain ⟨a,b,c⟩ := zfx h
   rcases Int.lt_or_le x e with q | q
   ·right
    have := c x h1 q
    have h2 : f <= x := h2
    congr 1
    omega
   ·exact .inl q
 ·rintro ⟨h1,h2⟩
  refine ⟨h1,?_⟩
  simp only [decide_eq_true_eq]
  cases h : mxB e ks with
  | none => exact zj8 h x h1
  | some f =>
   rw [h] at h2
   obtain ⟨a,b,c⟩ := zfx h
   show f <= x
   rcases h2 with h2 | h2
   ·omega
   ·have := Option.some.inj h2
    omega
theorem zhk {hl : List (Int × List Int)} {e : Int} (hn : (ksH hl).Nodup) : ksH (zcu hl e) = kpF e (ksH hl) := by
 rw [<- zib hn]
 unfold ksH zcu lstV; rw [List.map_map]
 exact List.map_id _
section
variable {m : Sto} {k h : Nat} {pt : Pt} {top : Option Int} {hl : List (Int × List Int)} {n t : Int}
theorem zo8 (x : RdAt m k h pt top hl) : zbo [.ob k] m = .ok (zfZ top) m := by
 apply zar
 unfold zbo zfN; erw [x.high]; ac_nf; exact Run.ok ⟨rfl,rfl⟩
theorem zlV (x : RdAt m k h pt top hl) : zaX [.ob k] m = .ok (.ob m.length) (m ++ [.dct (hlD hl)]) := by
 have key : Run (zaX [.ob k] m) fun a m' => a = .ob m.length /\ m' = m ++ [.dct (hlD hl)] := by
  unfold zaX zeB; erw [x.held]; erw [show dctF [.ob h] m = .ok (.ob m.length) (m ++ [.dct (hlD hl)]) by unfold dctF; simp only [x.dct]]; ac_nf; exact Run.ok ⟨rfl,rfl⟩
 obtain ⟨a,m',e,rfl,rfl⟩ := key
 exact e
theorem zpV (pt : Pt) (m : Sto) : Run (mkM "Reader" zby [pt.e] m) fun a m' => a = .ob m.length /\ RdAt m' m.length (m.length + 1) pt none [] /\ ∃ r,m' = m ++ r := by
 unfold mkM zby zeC; ac_nf
 have e0 : ∀ fs : List (Str × D),(m ++ [MO.ins "Reader" fs])[m.length]? = some (.ins "Reader" fs) := fun fs => by simp
 have es0 : ∀ fs gs : List (Str × D),(m ++ [MO.ins "Reader" fs]).set m.length (.ins "Reader" gs) = m ++ [.ins "Reader" gs] := fun fs gs => by
  rw [List.set_append_right _ _ (Nat.le_refl _),Nat.sub_self]; rfl
 rw [zhE (e0 _) (by show 0 < 1000; decide),es0]; erw [zhE (e0 _) (by show 1 < 1000; decide),es0]; erw [show ∀ (ρ : En) (m : Sto),zhp [] ρ m = .ok (.ob m.length) (m ++ [.dct []]) from fun _ _ => rfl]; ac_nf
 have e1 : ∀ fs : List (Str × D),(m ++ [MO.ins "Reader" fs] ++ [MO.dct []])[m.length]? = some (.ins "Reader" fs) := fun fs => by simp
 have es : ∀ fs gs : List (Str × D),(m ++ [MO.ins "Reader" fs] ++ [MO.dct []]).set m.length (.ins "Reader" gs) = m ++ [.ins "Reader" gs] ++ [.dct []] := fun fs gs => by
  rw [List.append_assoc,List.set_append_right _ _ (Nat.le_refl _),Nat.sub_self,List.append_assoc]; rfl
 have el : ∀ fs : List (Str × D),(m ++ [MO.ins "Reader" fs]).length = m.length + 1 := fun fs => by simp
 rw [el,zhE (e1 _) (by show 2 < 1000; decide),es]; ac_nf
 refine Run.ok ⟨rfl,⟨by rw [e1]; rfl,?_,by omega⟩,_,by rw [List.append_assoc]⟩
 rw [List.getElem?_append_right (by simp)]
 simp [hlD]
end
theorem zkd {m : Sto} {o : MO} {n : Nat} (h : n = m.length) : (m ++ [o])[n]? = some o := by
 subst h
 simp
theorem zoI {a b : List (Int × List Int)} (h : a.Perm b) : (ksH a).Perm (ksH b) := h.map _
theorem zd9 {a : List (Int × List Int)} (h : (ksH a).Nodup) {p : Int × List Int} (hp : p ∈ a) : vlH a p.1 = some p.2 := by
 induction a with
 | nil => cases hp
 | cons q r ih =>
  obtain ⟨h1,h2⟩ := List.nodup_cons.mp (show (q.1 :: ksH r).Nodup from h)
  unfold vlH
  rcases List.mem_cons.mp hp with rfl | hp
  ·rw [if_pos rfl]
  ·rw [if_neg fun z => h1 (by rw [z]; exact List.mem_map_of_mem hp)]
   exact ih h2 hp
theorem zfz {hl : List (Int × List Int)} {e : Int} (hn : (ksH hl).Nodup) {p : Int × List Int} : p ∈ zcu hl e ↔ p ∈ hl /\ (e <= p.1 ∨ mxB e (ksH hl) = some p.1) := by
 have hk := zhk (e := e) hn
 constructor
 ·intro h
  have h1 : p.1 ∈ kpF e (ksH hl) := by rw [<- hk]; exact List.mem_map_of_mem h
  obtain ⟨h2,h3⟩ := mem_kpF.mp h1
  refine ⟨?_,h3⟩
  unfold zcu at h
  obtain ⟨k,_,rfl⟩ := List.mem_map.mp h
  obtain ⟨x,e1,e2⟩ := zeW h2
  simp only [e1,Option.getD_some]
  exact e2
 ·rintro ⟨h1,h2⟩
  have h3 : p.1 ∈ kpF e (ksH hl) := mem_kpF.mpr ⟨List.mem_map_of_mem h1,h2⟩
  rw [<- zib hn] at h3
  unfold zcu lstV
  refine List.mem_map.mpr ⟨p.1,h3,?_⟩
  rw [zd9 hn h1]
  rfl
theorem zfF {hl : List (Int × List Int)} {e : Int} (hn : (ksH hl).Nodup) : (ksH (zcu hl e)).Nodup := by rw [zhk hn]; exact zia hn
theorem zoJ {a : List (Int × List Int)} {e : Int} (hn : (ksH a).Nodup) : (zcu a e).length <= a.length := by
 have h1 : (ksH (zcu a e)).length <= (ksH a).length := by rw [zhk hn]; exact zq3 _ _
 unfold ksH at h1
 rwa [List.length_map,List.length_map] at h1
theorem zlQ {a b : List (Int × List Int)} (h : a.Perm b) (hn : (ksH a).Nodup) : zgk (hlD a) (hlD b) = true := by
 have hnb : (ksH b).Nodup := (zoI h).nodup_iff.mp hn
 unfold zgk; rw [Bool.and_eq_true]
 refine ⟨by unfold hlD; rw [List.length_map,List.length_map,h.length_eq]; simp,List.all_eq_true.mpr fun p hp => ?_⟩
 unfold hlD at hp
 obtain ⟨q,hq,rfl⟩ := List.mem_map.mp hp
 simp only [zff,zd9 hnb (h.mem_iff.mp hq),Option.map_some]
 have hd : zcE (zb7 q.2) = true := zoS _
 rw [hd]
 show (true && true && PyData.eqv (py (.tup (q.2.map D.int))) (py (.tup (q.2.map D.int)))) = true
 simp [py,PyData.eqv,zc1,zho]
theorem zkK {a : List (Int × List Int)} {n : Int} {x : List Int} (hn : (ksH a).Nodup) (h : n ∉ ksH a) : (ksH (a ++ [(n,x)])).Nodup := by
 unfold ksH at *
 rw [List.map_append,List.nodup_append]
 refine ⟨hn,by simp,fun y hy c hc e => h ?_⟩
 have : c = n := by simpa using hc
 rw [<- this,<- e]
 exact hy
theorem PtOk.w {pt : Pt} (h : PtOk pt) : PtW pt := ⟨h.n0,h.n1,h.f0,h.f1,h.sh.ok,h.w0,h.w1,h.fm,h.fml⟩
def pc0 (pt : Pt) (hd : List Int) : List Nat := pcK pt.fs (fmW pt).wys hd pt.fs.length
theorem hd33 {pt : Pt} {hl : List (Int × List Int)} {n : Int} {hd : List Int} (h : PtW pt) (hh : HdOk pt.fs hd) : zcv pt hl none n (pc0 pt hd) = hd := by
 show (List.range (pt.fs.map fun f => f.b).length).map (ziP (pc0 pt hd) (pt.fs.map fun f => f.b)) = hd
 apply List.ext_getElem?
 intro i
 rw [List.length_map]
 by_cases hi : i < pt.fs.length
 ·have e1 := List.getElem?_eq_getElem hi
  have e2 : (fmW pt).wys[i]? = some .whole := by simp [fmW,hi]
  have e3 := List.getElem?_eq_getElem (show i < hd.length by rw [hh.len]; exact hi)
  have e4 := zmC (fmW_6 h).wy hh e1 e2 e3
  rw [wsW] at e4
  have e5 := hh.at' i _ _ e1 e3
  rw [e3,List.getElem?_map,List.getElem?_range hi]
  show some _ = _
  congr 1
  exact e4.trans (Int.emod_eq_of_lt e5.1 e5.2)
 ·rw [List.getElem?_eq_none (by simpa using hi),List.getElem?_eq_none (by rw [hh.len]; omega)]
theorem zrd {fs : List Fd} {n : Int} {i : Nat} {f : Fd} {fo ah : List Int} {v more : Int} {m : Sto} (hs : zlr fs) (hf : fs[i]? = some f) (hv : fo[i]? = some v) (v0 : 0 <= v) (v1 : v < 2 ^ f.b) (ha : i <= ah.length) (h1 : -100000 <= more) (h2 : more <= 100000) :
  Run (zbc [shD fs n,.int i,.tup (fo.map D.int),.tup (ah.map D.int),.int more] m) fun a m' => a = .int (exV f.b f.kd v more fo ah) /\ m' = m := by
 obtain ⟨hb0,hb1,hk⟩ := hs i f hf
 unfold zbc zdf shD; erw [zjj hf]; erw [zbS hv]; ac_nf
 have hp := p2 f.b
 have hlt := p2lt hb1
 have hsh := zdy (m := m) (n := f.b) (by omega)
 have fin : ∀ (y : Int) (ρ : En),ρ = [some (.tup [.tup (fs.map Fd.e),.int n]),some (.int i),some (.tup (fo.map D.int)),some (.tup (ah.map D.int)),some (.int more),some f.kd.e,some (.int y)] -> y % 2 ^ f.b = exV f.b f.kd v more fo ah -> Run (Res.bind ((zaJ (eOp zc7 (zae 6) (eOp zhD (eC (.int 1)) (eOp ixD (eOp ixD (eOp ixD (zae 0) (eC (.int 0))) (zae 1)) (eC (.int 1)))))) ρ m) zkp) fun a m' => a = .int (exV f.b f.kd v more fo ah) /\ m' = m := by
  rintro y _ rfl hy; erw [zjj hf]; erw [hsh]; erw [zbx hp]; ac_nf; exact Run.ok ⟨by rw [hy],rfl⟩
 cases hkd : f.kd with
 | step w =>
  rw [hkd] at hk fin
  simp only [Kd.e] at fin ⊢
  erw [zhj ⟨by omega,by omega⟩]; simp only [bind_ok,bind_then,then_at,kop_at,var_0,var_S,add_i,kasg_at,gN_at,List.set_cons_succ,List.set_cons_zero,nx_at,seq_nx]
  exact fin _ _ rfl (by rw [Int.mul_comm]; rfl)
 | turn row =>
  rw [hkd] at fin hk
  simp only [Kd.e] at fin ⊢
  erw [znd]; ac_nf
  by_cases hr : v ∈ row
  ·rw [if_pos hr]; erw [zjK hr]; ac_nf; simp only [List.length_map]
   have hl : 0 < row.length := List.length_pos_of_mem hr
   rw [zbx (by omega)]; ac_nf
   have a0 := Int.emod_nonneg (row.idxOf v + more) (b := row.length) (by omega)
   have a1 := Int.emod_lt_of_pos (row.idxOf v + more) (b := row.length) (by omega)
   have ee : exV f.b (.turn row) v more fo ah = row.getD (((row.idxOf v : Int) + more) % row.length).toNat 0 := if_pos hr
   rw [ee] at fin ⊢
   generalize hx : ((row.idxOf v : Int) + more) % row.length = x at a0 a1 fin ⊢
   obtain ⟨j,rfl⟩ : ∃ j : Nat,x = j := ⟨x.toNat,by omega⟩
   have hj : j < row.length := by omega
   rw [zbS (List.getElem?_eq_getElem hj)]; simp only [bind_ok,bind_then,then_at,kasg_at,gN_at,List.set_cons_succ,List.set_cons_zero,nx_at,seq_nx]
   refine fin _ _ rfl ?_
   rw [Int.toNat_natCast,List.getD_eq_getElem?_getD,List.getElem?_eq_getElem hj,Option.getD_some]
   have := hk.2.2 _ (List.getElem_mem hj)
   exact Int.emod_eq_of_lt this.1 this.2
  ·rw [if_neg hr]; simp only [bind_ok,bind_then,then_at,kif_at,Bool.false_eq_true,reduceIte]
   have := fin v _ rfl ((Int.emod_eq_of_lt v0 v1).trans (if_neg hr).symm)
   erw [zjj hf]; erw [hsh]; erw [zbx hp]; ac_nf; exact Run.ok ⟨by rw [Int.emod_eq_of_lt v0 v1]; exact congrArg D.int (if_neg hr).symm,rfl⟩
 | wth j w =>
  rw [hkd] at hk fin
  simp only [Kd.Ok] at hk
  simp only [Kd.e] at fin ⊢
  ac_nf
  have hj1 : j < ah.length := by omega
  have hj2 : j < fo.length := by have := (List.getElem?_eq_some_iff.mp hv).1; omega
  rw [zbS (List.getElem?_eq_getElem hj1)]; erw [zbS (List.getElem?_eq_getElem hj2)]; erw [zgc (by omega)]; simp only [bind_ok,bind_then,then_at,kop_at,var_0,var_S,add_i,kasg_at,gN_at,List.set_cons_succ,List.set_cons_zero,nx_at,seq_nx]
  refine fin _ _ rfl ?_
  simp only [exV,List.getD_eq_getElem?_getD,List.getElem?_eq_getElem hj1,List.getElem?_eq_getElem hj2,Option.getD_some]
 | still =>
  simp only [Kd.e]; erw [zjj hf]; erw [hsh]; erw [zbx hp]; ac_nf; exact Run.ok ⟨by rw [Int.emod_eq_of_lt v0 v1]; rfl,rfl⟩
 | drawn =>
  simp only [Kd.e]; erw [zjj hf]; erw [hsh]; erw [zbx hp]; ac_nf; exact Run.ok ⟨by rw [Int.emod_eq_of_lt v0 v1]; rfl,rfl⟩
theorem zlv {w : Wy} {b : Nat} {m : Sto} : zbV [w.e,.int b] m = .ok (.int (w.w b : Nat)) m := by
 apply zar
 unfold zbV zeE
 cases w with
 | keep =>
  simp only [Wy.e]; erw [int_bf]; erw [zhj (by decide)]; ac_nf; exact Run.ok ⟨by rw [Int.mul_zero]; rfl,rfl⟩
 | whole =>
  simp only [Wy.e]; erw [show znR [.bl true] m = .ok (.int 1) m from rfl]; erw [zhj (by decide)]; ac_nf; exact Run.ok ⟨by rw [Int.mul_one]; rfl,rfl⟩
 | low w bl =>
  simp only [Wy.e]; ac_nf; exact Run.ok ⟨rfl,rfl⟩
theorem zl9 {fs : List Fd} {n : Int} {wys : List Wy} {hd : List Int} {m : Sto} (hs : zlr fs) (hn : fs.length <= 12) (hw : WyOk fs wys) (hh : HdOk fs hd) : za5 [shD fs n,.tup (wys.map Wy.e),.tup (hd.map D.int)] m = .ok (.str ⟨(pcK fs wys hd fs.length).toArray⟩) m := by
 have hl := hh.len
 apply zar
 unfold za5 zcP shD; ac_nf; refine Run.bind (zaW (fun k ρ m' => ∃ x4 x5 x6 : Option D,ρ = [some (.tup [.tup (fs.map Fd.e),.int n]),some (.tup (wys.map Wy.e)),some (.tup (hd.map D.int)),some (.str ⟨(pcK fs wys hd k).toArray⟩),x4,x5,x6] /\ m' = m) (zbL 0 (fs.map Fd.e)) 0 ⟨_,_,_,rfl,rfl⟩ ?_) ?_
 ·rintro i d ρ m1 hd1 ⟨x4,x5,x6,rfl,rfl⟩
  obtain ⟨f,e1,rfl⟩ := zfS hd1
  have hi := (List.getElem?_eq_some_iff.mp e1).1
  obtain ⟨b0,b1,_⟩ := hs i f e1
  have e2 := List.getElem?_eq_getElem (show i < hd.length by omega)
  have e3 := List.getElem?_eq_getElem (show i < wys.length by rw [hw.len]; exact hi)
  generalize wys[i]'(by rw [hw.len]; exact hi) = wy at e3
  have hwl := Wy.w_le (hw.at' i f wy e1 e3)
  have hpl := zcJ hw hh i (by omega)
  have hsb := zdj hs hw i (by omega)
  rw [Nat.zero_add]; erw [show isD (.tup (wys.map Wy.e)) .non m1 = .ok (.bl false) m1 from rfl]; erw [zlt (d := wy.e) (by rw [List.getElem?_map,e3]; rfl)]; ac_nf; simp only [Fd.e]; erw [zlv]; erw [zbS e2]; erw [zdy (by omega)]; erw [zbx (p2 _)]; erw [zar (zbt (by omega))]; ac_nf
  rw [add_str (by rw [zau,hpl]; omega)]; ac_nf
  have e4 : pcK fs wys hd i ++ dgs (hd[i] % 2 ^ wy.w f.b) (wy.w f.b) = pcK fs wys hd (i + 1) := by
   rw [pcK,e1,e2,e3]
  rw [e4]; exact Run.ok ⟨_,rfl,_,_,_,rfl,rfl⟩
 ·rintro _ m1 ⟨ρ,rfl,x4,x5,x6,rfl,rfl⟩; rw [Nat.zero_add,zd2]; ac_nf; exact Run.ok ⟨rfl,rfl⟩
section
variable {m : Sto} {k l r i n : Nat} {pt : Pt} {hs : List (List Int)} {had base : Option Nat} {fresh : Nat} {hd : List Int} {f : Fm}
end
structure P38 (pt : Pt) : Prop where
 ok : PtOk pt
 n2 : 2 <= pt.n
 w : pt.wide = 12
 f0 : 0 < pt.fms.length
 fm : ∀ f ∈ pt.fms,f.a = 40 /\ f.b = 12 /\ ∀ w ∈ f.wys,w = .keep ∨ w = .whole
section
variable {m m0 : Sto} {p q c : Nat}
theorem ways38 {fs : List Fd} {n : Int} {x2 x3 x4 x5 x6 x7 : Option D} (hp : P3 m0 p q c m) (hc : c + 12 < 2 ^ 40) (hn : fs.length <= 12) :
  Run (zcw 1 (aIt (eOp ixD (zae 1) (eC (.int 0)))) (gN 8) zcG (eFn zaN (zac (zae 0) (zac (eFn zc9 (zac (eFn zbi (zac (eC (.str "keep")) zaj)) (zac (eFn zbi (zac (eC (.str "keep")) zaj)) (zac (eFn zbi (zac (eC (.str "whole")) zaj)) zaj)))) zaj))) [some (.ob p),some (shD fs n),x2,x3,x4,x5,x6,x7] m) fun xs m' => ∃ ws : List Wy,xs = ws.map Wy.e /\ ws.length = fs.length /\ (∀ w ∈ ws,w = .keep ∨ w = .whole) /\ P3 m p q (c + 12) m' := by
 refine Run.mono (zfW (ds := fs.map Fd.e) (fun k m' => P3 m p q (c + k) m') (fun j d x => ∃ w : Wy,x = w.e /\ (w = .keep ∨ w = .whole)) (by
  erw [show ixD (shD fs n) (.int 0) m = .ok (.tup (fs.map Fd.e)) m from ix_t0 _ _]
  ac_nf) (by rw [List.length_map]; omega) hp.re ?_) ?_
 ·intro j d m4 hd4 h4
  have hj : j < fs.length := by have := (List.getElem?_eq_some_iff.mp hd4).1; simpa using this
  ac_nf
  refine Run.mono (zb2 h4 (by omega) (by simp) (by simp)) ?_
  rintro w m5 ⟨hw,h5⟩
  refine ⟨?_,h4.via h5⟩
  simp only [List.mem_cons,List.not_mem_nil,or_false] at hw
  rcases hw with rfl | rfl | rfl
  ·exact ⟨.keep,rfl,.inl rfl⟩
  ·exact ⟨.keep,rfl,.inl rfl⟩
  ·exact ⟨.whole,rfl,.inr rfl⟩
 ·rintro xs m4 ⟨hlen,hP,h4⟩
  rw [List.length_map] at hlen h4
  obtain ⟨ws,rfl,hws⟩ := lift Wy.e (fun j w => w = .keep ∨ w = .whole) xs 0 fun j x hx => by
   have hj : j < fs.length := by have := (List.getElem?_eq_some_iff.mp hx).1; omega
   exact hP j _ x (by rw [List.getElem?_map,List.getElem?_eq_getElem hj]; rfl) hx
  refine ⟨ws,rfl,by simpa using hlen,fun w hw => ?_,h4.more (by omega)⟩
  obtain ⟨i,hi⟩ := List.mem_iff_getElem?.mp hw
  exact hws i w hi
theorem wyOk38 {fs : List Fd} {ws : List Wy} (hl : ws.length = fs.length) (hw : ∀ w ∈ ws,w = .keep ∨ w = .whole) : WyOk fs ws := ⟨hl,fun i f w _ hi => by
 rcases hw w (List.mem_of_getElem? hi) with rfl | rfl <;> exact trivial⟩
theorem zqk (hp : P3 m0 p q c m) (hc : c + 2000 < 2 ^ 40) : Run (zbb [.ob p] m) fun x m' => ∃ pt : Pt,x = pt.e /\ P38 pt /\ P3 m p q (c + 2000) m' := by
 unfold zbb zde; ac_nf; refine Run.bind (zov (most := 4) hp (by omega) (by decide) (by decide)) ?_; rintro _ m1 ⟨pt,rfl,ok,hp1⟩
 unfold Pt.e
 erw [show ixD (shD pt.fs pt.n) (.int 0) m1 = .ok (.tup (pt.fs.map Fd.e)) m1 from ix_t0 _ _]; erw [show ixD (shD pt.fs pt.n) (.int 1) m1 = .ok (.int pt.n) m1 from ix_t1 _ _ _]; ac_nf
 obtain ⟨N,hN,N2,N1⟩ : ∃ N : Int,(if pt.n > 2 then pt.n else 2) = N /\ 2 <= N /\ N <= 1000000 := ⟨_,rfl,by split <;> omega,by have := ok.n1; split <;> omega⟩
 rw [hN,show D.tup [.tup (pt.fs.map Fd.e),.int N] = shD pt.fs N from rfl]; rw [show zjo [] m1 = .ok (.ob m1.length) (m1 ++ [.lst []]) from if_pos (slen (by simp))]; ac_nf
 have hp2 : P3 m p q (c + 1000) (m1 ++ [.lst []]) := hp1.app
 have hlt := hp1.lt
 have hle : m.length <= m1.length := hp1.fr.1
 refine Run.bind (zaV hp2 (by omega) (by decide) (by decide)) ?_; rintro _ m2 ⟨y,rfl,y0,y1,hp3⟩
 have hl3 : m2[m1.length]? = some (.lst []) := hp3.kept (by simp) (by omega) (by omega)
 have hp3 := hp2.via hp3
 generalize m1.length = r at hl3 hlt hle ⊢; erw [zdL (by omega) (by omega)]; ac_nf; refine Run.bind (zaW (fun k ρ m' => ∃ (x6 x7 : Option D) (F : List Fm),ρ = [some (.ob p),some (shD pt.fs N),some (.int pt.wide),some (.tup (pt.fms.map Fm.e)),some pt.rd.e,some (.ob r),x6,x7] /\ m'[r]? = some (.lst (F.map Fm.e)) /\ F.length = k /\ (∀ f ∈ F,f.a = 40 /\ f.b = 12 /\ f.wys.length = pt.fs.length /\ ∀ w ∈ f.wys,w = .keep ∨ w = .whole) /\ P3 m p q (c + 1001 + 12 * k) m') _ 0 ⟨_,_,[],rfl,hl3,rfl,(fun f hf => nomatch hf),hp3⟩ ?_) ?_
 ·rintro i d ρ m3 hd ⟨x6,x7,F,rfl,hl,hF,hfm,h4⟩
  have hi := (List.getElem?_eq_some_iff.mp hd).1
  rw [zaG] at hi
  rw [Nat.zero_add] at h4 hF ⊢
  ac_nf; refine Run.bind (ways38 h4 (by omega) ok.f1) ?_; rintro _ m4 ⟨ws,rfl,wl,hws,h5⟩
  have hl5 := h5.kept hl (by omega) (by omega)
  erw [if_pos (show zdU (.ob r) m4 = true by unfold zdU; simp only [hl5])]; erw [zkA hl5 (by rw [List.length_map]; exact zcj (by omega))]; ac_nf
  refine Run.ok ⟨_,rfl,_,_,F ++ [⟨40,12,ws⟩],rfl,?_,by rw [List.length_append,hF]; rfl,fun f hf => ?_,?_⟩
  ·rw [zbN hl5,List.map_append]
   rfl
  ·rcases List.mem_append.mp hf with z | z
   ·exact hfm f z
   ·rw [List.mem_singleton.mp z]
    exact ⟨rfl,rfl,wl,hws⟩
  ·exact ((h4.via h5).set hle (by omega) (by omega)).more (by omega)
 ·rintro _ m3 ⟨ρ,rfl,x6,x7,F,rfl,hl,hF,hfm,h4⟩
  rw [zaG,Nat.zero_add] at hF h4
  erw [show zjJ [.ob r] m3 = .ok (.tup (F.map Fm.e)) m3 by simp only [zjJ,hl]]; erw [zlE (by simp)]; ac_nf
  exact Run.ok ⟨⟨pt.fs,N,12,F,pt.rd⟩,rfl,⟨⟨by show (0 : Int) < N; omega,N1,ok.f0,ok.f1,ok.sh,by show 0 < 12; decide,by show 12 <= 40; decide,fun f hf => by
   obtain ⟨e1,e2,e3,e4⟩ := hfm f hf
   exact ⟨by omega,by omega,by omega,by omega,wyOk38 e3 e4⟩,by show F.length <= 12; omega,ok.rd⟩,N2,rfl,by show 0 < F.length; omega,fun f hf => by
   obtain ⟨e1,e2,_,e4⟩ := hfm f hf
   exact ⟨e1,e2,e4⟩⟩,h4.more (by omega)⟩
def onV (fs : List Fd) (fo : List Int) : Nat -> List Int
 | 0 => []
 | k + 1 => onV fs fo k ++ [match fs[k]?,fo[k]? with
  | some f,some v => exV f.b f.kd v 1 fo (onV fs fo k)
  | _,_ => 0]
theorem zbH (fs : List Fd) (fo : List Int) : ∀ k,(onV fs fo k).length = k
 | 0 => rfl
 | k + 1 => by rw [onV,List.length_append,zbH fs fo k]; rfl
theorem zpg {fs : List Fd} {fo : List Int} (hs : zlr fs) (hh : HdOk fs fo) : HdOk fs (onV fs fo fs.length) := by
 refine ⟨zbH _ _ _,?_⟩
 have key : ∀ k,k <= fs.length -> ∀ (i : Nat) (f : Fd) (v : Int),fs[i]? = some f -> (onV fs fo k)[i]? = some v -> 0 <= v /\ v < 2 ^ f.b := by
  intro k
  induction k with
  | zero => intro _ i f v _ hv; cases hv
  | succ k ih =>
   intro hk i f v hf hv
   rw [onV] at hv
   by_cases hi : i < k
   ·rw [List.getElem?_append_left (by rw [zbH]; exact hi)] at hv
    exact ih (by omega) i f v hf hv
   ·have hik : i = k := by
     have := (List.getElem?_eq_some_iff.mp hv).1
     rw [List.length_append,zbH] at this
     have : i < k + 1 := this
     omega
    subst hik
    rw [List.getElem?_append_right (by rw [zbH]; exact Nat.le_refl _),zbH,Nat.sub_self] at hv
    have e2 := List.getElem?_eq_getElem (show i < fo.length by rw [hh.len]; exact hk)
    rw [hf,e2] at hv
    have hv := Option.some.inj hv
    obtain ⟨_,_,hkd⟩ := hs i f hf
    obtain ⟨v0,v1⟩ := hh.at' i f _ hf e2
    rw [<- hv]
    exact exV_in hkd v0 v1
 exact key _ (Nat.le_refl _)
theorem on38 {fs : List Fd} {n : Int} {fo : List Int} (hs : zlr fs) (hl : fs.length <= 12) (hh : HdOk fs fo) : zgw [shD fs n,zb7 fo] m = .ok (zb7 (onV fs fo fs.length)) m := by
 apply zar
 unfold zgw znm; erw [show ixD (shD fs n) (.int 0) m = .ok (.tup (fs.map Fd.e)) m from ix_t0 _ _]; erw [List.length_map,zdL (by omega) (by omega),Int.toNat_natCast]; ac_nf; refine Run.bind (zaW (fun k ρ m' => ∃ x3 : Option D,ρ = [some (shD fs n),some (zb7 fo),some (zb7 (onV fs fo k)),x3] /\ m' = m) _ 0 ⟨_,rfl,rfl⟩ ?_) ?_
 ·rintro i d ρ m1 hd1 ⟨x3,rfl,rfl⟩
  have hi := (List.getElem?_eq_some_iff.mp hd1).1
  rw [zaG] at hi
  have := zfU hd1
  subst this
  rw [Nat.zero_add]
  have e1 := List.getElem?_eq_getElem hi
  have e2 := List.getElem?_eq_getElem (show i < fo.length by rw [hh.len]; exact hi)
  obtain ⟨v0,v1⟩ := hh.at' i _ _ e1 e2
  generalize fs[i] = f at e1 v1; generalize fo[i]'(by rw [hh.len]; exact hi) = v at e2 v0 v1; erw [show zbc [shD fs n,.int i,zb7 fo,zb7 (onV fs fo i),.int 1] m1 = .ok (.int (exV f.b f.kd v 1 fo (onV fs fo i))) m1 from zar (zrd (more := 1) hs e1 e2 v0 v1 (by rw [zbH]; exact Nat.le_refl _) (by decide) (by decide))]; ac_nf
  unfold zb7; rw [add_t (by rw [List.length_map,zbH]; exact slen (by show i + 1 <= 100; omega))]
  refine Run.ok ⟨_,rfl,some (.int i),?_,rfl⟩
  rw [onV,e1,e2,List.map_append]
  rfl
 ·rintro _ m1 ⟨ρ,rfl,x3,rfl,rfl⟩; rw [zaG]; ac_nf; exact Run.ok ⟨by rw [Nat.zero_add],rfl⟩
end
section
variable {m : Sto} {pt : Pt}
theorem zpm {pt : Pt} {i : Nat} {m : Sto} (hi : i < pt.fms.length) : ixD (.tup (pt.fms.map Fm.e)) (.int i) m = .ok (za1 pt (some i)).e m := zlt (by rw [List.getElem?_map,List.getElem?_eq_getElem hi]; show some _ = some (pt.fms.getD i _).e; rw [List.getD_eq_getElem?_getD,List.getElem?_eq_getElem hi]; rfl)
theorem zoG {i number : Nat} {hd : List Int} (h : PtOk pt) (hi : i < pt.fms.length) (hh : HdOk pt.fs hd) : zaT [pt.e,.int i,.int number,zb7 hd] m = .ok (.str ⟨(ltL pt (some i) number hd).toArray⟩) m := by
 have hf := zeI h.w (at' := some i) hi
 have w1 := zep (n := 1 + pt.fms.length) (by have := h.fml; omega)
 have w2 := zep (n := pt.n.toNat) (by have := h.n1; omega)
 have hb := hf.b1
 have hpl := zcJ hf.wy hh pt.fs.length (Nat.le_refl _)
 have hsb := zdj h.sh.ok hf.wy pt.fs.length (Nat.le_refl _)
 have hf1 := h.f1
 have hfl := h.fml
 have hn1 := h.n1
 have hn0 := h.n0
 have u1 : wdN (1 + pt.fms.length) <= 40 := Nat.le_of_not_lt fun z => by
  have := wdN_lt.mpr z
  omega
 have u2 : wdN pt.n.toNat <= 40 := Nat.le_of_not_lt fun z => by
  have := wdN_lt.mpr z
  omega
 apply zar
 unfold zaT zdw Pt.e
 erw [zpm hi,show (za1 pt (some i)).e = .tup [.int (za1 pt (some i)).a,.int (za1 pt (some i)).b,.tup ((za1 pt (some i)).wys.map Wy.e)] from rfl]; erw [zpm hi,show (za1 pt (some i)).e = .tup [.int (za1 pt (some i)).a,.int (za1 pt (some i)).b,.tup ((za1 pt (some i)).wys.map Wy.e)] from rfl]; erw [show (1 : Int) + (((pt.fms.map Fm.e).length : Nat) : Int) = ((1 + pt.fms.length : Nat) : Int) by rw [List.length_map]; omega,zcb (by omega)]
 erw [zar (zbt u1)]; erw [zdy (by omega)]; erw [zbx (p2 _)]; erw [zar (zbt hb)]; erw [add_str (by rw [zau,zau]; omega)]; erw [show za5 [shD pt.fs pt.n,.tup ((za1 pt (some i)).wys.map Wy.e),zb7 hd] m = .ok (.str ⟨(pcK pt.fs (za1 pt (some i)).wys hd pt.fs.length).toArray⟩) m from zl9 h.sh.ok h.f1 hf.wy hh]
 erw [add_str (by rw [List.length_append,zau,zau,hpl]; omega)]; erw [zcc h hh]; erw [show ixD (shD pt.fs pt.n) (.int 1) m = .ok (.int pt.n) m from ix_t1 _ _ _]; ac_nf
 rw [show zaM [.int pt.n] m = .ok (.int (wdN pt.n.toNat)) m by
  have := zcb (n := pt.n.toNat) (m := m) (by omega)
  rw [show ((pt.n.toNat : Nat) : Int) = pt.n by omega] at this
  exact this]
 erw [zar (zbt u2)]; erw [add_str (by rw [List.length_append,List.length_append,zau,zau,zau,hpl]; omega)]; exact Run.ok ⟨rfl,rfl⟩
theorem zmT {at' : Option Nat} {number : Nat} {hd : List Int} (h : PtOk pt) (ha : zfd pt at') (hh : HdOk pt.fs hd) : zaT [pt.e,onD at',.int number,zb7 hd] m = .ok (.str ⟨(ltL pt at' number hd).toArray⟩) m := by
 cases at' with
 | none => exact zfD h hh
 | some i => exact zoG h ha hh
def lt0 (pt : Pt) (at' : Option Nat) (number : Nat) (hd : List Int) : List Nat := dgs (zkH at') (wdN (1 + pt.fms.length)) ++ (dgs number (za1 pt at').b ++ pcK pt.fs (za1 pt at').wys hd pt.fs.length)
theorem fb38 (h : P38 pt) {at' : Option Nat} (ha : zfd pt at') : (za1 pt at').b = 12 := by
 cases at' with
 | none => exact h.w
 | some i =>
  have : (za1 pt (some i)) ∈ pt.fms := by
   show pt.fms.getD i _ ∈ _
   rw [List.getD_eq_getElem?_getD,List.getElem?_eq_getElem ha]
   exact List.getElem_mem ha
  exact (h.fm _ this).2.1
theorem ltL38 (h : P38 pt) {at' : Option Nat} (ha : zfd pt at') {number : Nat} {hd : List Int} (hn : number < 100) : ltL pt at' number hd = lt0 pt at' number hd ++ dgs (ckV pt number hd) (wdN pt.n.toNat) := by
 unfold ltL lt0; rw [Int.emod_eq_of_lt (Int.natCast_nonneg _) (by rw [fb38 h ha]; omega)]; simp only [List.append_assoc]
theorem ltB38 {at' : Option Nat} {number : Nat} {hd : List Int} {ck : Int} : ltB pt at' (dgs number (za1 pt at').b ++ pcK pt.fs (za1 pt at').wys hd pt.fs.length) ck = lt0 pt at' number hd ++ dgs ck (wdN pt.n.toNat) := by
 unfold ltB lt0; simp only [List.append_assoc]
theorem LtB38 (h : P38 pt) {at' : Option Nat} (ha : zfd pt at') {number : Nat} {hd : List Int} {ck : Int} (hh : HdOk pt.fs hd) (c0 : 0 <= ck) (c1 : ck < pt.n) : LtB pt at' (dgs number (za1 pt at').b ++ pcK pt.fs (za1 pt at').wys hd pt.fs.length) ck := by
 have hf := zeI h.ok.w ha
 have hl := zcJ hf.wy hh pt.fs.length (Nat.le_refl _)
 refine ⟨ha,(zdx _ _).app (zmi _),?_,c0,c1⟩
 rw [List.length_append,zau,hl]
 unfold zgN; rw [List.take_of_length_le (by have := zbY hf.wy; omega)]
theorem zje (h : P38 pt) {at' : Option Nat} (ha : zfd pt at') {number : Nat} {hd : List Int} (hh : HdOk pt.fs hd) : (lt0 pt at' number hd).length <= 1000 := by
 have hf := zeI h.ok.w ha
 have hl := zcJ hf.wy hh pt.fs.length (Nat.le_refl _)
 have hsb := zdj h.ok.sh.ok hf.wy pt.fs.length (Nat.le_refl _)
 have w1 := zep (n := 1 + pt.fms.length) (by have := h.ok.fml; omega)
 have hf1 := h.ok.f1
 have := fb38 h ha
 unfold lt0; rw [List.length_append,List.length_append,zau,zau,hl]
 omega
theorem hdV38 {fs : List Fd} {wys : List Wy} {fo : List Int} (hs : zlr fs) (hw : WyOk fs wys) (hwk : ∀ w ∈ wys,w = .keep ∨ w = .whole) (hh : HdOk fs fo) : ∀ k,k <= fs.length -> hdV fs wys fo 1 (pcK fs wys (onV fs fo fs.length) fs.length) k = onV fs fo k := by
 have ho := zpg hs hh
 have pre : ∀ j k,k <= j -> (onV fs fo j).take k = onV fs fo k := by
  intro j
  induction j with
  | zero => intro k hk; rw [show k = 0 by omega]; rfl
  | succ j ih =>
   intro k hk
   by_cases e : k = j + 1
   ·subst e; rw [List.take_of_length_le (by rw [zbH]; exact Nat.le_refl _)]
   ·rw [onV,List.take_append_of_le_length (by rw [zbH]; omega)]
    exact ih k (by omega)
 intro k
 induction k with
 | zero => intro _; rfl
 | succ k ih =>
  intro hk
  rw [hdV,onV,ih (by omega)]
  have e1 := List.getElem?_eq_getElem (show k < fs.length by omega)
  have e2 := List.getElem?_eq_getElem (show k < wys.length by rw [hw.len]; omega)
  have e3 := List.getElem?_eq_getElem (show k < fo.length by rw [hh.len]; omega)
  rw [e1,e2,e3]
  congr 2
  show znW _ _ _ _ = exV _ _ _ 1 fo (onV fs fo k)
  rcases hwk _ (List.mem_of_getElem? e2) with e | e
  ·rw [e]; rfl
  ·have e4 : (onV fs fo fs.length)[k]? = some (exV (fs[k]'(by omega)).b (fs[k]'(by omega)).kd (fo[k]'(by rw [hh.len]; omega)) 1 fo (onV fs fo k)) := by
    have := pre fs.length (k + 1) hk
    have h2 : (onV fs fo (k + 1))[k]? = some (exV (fs[k]'(by omega)).b (fs[k]'(by omega)).kd (fo[k]'(by rw [hh.len]; omega)) 1 fo (onV fs fo k)) := by
     rw [onV,List.getElem?_append_right (by rw [zbH]; exact Nat.le_refl _),zbH,Nat.sub_self,e1,e3]
     rfl
    rw [<- this,List.getElem?_take_of_lt (by omega)] at h2
    exact h2
   have e5 := zmC hw ho e1 e2 e4
   obtain ⟨v0,v1⟩ := ho.at' k _ _ e1 e4
   rw [e] at e5 ⊢
   show ziP _ _ k = _
   rw [e5]
   exact Int.emod_eq_of_lt v0 v1
end
structure K38 (pt : Pt) (j : Nat) (top : Option Int) (hl : List (Int × List Int)) (hd : List Int) : Prop where
 tp : top = if j = 0 then none else some ((j : Int) - 1)
 nd : (ksH hl).Nodup
 hv : ∀ p ∈ hl,HdOk pt.fs p.2
 lt : ∀ x ∈ ksH hl,x < j
 ln : hl.length <= j
 ho : HdOk pt.fs hd
 fo : 0 < j -> ∃ fo,vlH hl ((j : Int) - 1) = some fo /\ HdOk pt.fs fo /\ hd = onV pt.fs fo pt.fs.length
section
variable {pt : Pt} {j : Nat} {top : Option Int} {hl : List (Int × List Int)} {hd hd' : List Int} {at' : Option Nat}
theorem K38.rise (x : K38 pt j top hl hd) : zcA top j = j := by
 rw [x.tp]
 split
 ·rfl
 ·show (if (j : Int) - 1 < j then (j : Int) else j - 1) = j
  rw [if_pos (by omega)]
theorem K38.late (x : K38 pt j top hl hd) : zgd pt top j = false := by
 unfold zgd; rw [x.tp,decide_eq_false (by omega),Bool.false_or]
 split
 ·rename_i t e
  split at e
  ·cases e
  ·cases e
   exact decide_eq_false (by omega)
 ·rfl
theorem K38.num (x : K38 pt j top hl hd) (h : P38 pt) (ha : zfd pt at') : zph pt top at' j = j := by
 have hb := fb38 h ha
 have hl := h.ok.rd.l1
 cases at' with
 | none => cases top <;> rfl
 | some i =>
  rw [x.tp]
  split
  ·rfl
  ·show ((j : Int) - 1 - pt.rd.late) + ((j : Int) - (j - 1 - pt.rd.late)) % 2 ^ (za1 pt (some i)).b = j
   rw [hb,Int.emod_eq_of_lt (by omega) (by omega)]
   omega
theorem K38.mx (x : K38 pt j top hl hd) (hj : 0 < j) : mxB j (ksH hl) = some ((j : Int) - 1) := by
 obtain ⟨fo,e,_⟩ := x.fo hj
 refine mxB_iff.mpr ⟨?_,by omega,fun g hg hl => by omega⟩
 exact Classical.byContradiction fun z => by rw [vlH_none.mpr z] at e; cases e
theorem fm38 (h : P38 pt) {i : Nat} (hi : i < pt.fms.length) : za1 pt (some i) ∈ pt.fms := by
 show pt.fms.getD i _ ∈ _
 rw [List.getD_eq_getElem?_getD,List.getElem?_eq_getElem hi]
 exact List.getElem_mem hi
theorem K38.far (x : K38 pt j top hl hd) (h : P38 pt) (ha : zfd pt at') (h0 : j = 0 -> at' = none) : at' = none ∨ znS hl j (za1 pt at').a = false := by
 cases at' with
 | none => exact .inl rfl
 | some i =>
  refine .inr ?_
  have hj : 0 < j := Nat.pos_of_ne_zero fun z => nomatch h0 z
  unfold znS; rw [x.mx hj,(h.fm _ (fm38 h ha)).1]
  exact decide_eq_false (by omega)
theorem K38.head (x : K38 pt j top hl hd) (h : P38 pt) (ha : zfd pt at') (h0 : j = 0 -> at' = none) (hh : HdOk pt.fs hd') (he : at' = none ∨ hd' = hd) : zcv pt hl at' j (pcK pt.fs (za1 pt at').wys hd' pt.fs.length) = hd' := by
 cases at' with
 | none => exact hd33 h.ok.w hh
 | some i =>
  have hj : 0 < j := Nat.pos_of_ne_zero fun z => nomatch h0 z
  obtain ⟨fo,e1,e2,e3⟩ := x.fo hj
  rcases he with z | z
  ·cases z
  subst z
  unfold zcv; rw [x.mx hj]
  show hdV pt.fs _ ((vlH hl _).getD []) _ _ _ = _
  rw [e1,show (j : Int) - ((j : Int) - 1) = 1 by omega,e3]
  exact hdV38 h.ok.sh.ok (zeI h.ok.w (at' := some i) ha).wy (h.fm _ (fm38 h ha)).2.2 e2 _ (Nat.le_refl _)
theorem K38.val (x : K38 pt j top hl hd) (h : P38 pt) (ha : zfd pt at') (h0 : j = 0 -> at' = none) (hh : HdOk pt.fs hd') (he : at' = none ∨ hd' = hd) (ck : Int) :
  rdV pt top hl at' j (pcK pt.fs (za1 pt at').wys hd' pt.fs.length) ck = if ckI pt j hd' ≠ ck then (zga "check", top,hl) else (rdD j hd',some (j : Int),zcu (hl ++ [((j : Int),hd')]) (j - pt.rd.late)) := by
 unfold rdV
 rw [if_neg (fun z => by
  have := z.2
  rw [x.tp] at this
  split at this
  ·exact z.1 (h0 ‹_›)
  ·cases this),x.num h ha]
 unfold rdN
 rw [x.late,if_neg Bool.false_ne_true,if_neg fun z => by have := x.lt _ z; omega,if_neg (fun z => by
  rcases x.far h ha h0 with q | q
  ·exact z.1 q
  ·rw [q] at z; cases z.2),x.head h ha h0 hh he,x.rise]
theorem K38.next (x : K38 pt j top hl hd) (h : P38 pt) : K38 pt (j + 1) (some (j : Int)) (zcu (hl ++ [((j : Int),hd)]) (j - pt.rd.late)) (onV pt.fs hd pt.fs.length) := by
 have hn : (j : Int) ∉ ksH hl := fun z => by have := x.lt _ z; omega
 have hsn := zkK (x := hd) x.nd hn
 refine ⟨?_,zfF hsn,fun p hp => ?_,fun y hy => ?_,?_,zpg h.ok.sh.ok x.ho,fun _ => ⟨hd,?_,x.ho,rfl⟩⟩
 ·rw [if_neg (by omega)]
  congr 1
  omega
 ·rcases List.mem_append.mp ((zfz hsn).mp hp).1 with z | z
  ·exact x.hv p z
  ·rw [List.mem_singleton.mp z]
   exact x.ho
 ·obtain ⟨p,hp,rfl⟩ := List.mem_map.mp hy
  rcases List.mem_append.mp ((zfz hsn).mp hp).1 with z | z
  ·have := x.lt p.1 (List.mem_map_of_mem z)
   omega
  ·rw [List.mem_singleton.mp z]
   show (j : Int) < ((j + 1 : Nat) : Int)
   omega
 ·refine Nat.le_trans (zoJ hsn) ?_
  rw [List.length_append]
  have := x.ln
  show hl.length + 1 <= j + 1
  omega
 ·rw [show ((j + 1 : Nat) : Int) - 1 = j by omega]
  exact zd9 (zfF hsn) (p := ((j : Int),hd)) ((zfz hsn).mpr ⟨List.mem_append_right _ List.mem_cons_self,.inl (by show (j : Int) - pt.rd.late <= j; omega)⟩)
variable {m : Sto} {k h : Nat}
theorem zo9 (rr : RdAt m k h pt top hl) (x : K38 pt j top hl hd) (hp : P38 pt) (ha : zfd pt at') (h0 : j = 0 -> at' = none) (hh : HdOk pt.fs hd') (he : at' = none ∨ hd' = hd) (hj : j < 60) {ck : Int} (c0 : 0 <= ck) (c1 : ck < pt.n) :
  Run (zaP [.ob k,.str ⟨(lt0 pt at' j hd' ++ dgs ck (wdN pt.n.toNat)).toArray⟩] m) (RdB m k h pt (if ckI pt j hd' ≠ ck then (zga "check", top,hl) else (rdD j hd',some (j : Int),zcu (hl ++ [((j : Int),hd')]) (j - pt.rd.late)))) := by
 have hb := fb38 hp ha
 have hN : zdq (dgs j (za1 pt at').b) = j := by rw [zfb]; exact Int.emod_eq_of_lt (Int.natCast_nonneg _) (by rw [hb]; omega)
 have R := zob (at' := at') (num := dgs j (za1 pt at').b) (bits := pcK pt.fs (za1 pt at').wys hd' pt.fs.length) (ck := ck) rr hp.ok.w (LtB38 hp ha hh c0 c1) (zau _ _) (by have := x.ln; omega) x.nd x.hv (by
  rw [hN,x.num hp ha]
  intro _ _ _
  rw [x.head hp ha h0 hh he]
  exact hh)
 rw [ltB38,hN,x.val hp ha h0 hh he] at R
 exact R
theorem eq_chk {m : Sto} : eqD (zga "check") (zga "check") m = .ok (.bl true) m := by
 have h1 : PyData.strOk "not" = true := by decide +kernel
 have h2 : PyData.strOk "check" = true := by decide +kernel
 have hd : zcE (zga "check") = true := by simp [zcE,ze9,pyOkL,py,pyL,zga,SeqAt.shaped,PyData.canLay0,PyData.canLayAll0,PyData.depth,PyData.depthAll,h1,h2]
 have e : eqB (zga "check") (zga "check") = some true := by
  show (if zcE (zga "check") && zcE (zga "check") then some (PyData.eqv (py (zga "check")) (py (zga "check"))) else none) = _
  rw [hd]
  simp [zga,py,pyL,PyData.eqv,PyData.eqvAll]
 unfold eqD; rw [show rs m (zga "check") = zga "check" from rfl,e]
 all_goals rfl
theorem ne_rdL {n : Int} {hd : List Int} {m : Sto} : neD (rdD n hd) (rdD n hd) m = .ok (.bl false) m := by
 have h1 : PyData.strOk "read" = true := by decide +kernel
 have pl : ∀ l : List Int,pyL (l.map D.int) = l.map PyData.int := fun l => by induction l with
  | nil => rfl
  | cons a l ih => show PyData.int a :: pyL (l.map D.int) = _; rw [ih]; rfl
 have po : ∀ l : List Int,pyOkL (l.map D.int) = true := fun l => by induction l with
  | nil => rfl
  | cons a l ih => show (ze9 (.int a) && pyOkL (l.map D.int)) = true; rw [ih]; rfl
 have hdp : zcE (rdD n hd) = true := by
  simp [zcE,ze9,pyOkL,py,pyL,rdD,zb7,SeqAt.shaped,PyData.canLay0,PyData.canLayAll0,PyData.depth,PyData.depthAll,h1,pl,po,PySem.W.ke_canLayAll0,PySem.W.ke_depthAll]
 have e : eqB (rdD n hd) (rdD n hd) = some true := by
  show (if zcE (rdD n hd) && zcE (rdD n hd) then some (PyData.eqv (py (rdD n hd)) (py (rdD n hd))) else none) = _
  rw [hdp]
  simp [rdD,zb7,py,pyL,PyData.eqv,PyData.eqvAll,pl,PySem.W.ked_eqvAll]
 unfold neD; rw [show rs m (rdD n hd) = rdD n hd from rfl,e]
 all_goals rfl
end
def z38 : AV := (zac (zae 5) (zac (zae 14) (zac (eFn zbi (zac (eC (.str "not")) (zac (eC (.str "check")) zaj))) zaj)))
def b38 : SV := by walk_at "#uju5vZ%vMvhHv_uOvMw#9x:CwovhHv_=u+,w$u+vuvKHu+w%bu+u.Tu+w$u%u?vKvLw%w=bu+ujwmx;|Xuwp"
def c38 : SV := by walk_at "#vGgv-x}u:vLuOxYv-w#uwv'%z,v2v6=A"
def w38 : SV := by walk_at "#u.%vMw#u9d,uaTd%xfPvAv|88$v|u9du.w$u%vuvKvLw%wnHdus=uZuLwmx;ubHuZvJx]wD<uw9x~PvEv_O|Y|Z"
def a38 : EV := by walk_at "#wBvvw]Bh%x'Pv;wcwoouOz+wfJ5Nwl"
def n38 : SV := by walk_at "#,|[bu49x:CHu4x_=u%|]"
theorem zlj : zno = (zap (zaB (eFn zei (zac (zae 0) zaj)) (gN 1))
 (zap (zhM (zkB ziV (zac (eC (.int 4)) zaj)) (gN 2)
 (zap (zaB (eFn zbb (zac (zae 1) zaj)) (gN 3))
 (zap (sPar 4 5 (zac (eOp ixD (zae 3) (eC (.int 0))) (zac (eFn (mkM "Reader" zby) (zac (zae 3) zaj)) zaj)))
 (zap (zaB (eFn zaM (zac (eOp ixD (zae 4) (eC (.int 1))) zaj)) (gN 6))
 (zap (zaB (eFn za6 (zac (zae 1) (zac (zae 4) zaj))) (gN 7))
 (zhM (zkB ziV (zac (eFn zaN (zac (zae 1) (zac (eFn zc9 (zac (eC (.int 5)) (zac (eC (.int 10)) (zac (eC (.int 20)) zaj)))) zaj))) zaj)) (gN 8) n38))))))
 (zaJ (eC (.bl true))))) := rfl
theorem zhm : zgv = (zap (zaB (eFn zbi (zac (zda "Reader" "top" zbo (zae 0) zaj) (zac (zda "Reader" "kept" zaX (zae 0) zaj) zaj))) (gN 3))
 (zaJ (eAnd (eOp eqD (zda "Reader" "read" zaP (zae 0) (zac (zae 1) zaj)) (zae 2)) (eOp eqT (eFn zbi (zac (zda "Reader" "top" zbo (zae 0) zaj) (zac (zda "Reader" "kept" zaX (zae 0) zaj) zaj))) (zae 3))))) := rfl
theorem zqm (o : Option Int) : plD (zfZ o) (zfZ o) = true := by
 cases o with
 | none => rfl
 | some i => exact decide_eq_true rfl
structure St38 (m : Sto) (p q c k h j : Nat) (pt : Pt) (hd : List Int) : Prop where
 rr : ∃ top hl,RdAt m k h pt top hl /\ K38 pt j top hl hd
 bx : P3 m p q c m
 ne : k ≠ p /\ k ≠ q /\ h ≠ p /\ h ≠ q
section
variable {m m0 : Sto} {p q c k h j : Nat} {pt : Pt} {hd hd' : List Int} {at' : Option Nat}
theorem St38.box {m' : Sto} {c' : Nat} (x : St38 m p q c k h j pt hd) (hp : P3 m p q c' m') : St38 m' p q c' k h j pt hd := by
 obtain ⟨top,hl,x1,x2⟩ := x.rr
 exact ⟨⟨top,hl,x1.fr hp.fr x.ne.1 x.ne.2.1 x.ne.2.2.1 x.ne.2.2.2,x2⟩,hp.re,x.ne⟩
theorem zlJ (x : St38 m p q c k h j pt hd) (hp : P38 pt) (ha : zfd pt at') (h0 : j = 0 -> at' = none) (hh : HdOk pt.fs hd') (he : at' = none ∨ hd' = hd) (hj : j < 60) {ck : Int} (c0 : 0 <= ck) (c1 : ck < pt.n) (hne : ckI pt j hd' ≠ ck) :
  Run (zbE [.ob k,.str ⟨(lt0 pt at' j hd' ++ dgs ck (wdN pt.n.toNat)).toArray⟩,zga "check"] m) fun a m' => a = .bl true /\ ∃ h',St38 m' p q c k h' j pt hd := by
 obtain ⟨top,hl,rr,kk⟩ := x.rr
 have hlt := rr.lt
 have hplt := x.bx.lt
 obtain ⟨n1,n2,n3,n4⟩ := x.ne
 unfold zbE; rw [zhm]; erw [if_pos (rr.meth rfl)]; erw [zo8 rr]; erw [if_pos (rr.meth rfl)]; erw [zlV rr]; ac_nf
 have rr1 := rr.app (r := [.dct (hlD hl)])
 have nw1 : (m ++ [.dct (hlD hl)])[m.length]? = some (.dct (hlD hl)) := zkd rfl
 have bx1 := (x.bx.app (r := [.dct (hlD hl)])).re
 generalize m ++ [.dct (hlD hl)] = m1 at rr1 nw1 bx1 ⊢; generalize m.length = i at nw1 hlt hplt ⊢; rw [if_pos (rr1.meth rfl)]; ac_nf
 have R := zo9 rr1 kk hp ha h0 hh he hj c0 c1
 rw [if_pos hne] at R
 refine Run.bind R ?_; rintro _ m2 ⟨h',rfl,rr2,f2,hh2⟩
 have hil : i < m1.length := (List.getElem?_eq_some_iff.mp nw1).1
 have hb1 := bx1.lt
 have nw2 := f2.keep nw1 (by omega) (by omega)
 have bx2 := bx1.fr2 f2 n1 n2 n3 n4
 erw [eq_chk]; erw [if_pos (rr2.meth rfl)]; erw [zo8 rr2]; erw [if_pos (rr2.meth rfl)]; erw [zlV rr2]; ac_nf
 have hs : zhL (.ob m2.length) (.ob i) (m2 ++ [.dct (hlD hl)]) = true := by
  unfold zhL dOf; simp only [zkd (m := m2) (o := .dct (hlD hl)) rfl,zjn nw2]
  exact zlQ (List.Perm.refl hl) kk.nd
 rw [show eqT (.tup [zfZ top,.ob m2.length]) (.tup [zfZ top,.ob i]) (m2 ++ [.dct (hlD hl)]) = .ok (.bl true) (m2 ++ [.dct (hlD hl)]) from if_pos (by unfold zlR; simp only [zqm,hs]; rfl)]; ac_nf
 refine Run.ok ⟨rfl,h',⟨top,hl,rr2.app,kk⟩,(bx2.app).re,n1,n2,?_,?_⟩
 ·rcases hh2 with rfl | z
  ·exact n3
  ·omega
 ·rcases hh2 with rfl | z
  ·exact n4
  ·omega
theorem wd38 (hp : P38 pt) : wdN pt.n.toNat <= 40 := by
 have := hp.ok.n1
 exact Nat.le_of_not_lt fun z => by
  have := wdN_lt.mpr z
  omega
theorem zq1 (hp : P38 pt) {l : List Nat} {x : Int} (hl : l.length <= 1000) {m : Sto} : zex [.str ⟨(l ++ dgs x (wdN pt.n.toNat)).toArray⟩] m = .ok (.int ((l.length + wdN pt.n.toNat : Nat) : Int)) m := by
 have := wd38 hp
 rw [zmU (by rw [List.length_append,zau]; omega),List.length_append,zau]
theorem cut38 (hp : P38 pt) {l : List Nat} {x : Int} (hl : l.length <= 1000) {m : Sto} : slD (.str ⟨(l ++ dgs x (wdN pt.n.toNat)).toArray⟩) none (some (((l.length + wdN pt.n.toNat : Nat) : Int) - (wdN pt.n.toNat : Nat))) m = .ok (.str ⟨l.toArray⟩) m := by
 have := wd38 hp
 rw [show ((l.length + wdN pt.n.toNat : Nat) : Int) - (wdN pt.n.toNat : Nat) = (l.length : Nat) by omega,zo6 (by rw [List.length_append,zau]; omega) (by rw [List.length_append]; omega),List.take_append_of_le_length (Nat.le_refl _),List.take_length]
theorem end38 (hp : P38 pt) {l : List Nat} {x : Int} (hl : l.length <= 1000) {m : Sto} : slD (.str ⟨(l ++ dgs x (wdN pt.n.toNat)).toArray⟩) (some (((l.length + wdN pt.n.toNat : Nat) : Int) - (wdN pt.n.toNat : Nat))) none m = .ok (.str ⟨(dgs x (wdN pt.n.toNat)).toArray⟩) m := by
 have := wd38 hp
 rw [show ((l.length + wdN pt.n.toNat : Nat) : Int) - (wdN pt.n.toNat : Nat) = (l.length : Nat) by omega,zo7 (by rw [List.length_append,zau]; omega) (by rw [List.length_append]; omega),List.drop_left]
end
section
variable {m m0 : Sto} {p q c k h j : Nat} {pt : Pt} {hd hd' : List Int} {at' : Option Nat} {s d2 d9 : D} {x11 x12 x13 x14 : Option D}
theorem ziA (hp : P38 pt) {j : Nat} : 0 <= ckV pt j hd /\ ckV pt j hd < pt.n := by
 have := hp.n2
 exact ⟨Int.emod_nonneg _ (by omega),Int.emod_lt_of_pos _ (by omega)⟩
theorem zrl (x : St38 m p q c k h j pt hd) (hp : P38 pt) (ha : zfd pt at') (hh : HdOk pt.fs hd) (hh' : HdOk pt.fs hd') (hj : j < 60) :
  Run (b38 [some s,some (.ob p),some d2,some pt.e,some (shD pt.fs pt.n),some (.ob k),some (.int (wdN pt.n.toNat)),some (zb7 hd),some (.int j),some d9,some (.str ⟨(lt0 pt at' j hd ++ dgs (ckV pt j hd) (wdN pt.n.toNat)).toArray⟩),x11,x12,some (zb7 hd'),x14] m) fun fl m' => ∃ (y14 : Option D) (h' : Nat),fl = .nx [some s,some (.ob p),some d2,some pt.e,some (shD pt.fs pt.n),some (.ob k),some (.int (wdN pt.n.toNat)),some (zb7 hd),some (.int j),some d9,some (.str ⟨(lt0 pt at' j hd ++ dgs (ckV pt j hd) (wdN pt.n.toNat)).toArray⟩),x11,x12,some (zb7 hd'),y14] /\ St38 m' p q c k h' j pt hd := by
 have hl0 := zje hp (at' := none) (number := j) trivial hh'
 have hl1 := zje hp (number := j) ha hh
 have hwd := wd38 hp
 unfold b38; erw [zcc hp.ok hh']; erw [zcc hp.ok hh]; ac_nf
 by_cases e : ckV pt j hd' = ckV pt j hd
 ·rw [decide_eq_true e]; ac_nf; exact Run.ok ⟨_,h,rfl,x⟩
 rw [decide_eq_false e]; erw [zfD hp.ok hh',ltL38 hp (at' := none) trivial (by omega)]; erw [zq1 hp hl0]; erw [cut38 hp hl0]; erw [zq1 hp hl1]; erw [end38 hp hl1]; erw [add_str (by rw [zau]; omega)]
 unfold z38; ac_nf; refine Run.bind (zlJ x hp (at' := none) trivial (fun _ => rfl) hh' (.inl rfl) hj (ziA hp).1 (ziA hp).2 e) ?_; rintro _ m1 ⟨rfl,h',x1⟩; ac_nf; exact Run.ok ⟨_,h',rfl,x1⟩
theorem zrj (x : St38 m p q c k h j pt hd) (hp : P38 pt) (ha : zfd pt at') (h0 : j = 0 -> at' = none) (hj : j < 60) :
  Run (c38 [some s,some (.ob p),some d2,some pt.e,some (shD pt.fs pt.n),some (.ob k),some (.int (wdN pt.n.toNat)),some (zb7 hd),some (.int j),some d9,some (.str ⟨(lt0 pt at' j hd ++ dgs (ckV pt j hd) (wdN pt.n.toNat)).toArray⟩),x11,x12,x13,x14] m) fun fl m' => ∃ (hd1 : List Int) (h' : Nat),fl = .nx [some s,some (.ob p),some d2,some pt.e,some (shD pt.fs pt.n),some (.ob k),some (.int (wdN pt.n.toNat)),some (zb7 hd1),some (.int j),some d9,some (.str ⟨(lt0 pt at' j hd ++ dgs (ckV pt j hd) (wdN pt.n.toNat)).toArray⟩),x11,x12,x13,x14] /\ St38 m' p q c k h' (j + 1) pt hd1 := by
 obtain ⟨top,hl,rr,kk⟩ := x.rr
 have hplt := x.bx.lt
 obtain ⟨n1,n2,n3,n4⟩ := x.ne
 unfold c38; erw [if_pos (rr.meth rfl)]; ac_nf
 have R := zo9 rr kk hp ha h0 kk.ho (.inr rfl) hj (ziA hp (j := j) (hd := hd)).1 (ziA hp).2
 rw [if_neg (show ¬ ckI pt j hd ≠ ckV pt j hd from not_not_intro rfl)] at R
 refine Run.bind R ?_; rintro _ m1 ⟨h',rfl,rr1,f1,hh1⟩; erw [show neD (rdD j hd) (.tup [.str "read", .int j,zb7 hd]) m1 = .ok (.bl false) m1 from ne_rdL]; erw [on38 hp.ok.sh.ok hp.ok.f1 kk.ho]; ac_nf
 refine Run.ok ⟨_,h',rfl,⟨_,_,rr1,kk.next hp⟩,x.bx.fr2 f1 n1 n2 n3 n4,n1,n2,?_,?_⟩
 ·rcases hh1 with rfl | z
  ·exact n3
  ·omega
 ·rcases hh1 with rfl | z
  ·exact n4
  ·omega
theorem zpC (x : St38 m p q c k h j pt hd) (hp : P38 pt) (ha : zfd pt at') (h0 : j = 0 -> at' = none) (hj : j < 60) (hc : c + 40 < 2 ^ 40) :
  Run (w38 [some s,some (.ob p),some d2,some pt.e,some (shD pt.fs pt.n),some (.ob k),some (.int (wdN pt.n.toNat)),some (zb7 hd),some (.int j),some d9,some (.str ⟨(lt0 pt at' j hd ++ dgs (ckV pt j hd) (wdN pt.n.toNat)).toArray⟩),x11,x12,x13,x14] m) fun fl m' => ∃ (hd1 : List Int) (h' : Nat) (y9 y10 y11 y12 y13 y14 : Option D),fl = .nx [some s,some (.ob p),some d2,some pt.e,some (shD pt.fs pt.n),some (.ob k),some (.int (wdN pt.n.toNat)),some (zb7 hd1),some (.int j),y9,y10,y11,y12,y13,y14] /\ St38 m' p q (c + 40) k h' (j + 1) pt hd1 := by
 obtain ⟨_,_,_,kk⟩ := x.rr
 have hh := kk.ho
 have hl1 := zje hp (number := j) ha hh
 have hwd := wd38 hp
 have hn2 := hp.n2
 have hn1 := hp.ok.n1
 obtain ⟨k0,k1⟩ := ziA hp (j := j) (hd := hd)
 unfold w38; erw [zcc hp.ok hh]; erw [show ixD (shD pt.fs pt.n) (.int 1) m = .ok (.int pt.n) m from ix_t1 _ _ _]; ac_nf; refine Run.bind (zaV x.bx (by omega) (by omega) (by omega)) ?_; rintro _ m1 ⟨y,rfl,y0,y1,hp1⟩
 have x1 := x.box hp1
 erw [show ixD (shD pt.fs pt.n) (.int 1) m1 = .ok (.int pt.n) m1 from ix_t1 _ _ _]; erw [zbx (by omega)]; ac_nf
 obtain ⟨ck,hck,c0,c1,cne⟩ : ∃ ck : Int,(ckV pt j hd + 1 + y) % pt.n = ck /\ 0 <= ck /\ ck < pt.n /\ ckV pt j hd ≠ ck := by
  refine ⟨_,rfl,Int.emod_nonneg _ (by omega),Int.emod_lt_of_pos _ (by omega),fun z => ?_⟩
  by_cases hlt : ckV pt j hd + 1 + y < pt.n
  ·rw [Int.emod_eq_of_lt (by omega) hlt] at z
   omega
  ·rw [<- Int.sub_emod_right,Int.emod_eq_of_lt (by omega) (by omega)] at z
   omega
 rw [hck,zq1 hp hl1]; erw [cut38 hp hl1]; erw [zar (zbt hwd)]; erw [add_str (by rw [zau]; omega)]; ac_nf; refine Run.bind (zlJ x1 hp ha h0 hh (.inr rfl) hj c0 c1 cne) ?_; rintro _ m2 ⟨rfl,h2,x2⟩; ac_nf; refine Run.bind (zfV x2.bx (by omega) hp.ok.sh.ok hp.ok.f1) ?_; rintro _ m3 ⟨hd',rfl,hh',hp3⟩
 have x3 := x2.box hp3
 ac_nf; refine Run.bind (zrl x3 hp ha hh hh' hj) ?_; rintro _ m4 ⟨y14,h4,rfl,x4⟩; ac_nf
 refine Run.mono (zrj x4 hp ha h0 hj) ?_
 rintro _ m5 ⟨hd1,h5,rfl,x5⟩
 exact ⟨hd1,h5,_,_,_,_,_,_,rfl,x5.rr,x5.bx.more (by omega),x5.ne⟩
theorem zrn {x4 x5 x6 x7 x9 x10 : Option D} (x : St38 m p q c k h j pt hd) (hp : P38 pt) (hc : c + 1 < 2 ^ 40) :
  Run (a38 [some s,some (.ob p),some d2,some pt.e,x4,x5,x6,x7,some (.int j),x9,x10,x11,x12,x13,x14] m) fun a m' => ∃ at',a = onD at' /\ zfd pt at' /\ (j = 0 -> at' = none) /\ St38 m' p q (c + 1) k h j pt hd := by
 have hfl := hp.ok.fml
 have hf0 := hp.f0
 unfold a38; ac_nf
 by_cases hj : (j : Int) = 0
 ·rw [if_pos hj]; ac_nf; exact Run.ok ⟨none,rfl,trivial,fun _ => rfl,x.rr,x.bx.more (by omega),x.ne⟩
 rw [if_neg hj]; erw [show ixD pt.e (.int 2) m = .ok (.tup (pt.fms.map Fm.e)) m from zlt (n := 2) rfl]; ac_nf
 rw [show zld [.int (((pt.fms.map Fm.e).length : Nat) : Int)] m = .ok (.lst (zcD 0 pt.fms.length)) m by
  rw [List.length_map]; simp only [zld]
  rw [if_pos ⟨by omega,by omega⟩,Int.toNat_natCast]]
 erw [add_l (by rw [zaG]; exact slen (by show 2 + pt.fms.length <= 100; omega))]; ac_nf
 refine Run.mono (zb2 x.bx (by omega) (by simp) (by rw [List.length_cons,List.length_cons,zaG]; omega)) ?_
 rintro w m1 ⟨hw,hp1⟩
 have x1 := x.box hp1
 rcases List.mem_cons.mp hw with rfl | z
 ·exact ⟨none,rfl,trivial,fun _ => rfl,x1⟩
 rcases List.mem_cons.mp z with rfl | z
 ·exact ⟨some 0,rfl,hf0,fun z => by omega,x1⟩
 ·obtain ⟨i,hi⟩ := List.mem_iff_getElem?.mp z
  have hil := (List.getElem?_eq_some_iff.mp hi).1
  rw [zaG] at hil
  have := zfU hi
  subst this
  exact ⟨some i,rfl,hil,fun z => by omega,x1⟩
theorem zqS {x9 x10 : Option D} (x : St38 m p q c k h j pt hd) (hp : P38 pt) (hj : j < 60) (hc : c + 41 < 2 ^ 40) :
  Run (n38 [some s,some (.ob p),some d2,some pt.e,some (shD pt.fs pt.n),some (.ob k),some (.int (wdN pt.n.toNat)),some (zb7 hd),some (.int j),x9,x10,x11,x12,x13,x14] m) fun fl m' => ∃ (hd1 : List Int) (h' : Nat) (y9 y10 y11 y12 y13 y14 : Option D),fl = .nx [some s,some (.ob p),some d2,some pt.e,some (shD pt.fs pt.n),some (.ob k),some (.int (wdN pt.n.toNat)),some (zb7 hd1),some (.int j),y9,y10,y11,y12,y13,y14] /\ St38 m' p q (c + 41) k h' (j + 1) pt hd1 := by
 unfold n38; ac_nf; refine Run.bind (zrn x hp (by omega)) ?_; rintro _ m1 ⟨at',rfl,ha,h0,x1⟩
 obtain ⟨_,_,_,kk⟩ := x1.rr
 erw [zmT hp.ok ha kk.ho,ltL38 hp ha (by omega)]; ac_nf
 exact zpC x1 hp ha h0 hj (by omega)
end
theorem zjf {ns : List Int} (hn : ns.length <= 63) : Run (zkl [.scr (ns.map D.int)] []) fun a _ => a = .bl true := by
 unfold zkl; rw [zlj]; ac_nf; refine Run.bind (zrk hn) ?_; rintro _ m1 ⟨p,q,rfl,hp1⟩; erw [zdL (by decide) (by decide)]; ac_nf; refine Run.bind (zaW (fun k ρ m' => ∃ (x2 x3 x4 x5 x6 x7 x8 x9 x10 x11 x12 x13 x14 : Option D),ρ = [some (.scr (ns.map D.int)),some (.ob p),x2,x3,x4,x5,x6,x7,x8,x9,x10,x11,x12,x13,x14] /\ P3 m' p q (10000 * k) m') (zcD 0 (4 : Int).toNat) 0 ⟨_,_,_,_,_,_,_,_,_,_,_,_,_,rfl,hp1.re⟩ ?_) ?_
 ·rintro i d ρ m2 hd ⟨x2,x3,x4,x5,x6,x7,x8,x9,x10,x11,x12,x13,x14,rfl,hI⟩
  have hi := (List.getElem?_eq_some_iff.mp hd).1
  rw [zaG] at hi
  have hi3 : i < 4 := hi
  rw [Nat.zero_add] at hI ⊢
  ac_nf; refine Run.bind (zqk hI (by omega)) ?_; rintro _ m3 ⟨pt,rfl,ok,hp3⟩
  have hn1 := ok.ok.n1
  have hn2 := ok.n2
  erw [show ixD pt.e (.int 0) m3 = .ok (shD pt.fs pt.n) m3 from zlt (n := 0) rfl]; ac_nf; refine Run.bind (zpV pt m3) ?_; rintro _ m4 ⟨rfl,h4,x,rfl⟩
  have hp4 : P3 (m3 ++ x) p q (10000 * i + 2000) (m3 ++ x) := ((hp3.re).app).re
  have hlt := hp3.re.lt
  erw [show ixD (shD pt.fs pt.n) (.int 1) (m3 ++ x) = .ok (.int pt.n) (m3 ++ x) from ix_t1 _ _ _]; ac_nf
  rw [show zaM [.int pt.n] (m3 ++ x) = .ok (.int (wdN pt.n.toNat)) (m3 ++ x) by
   have := zcb (n := pt.n.toNat) (m := m3 ++ x) (by omega)
   rw [show ((pt.n.toNat : Nat) : Int) = pt.n by omega] at this
   exact this]
  ac_nf; refine Run.bind (zfV hp4 (by omega) ok.ok.sh.ok ok.ok.f1) ?_; rintro _ m5 ⟨hd0,rfl,hh,hp5⟩
  have h5 := h4.fr hp5.fr (by omega) (by omega) (by omega) (by omega)
  have x5 : St38 m5 p q (10000 * i + 2030) m3.length (m3.length + 1) 0 pt hd0 := ⟨⟨none,[],h5,rfl,by simp [ksH],(fun p hp => nomatch hp),(fun x hx => nomatch hx),Nat.le_refl _,hh,fun z => absurd z (Nat.lt_irrefl 0)⟩,hp5.re,by omega,by omega,by omega,by omega⟩
  generalize m3.length + 1 = h at x5 ⊢; generalize m3.length = k at x5 ⊢; ac_nf; refine Run.bind (of_nat [5,10,20] x5.bx (by omega) (by simp) (by simp)) ?_; rintro _ m6 ⟨N,hN,rfl,hp6⟩
  have x6 := x5.box hp6
  have hN' : N <= 20 := by
   simp only [List.mem_cons,List.not_mem_nil,or_false] at hN
   omega
  erw [zdL (by omega) (by omega)]; ac_nf
  refine Run.mono (zaW (fun j ρ m' => ∃ (h : Nat) (hd : List Int) (x8 x9 x10 x11 x12 x13 x14 : Option D),ρ = [some (.scr (ns.map D.int)),some (.ob p),some d,some pt.e,some (shD pt.fs pt.n),some (.ob k),some (.int (wdN pt.n.toNat)),some (zb7 hd),x8,x9,x10,x11,x12,x13,x14] /\ St38 m' p q (10000 * i + 2031 + 41 * j) k h j pt hd) _ 0 ⟨h,hd0,_,_,_,_,_,_,_,rfl,x6⟩ ?_) ?_
  ·rintro j d' ρ m7 hd7 ⟨h,hd,x8,x9,x10,x11,x12,x13,x14,rfl,h7⟩
   have hj := (List.getElem?_eq_some_iff.mp hd7).1
   rw [zaG] at hj
   have := zfU hd7
   subst this
   rw [Nat.zero_add] at h7 ⊢
   ac_nf
   refine Run.mono (zqS h7 ok (by omega) (by omega)) ?_
   rintro _ m8 ⟨hd1,h',y9,y10,y11,y12,y13,y14,rfl,h8⟩
   exact ⟨_,rfl,h',hd1,_,_,_,_,_,_,_,rfl,h8⟩
  ·rintro _ m7 ⟨ρ,rfl,h,hd,x8,x9,x10,x11,x12,x13,x14,rfl,h7⟩
   rw [zaG] at h7
   exact ⟨_,rfl,_,_,_,_,_,_,_,_,_,_,_,_,_,rfl,h7.bx.more (by omega)⟩
 ·rintro _ m3 ⟨ρ,rfl,x2,x3,x4,x5,x6,x7,x8,x9,x10,x11,x12,x13,x14,rfl,_⟩; ac_nf
  exact Run.ok rfl
end MD
set_option autoImplicit false
namespace K38
open PySem PyProof.Rows L2 MD
structure Txt (mg : Str -> Option Value) : Prop where
 ValueError : mg "ValueError" = none
 sum : mg "sum" = none
 enumerate : mg "enumerate" = none
 max : mg "max" = none
 range : mg "range" = none
 tuple : mg "tuple" = none
 isi : mg "isinstance" = none
 str : mg "str" = none
 len : mg "len" = none
 dict : mg "dict" = none
 min : mg "min" = none
 int : mg "int" = none
 zip : mg "zip" = none
 sorted : mg "sorted" = none
 abs : mg "abs" = none
 list : mg "list" = none
structure TxC (K : PySem.W.Frag) (cl : Str -> Addr) : Prop where
 cReader : Cls K (cl "Reader")
 nReader_held : NoAttr K (cl "Reader") "held"
 nReader_highest : NoAttr K (cl "Reader") "highest"
 nReader_pact : NoAttr K (cl "Reader") "pact"
set_option maxHeartbeats 16000000
section
variable (P : Program) (w : World) {K : PySem.W.Frag} {mg : Str -> Option Value} (base : Heap) {cl : Str -> Addr} {f : Addr} {fd : FuncData}
theorem scAreBits : FnScope ["thing", "sign"] ["thing"] (zai ze7) := sco
theorem zk5 (F : Fun K "are_bits" "are_bits" ze7 f fd) (b : Binds K fd ["thing"] []) (m : mg "are_bits" = some (.ref f)) (T : Txt mg) (TC : TxC K cl) : FnX P w K mg base cl "are_bits" 1 1 zd0 :=
 by walk_at "#i|^vez-x<|_w:ymu>L|`Lz.z/Q-y!u=v<w?QuA6|a&u1w7wrw&'w'wElw&'xdy!udy!"
theorem scNumberOf : FnScope ["bits", "number", "sign"] ["bits"] (zai zdD) := sco
theorem zi2 (F : Fun K "number_of" "number_of" zdD f fd) (b : Binds K fd ["bits"] []) (m : mg "number_of" = some (.ref f)) (T : Txt mg) (TC : TxC K cl) : FnX P w K mg base cl "number_of" 1 1 za4 :=
 by walk_at "#i|bvOy#w(v<w?QuAEy#&u/6y#jXu-w;z0z1Lz2z3ue-'"
theorem scNumbersOf : FnScope ["bits", "widths", "numbers", "begin", "width"] ["bits", "widths"] (zai zcX) := sco
theorem zhZ (F : Fun K "numbers_of" "numbers_of" zcX f fd) (b : Binds K fd ["bits", "widths"] []) (m : mg "numbers_of" = some (.ref f)) (T : Txt mg) (TC : TxC K cl) (hNumberOf : FnX P w K mg base cl "number_of" 1 1 za4) : FnX P w K mg base cl "numbers_of" 2 2 zbz :=
 by walk_at "#|c6|dax=&x>(uEx=w(v<w?'uA*x=&cwsx?xAxBwFxC?IxDMv.QuJDuJ`DY>u/3x=jDY-?"
theorem scWidthFor : FnScope ["many", "width", "room"] ["many"] (zai zdA) := sco
theorem zi0 (F : Fun K "width_for" "width_for" zdA f fd) (b : Binds K fd ["many"] []) (m : mg "width_for" = some (.ref f)) (T : Txt mg) (TC : TxC K cl) : FnX P w K mg base cl "width_for" 1 1 zbT :=
 by walk_at "#i|evOxEw(axEw(cy$w:v[x)luP?QUaxE&Xwtu/6xEju--'"
theorem zn4 : FnScope ["number", "width"] ["number", "width"] (zai zgU) := sco
theorem zmu (F : Fun K "rest_of" "rest_of" zgU f fd) (b : Binds K fd ["number", "width"] []) (m : mg "rest_of" = some (.ref f)) (T : Txt mg) (TC : TxC K cl) : FnX P w K mg base cl "rest_of" 1 2 zb6 :=
 by walk_at "#i|f-sQuF'"
theorem zkO : FnScope ["least", "rest", "width"] ["least", "rest", "width"] (zai zdz) := sco
theorem ziZ (F : Fun K "windowed" "windowed" zdz f fd) (b : Binds K fd ["least", "rest", "width"] []) (m : mg "windowed" = some (.ref f)) (T : Txt mg) (TC : TxC K cl) (hRestOf : FnX P w K mg base cl "rest_of" 1 2 zb6) : FnX P w K mg base cl "windowed" 2 3 zbg :=
 by walk_at "#uf|g-`Q0xFMuG'Que"
theorem zn6 : FnScope ["w", "base", "below", "rest", "width"] ["w", "base", "below", "rest", "width"] (zai zg0) := sco
theorem zmA (F : Fun K "around" "around" zg0 f fd) (b : Binds K fd ["w", "base", "below", "rest", "width"] []) (m : mg "around" = some (.ref f)) (T : Txt mg) (TC : TxC K cl) (hRestOf : FnX P w K mg base cl "rest_of" 1 2 zb6) (hWindowed : FnX P w K mg base cl "windowed" 2 3 zbg) : FnX P w K mg base cl "around" 3 5 zfR :=
 by walk_at "#uz|hwuxFu;Iz4MuG'?tu{u&k("
theorem zkP : FnScope ["shape"] ["shape"] (zai zdK) := sco
theorem zi9 (F : Fun K "breadths" "breadths" zdK f fd) (b : Binds K fd ["shape"] []) (m : mg "breadths" = some (.ref f)) (T : Txt mg) (TC : TxC K cl) : FnX P w K mg base cl "breadths" 1 1 zbW :=
 by walk_at "#i|i-yOyVukugz5wvu6uh6uWv`ukz5w)vP"
theorem scExpected : FnScope ["shape", "place", "former", "ahead", "more", "breadth", "kind", "value", "gone"] ["shape", "place", "former", "ahead", "more"] (zai zdJ) := sco
theorem zi8 (F : Fun K "expected" "expected" zdJ f fd) (b : Binds K fd ["shape", "place", "former", "ahead", "more"] []) (m : mg "expected" = some (.ref f)) (T : Txt mg) (TC : TxC K cl) (hRestOf : FnX P w K mg base cl "rest_of" 1 2 zb6) (hTurned : FnX P w K mg base cl "turned" 1 3 zfK) : FnX P w K mg base cl "expected" 2 5 zcR :=
 by walk_at "#uf|jw*v.vQ'uJ)xGw+:xHu(/xHu|_AxH&uQ'v>u}xd0xFM`ZAXu}Yw,u!v>u}xd0|kMu}wwzxu!v>u}w'_GxH&uG[Du}uQu}wuxFM`ZAXu}ZGw,u!-ZA"
theorem zn2 : FnScope ["row", "value", "more"] ["row", "value", "more"] (zai zgS) := sco
theorem zms (F : Fun K "turned" "turned" zgS f fd) (b : Binds K fd ["row", "value", "more"] []) (m : mg "turned" = some (.ref f)) (T : Txt mg) (TC : TxC K cl) : FnX P w K mg base cl "turned" 1 3 zfK :=
 by walk_at "#i|ln|mu;|n'Q+-'udxXvRz6Qu)?uHu&k("
theorem zlP : FnScope ["shape", "number", "head"] ["shape", "number", "head"] (zai ze6) := sco
theorem zk4 (F : Fun K "check_of" "check_of" ze6 f fd) (b : Binds K fd ["shape", "number", "head"] []) (m : mg "check_of" = some (.ref f)) (T : Txt mg) (TC : TxC K cl) : FnX P w K mg base cl "check_of" 1 3 zc4 :=
 by walk_at "#i|o-vR'uVz7+z8Lz9z:wxv+uku[y%xgv`y&y'v=y(Ly)?u<w+wyy*uku[y%y&y'u(*uWy*uku[y%y&y'u|u<yLX`u~Y(u6"
theorem zlO : FnScope ["way", "breadth"] ["way", "breadth"] (zai zeZ) := sco
theorem zkX (F : Fun K "width_of" "width_of" zeZ f fd) (b : Binds K fd ["way", "breadth"] []) (m : mg "width_of" = some (.ref f)) (T : Txt mg) (TC : TxC K cl) : FnX P w K mg base cl "width_of" 1 2 zbK :=
 by walk_at "#i|pwz)u=wzu6ud'"
theorem zn1 : FnScope ["shape", "form"] ["shape", "form"] (zai zgR) := sco
theorem zmr (F : Fun K "widths" "widths" zgR f fd) (b : Binds K fd ["shape", "form"] []) (m : mg "widths" = some (.ref f)) (T : Txt mg) (TC : TxC K cl) (hBreadths : FnX P w K mg base cl "breadths" 1 1 zbW) (hWidthOf : FnX P w K mg base cl "width_of" 1 2 zbK) : FnX P w K mg base cl "widths" 2 2 zdu :=
 by walk_at "#uf|q-yOv`uky+xgv`y,y-v=|rL|svP0z;w{u<w+EuWvauky+y,y-u(wyvauky+y,y-u|u<yL0|tu^Ew-"
theorem zn3 : FnScope ["shape", "form"] ["shape", "form"] (zai zgT) := sco
theorem zmt (F : Fun K "size_of" "size_of" zgT f fd) (b : Binds K fd ["shape", "form"] []) (m : mg "size_of" = some (.ref f)) (T : Txt mg) (TC : TxC K cl) (hWidths : FnX P w K mg base cl "widths" 2 2 zdu) : FnX P w K mg base cl "size_of" 3 2 zeg :=
 by walk_at "#uz|u-uVz7+z8Lz9z:Iz<Vup>"
theorem scOpened : FnScope ["shape", "form", "bits", "former", "more", "head", "place", "rest", "base"] ["shape", "form", "bits", "former", "more"] (zai zgW) := sco
theorem zmw (F : Fun K "opened" "opened" zgW f fd) (b : Binds K fd ["shape", "form", "bits", "former", "more"] []) (m : mg "opened" = some (.ref f)) (T : Txt mg) (TC : TxC K cl) (hExpected : FnX P w K mg base cl "expected" 2 5 zcR) (hNumbersOf : FnX P w K mg base cl "numbers_of" 2 2 zbz) (hValueTold : FnX P w K mg base cl "value_told" 4 4 zcd) (hWidths : FnX P w K mg base cl "widths" 2 2 zdu) : FnX P w K mg base cl "opened" 5 5 zfO :=
 by walk_at "#u3*|v_:wG&u$(v<y(Ly)0z=u^EIz<Vup>w+/wGu(AwGu|_GwGuI|wVwUtw,u{u/:wGjvSu$I|xw|vPuRuivQuR)u&Gwww.vS"
theorem ziS : FnScope ["way", "breadth", "base", "rest"] ["way", "breadth", "base", "rest"] (zai zcT) := sco
theorem zhV (F : Fun K "value_told" "value_told" zcT f fd) (b : Binds K fd ["way", "breadth", "base", "rest"] []) (m : mg "value_told" = some (.ref f)) (T : Txt mg) (TC : TxC K cl) (hAround : FnX P w K mg base cl "around" 3 5 zfR) : FnX P w K mg base cl "value_told" 4 4 zcd :=
 by walk_at "#u33|ywz?u=wz0|zu^6uCw/tw/u!-D"
theorem zn5 : FnScope ["pact", "at"] ["pact", "at"] (zai zgZ) := sco
theorem zmz (F : Fun K "form_at" "form_at" zgZ f fd) (b : Binds K fd ["pact", "at"] []) (m : mg "form_at" = some (.ref f)) (T : Txt mg) (TC : TxC K cl) : FnX P w K mg base cl "form_at" 1 2 za7 :=
 by walk_at "#i|{nw0'v(xZu$u'w/#Xvfv4>uHuiu6)>udvQ'"
theorem ziT : FnScope ["pact"] ["pact"] (zai zcV) := sco
theorem zhX (F : Fun K "sort_width" "sort_width" zcV f fd) (b : Binds K fd ["pact"] []) (m : mg "sort_width" = some (.ref f)) (T : Txt mg) (TC : TxC K cl) (hWidthFor : FnX P w K mg base cl "width_for" 1 1 zbT) : FnX P w K mg base cl "sort_width" 2 1 za8 :=
 by walk_at "#uf||wuz>MvTuHw/>"
theorem zhK : FnScope ["pact"] ["pact"] (zai zcr) := sco
theorem zhf (F : Fun K "check_width" "check_width" zcr f fd) (b : Binds K fd ["pact"] []) (m : mg "check_width" = some (.ref f)) (T : Txt mg) (TC : TxC K cl) (hWidthFor : FnX P w K mg base cl "width_for" 1 1 zbT) : FnX P w K mg base cl "check_width" 2 1 zbj :=
 by walk_at "#uf|}wuz>MvQw}"
theorem scLetterSize : FnScope ["pact", "at", "form"] ["pact", "at"] (zai zco) := sco
theorem zhc (F : Fun K "letter_size" "letter_size" zco f fd) (b : Binds K fd ["pact", "at"] []) (m : mg "letter_size" = some (.ref f)) (T : Txt mg) (TC : TxC K cl) (hCheckWidth : FnX P w K mg base cl "check_width" 2 1 zbj) (hFormAt : FnX P w K mg base cl "form_at" 1 2 za7) (hSizeOf : FnX P w K mg base cl "size_of" 3 2 zeg) (hSortWidth : FnX P w K mg base cl "sort_width" 2 1 za8) : FnX P w K mg base cl "letter_size" 4 2 zbU :=
 by walk_at "#u33|~a}!uIwHVu)-```0y.w{uQ)0}#Mu6ue0z?w{"
theorem scSortTold : FnScope ["pact", "bits", "sort"] ["pact", "bits"] (zai zdC) := sco
theorem zi1 (F : Fun K "sort_told" "sort_told" zdC f fd) (b : Binds K fd ["pact", "bits"] []) (m : mg "sort_told" = some (.ref f)) (T : Txt mg) (TC : TxC K cl) (hNumberOf : FnX P w K mg base cl "number_of" 1 1 za4) (hSortWidth : FnX P w K mg base cl "sort_width" 2 1 za8) : FnX P w K mg base cl "sort_told" 3 2 zce :=
 by walk_at "#uz}$a}%uIxDMv.'xGuJ0y.V>ny/y0?uHw/(w~xIudy1lv5wtUv(uGwt"
theorem scParted : FnScope ["pact", "letter", "at", "begin", "behind", "last", "check"] ["pact", "letter"] (zai zgV) := sco
theorem zmv (F : Fun K "parted" "parted" zgV f fd) (b : Binds K fd ["pact", "letter"] []) (m : mg "parted" = some (.ref f)) (T : Txt mg) (TC : TxC K cl) (hAreBits : FnX P w K mg base cl "are_bits" 1 1 zd0) (hCheckWidth : FnX P w K mg base cl "check_width" 2 1 zbj) (hFormAt : FnX P w K mg base cl "form_at" 1 2 za7) (hLetterSize : FnX P w K mg base cl "letter_size" 4 2 zbU) (hNumberOf : FnX P w K mg base cl "number_of" 1 1 za4) (hSortTold : FnX P w K mg base cl "sort_told" 3 2 zce) (hSortWidth : FnX P w K mg base cl "sort_width" 2 1 za8) : FnX P w K mg base cl "parted" 5 2 zeh :=
 by walk_at "#u3*}&vez-x<0}'u^6(u1xIu=awIuI}(Vu)nw&uHu)0})Vuew~xIu=uEwIuIy.w{w1wIjD[0wHVue)_:wI&uGuHu)0z?w{_/wIuIxDMv.'uJvSxG(ny2y3uRvQ)w~xIudu$uCIxDMv.'uJDuJY(#v.'uJYuJvSx!"
theorem scThoseKept : FnScope ["held", "bound", "least"] ["held", "bound"] (zai zcU) := sco
theorem zhW (F : Fun K "those_kept" "those_kept" zcU f fd) (b : Binds K fd ["held", "bound"] []) (m : mg "those_kept" = some (.ref f)) (T : Txt mg) (TC : TxC K cl) : FnX P w K mg base cl "those_kept" 1 2 zbn :=
 by walk_at "#i}*a}++xJ+zA+LxKzBwRv+w9xLv,ugu[v=Quhwyvaw9xLv,u[xay4luPD'Uu<D'-},wRv+w9xLv,ugu[wvuV}-+}.L}/}0u&k(uhwyvaw9xLv,u[xay4ly2y3D?Uu<Du<xXD"
theorem zhH : FnScope ["self", "pact"] ["self", "pact"] (zai zcn) := sco
theorem zhb (F : Fun K "__init__" "Reader.__init__" zcn f fd) (b : Binds K fd ["self", "pact"] []) (mc : mg "Reader" = some (.ref (cl "Reader"))) (m : Mk K (cl "Reader") f) (T : Txt mg) (TC : TxC K cl) : FnC P w K mg base cl "Reader" 1 2 zby :=
 have h := FnC.mk' (P := P) (w := w) (base := base) (cl := cl) (k := 0) F b mc m zhH rfl fun cdv A outer s H E hr =>
  (zag (zhR (zab 0) (zab 1) TC.cReader TC.nReader_pact)
  (zag (zhR (zab 0) zbC TC.cReader TC.nReader_highest)
  (zah (zhR (zab 0) zof TC.cReader TC.nReader_held))))
 h
theorem scReaderRead : FnScope ["self", "letter", "at", "number", "bits", "check", "head"] ["self", "letter"] (zai zcl) := sco
theorem zg9 (F : Fun K "read" "Reader.read" zcl f fd) (b : Binds K fd ["self", "letter"] []) (m : Meth K (cl "Reader") "read" f) (T : Txt mg) (TC : TxC K cl) (hReaderHeadTold : FnM P w K mg base cl "Reader" "head_told" 6 4 zaS) (hReaderIsFar : FnM P w K mg base cl "Reader" "is_far" 2 3 zbp) (hReaderIsLate : FnM P w K mg base cl "Reader" "is_late" 2 2 za9) (hReaderLeast : FnM P w K mg base cl "Reader" "least" 1 1 zaF) (hReaderRise : FnM P w K mg base cl "Reader" "rise" 2 2 za3) (hCheckOf : FnX P w K mg base cl "check_of" 1 3 zc4) (hFormAt : FnX P w K mg base cl "form_at" 1 2 za7) (hParted : FnX P w K mg base cl "parted" 5 2 zeh) (hWindowed : FnX P w K mg base cl "windowed" 2 3 zbg) : FnM P w K mg base cl "Reader" "read" 7 2 zaP :=
 by walk_at "#u]/}1w*0}2Mv!u)xb*wTEvbu(3vbu(*vbu(:vbu|nxMxN?vUnw0w2v(w3#u2u!u/3vbuIz4Mv/y5u#tui0wHMv!ue)u!vex<ul}3u#w-v#vV#u2u!nzCu;zDDw4+vVtu!vewrxMxN?vUwEx<ul}4u#tui0wHMv!uew}x,v#cxjulzEu#w-v#vV#u2u!_/vb&ul}5u#uCtu{x,x,v#nw&0}6w|v!)tx!vSw3#u2u!czFzGu;w4DuR+cxjulzEu#w-v#vVtx!"
theorem ziU : FnScope ["self"] ["self"] (zai zcW) := sco
theorem zhY (F : Fun K "top" "Reader.top" zcW f fd) (b : Binds K fd ["self"] []) (m : Meth K (cl "Reader") "top" f) (T : Txt mg) (TC : TxC K cl) : FnM P w K mg base cl "Reader" "top" 1 1 zbo :=
 by walk_at "#u]k}7-w2"
theorem zhG : FnScope ["self"] ["self"] (zai zcm) := sco
theorem zha (F : Fun K "kept" "Reader.kept" zcm f fd) (b : Binds K fd ["self"] []) (m : Meth K (cl "Reader") "kept" f) (T : Txt mg) (TC : TxC K cl) : FnM P w K mg base cl "Reader" "kept" 1 1 zaX :=
 by walk_at "#u]k}8-w;}9}:L};}<#w4("
theorem zgQ : FnScope ["self"] ["self"] (zai zbZ) := sco
theorem zf6 (F : Fun K "least" "Reader.least" zbZ f fd) (b : Binds K fd ["self"] []) (m : Meth K (cl "Reader") "least" f) (T : Txt mg) (TC : TxC K cl) : FnM P w K mg base cl "Reader" "least" 1 1 zaF :=
 by walk_at "#u]k}=-uGw2[[v!vj"
theorem zf1 : FnScope ["self", "number"] ["self", "number"] (zai zbI) := sco
theorem zfs (F : Fun K "is_late" "Reader.is_late" zbI f fd) (b : Binds K fd ["self", "number"] []) (m : Meth K (cl "Reader") "is_late" f) (T : Txt mg) (TC : TxC K cl) (hReaderLeast : FnM P w K mg base cl "Reader" "least" 1 1 zaF) : FnM P w K mg base cl "Reader" "is_late" 2 2 za9 :=
 by walk_at "#u]6}>-zHumuPu-UxOzIumxMxNw2vUxOumuP'v/y5u#U"
theorem zfk : FnScope ["self", "number"] ["self", "number"] (zai zbB) := sco
theorem zeQ (F : Fun K "nearest" "Reader.nearest" zbB f fd) (b : Binds K fd ["self", "number"] []) (m : Meth K (cl "Reader") "nearest" f) (T : Txt mg) (TC : TxC K cl) : FnM P w K mg base cl "Reader" "nearest" 1 2 zaQ :=
 by walk_at "#u]k}?-zA+LxKzBwRv`zJu[ugzKv=w4uhEuWv+zJu[zKxay4luP?'Uu<?v("
theorem scReaderIsFar : FnScope ["self", "number", "reach", "former"] ["self", "number", "reach"] (zai zb0) := sco
theorem zf7 (F : Fun K "is_far" "Reader.is_far" zb0 f fd) (b : Binds K fd ["self", "number", "reach"] []) (m : Meth K (cl "Reader") "is_far" f) (T : Txt mg) (TC : TxC K cl) (hReaderNearest : FnM P w K mg base cl "Reader" "nearest" 1 2 zaQ) : FnM P w K mg base cl "Reader" "is_far" 2 3 zbp :=
 by walk_at "#u]6}AuE}B&ulzLu#u)v#-zHumw0DvUxOumy/y0uG'D?U"
theorem scReaderHeadTold : FnScope ["self", "at", "number", "bits", "former"] ["self", "at", "number", "bits"] (zai zbr) := sco
theorem zee (F : Fun K "head_told" "Reader.head_told" zbr f fd) (b : Binds K fd ["self", "at", "number", "bits"] []) (m : Meth K (cl "Reader") "head_told" f) (T : Txt mg) (TC : TxC K cl) (hReaderNearest : FnM P w K mg base cl "Reader" "nearest" 1 2 zaQ) (hBreadths : FnX P w K mg base cl "breadths" 1 1 zbW) (hFormAt : FnX P w K mg base cl "form_at" 1 2 za7) (hNumbersOf : FnX P w K mg base cl "numbers_of" 2 2 zbz) (hOpened : FnX P w K mg base cl "opened" 5 5 zfO) : FnM P w K mg base cl "Reader" "head_told" 6 4 zaS :=
 by walk_at "#u]:}Cnw0'v(xZv$Iz=u^3Iz;w|v!)>u!w1}D&ulzLu#uev#wu}Ew|v!)IwHMv!u)tuiw4Y#uG?Y("
theorem zhF : FnScope ["self", "number"] ["self", "number"] (zai zck) := sco
theorem zg8 (F : Fun K "rise" "Reader.rise" zck f fd) (b : Binds K fd ["self", "number"] []) (m : Meth K (cl "Reader") "rise" f) (T : Txt mg) (TC : TxC K cl) (hReaderLeast : FnM P w K mg base cl "Reader" "least" 1 1 zaF) (hThoseKept : FnX P w K mg base cl "those_kept" 1 2 zbn) : FnM P w K mg base cl "Reader" "rise" 2 2 za3 :=
 by walk_at "#u]6}FczMQy1lw0w2vU'uVzN+zOLxKzP#w2u)xeyXu1zMQ0}GMw4#v/y5u#(xeyY"
theorem scLawBox : FnScope ["_law_script", "_law_seed", "_law_own", "_law_far", "_law_cell"] ["_law_script"] (zai zgY) := sco
theorem zmy (F : Fun K "_law_box" "_law_box" zgY f fd) (b : Binds K fd ["_law_script"] []) (m : mg "_law_box" = some (.ref f)) (T : Txt mg) (TC : TxC K cl) : FnX P w K mg base cl "_law_box" 1 1 zei :=
 by walk_at "#i}HvOwJw(awJ&x>(uEwJ&u*xPxQu*xPxQu*xPxQu*xPxQv%v%v%v%v%v<w?v.QxGuJ)uA*wJ&vOwJ&vR`Xu-sYv%vju1w7ly2y3uVzQzRLzSzTu{v%w~wsx?xAxBwFxC?#suVzQzRLzSzTu{Du!-}Iy6?y6'y6)}J}Ku>"
theorem scLawNext : FnScope ["_law_box_here", "_law_many", "_law_digit", "_law_turn", "_law_mixed"] ["_law_box_here", "_law_many"] (zai ze2) := sco
theorem zk0 (F : Fun K "_law_next" "_law_next" ze2 f fd) (b : Binds K fd ["_law_box_here", "_law_many"] []) (m : mg "_law_next" = some (.ref f)) (T : Txt mg) (TC : TxC K cl) : FnX P w K mg base cl "_law_next" 1 2 zaA :=
 by walk_at "#i}Lcy$w:v[x)wrw&uSx((UwElv5[uSvjw~ws}M}N}OwF}PuSuTnw&uSx((UawK&s[uS)'w*u*y7y8[uS)'}QuS)-?u=czFzGu;Qu2`uS)+uEwK&uSw1wKj`uSXXDu~Xu~w1wK&sXYvjw1wK&sXY`sYvj)-su*y7y8Y)'"
theorem zpR : FnScope ["_law_box_here", "_law_some"] ["_law_box_here", "_law_some"] (zai zjT) := sco
theorem zoy (F : Fun K "_law_of" "_law_of" zjT f fd) (b : Binds K fd ["_law_box_here", "_law_some"] []) (m : mg "_law_of" = some (.ref f)) (T : Txt mg) (TC : TxC K cl) (hLawNext : FnX P w K mg base cl "_law_next" 1 2 zaA) : FnX P w K mg base cl "_law_of" 2 2 zaN :=
 by walk_at "#uf}R-['0x*vguHup>"
theorem scLawValue : FnScope ["_law_box_here", "_law_breadth", "_law_some"] ["_law_box_here", "_law_breadth"] (zai zdF) := sco
theorem zi4 (F : Fun K "_law_value" "_law_value" zdF f fd) (b : Binds K fd ["_law_box_here", "_law_breadth"] []) (m : mg "_law_value" = some (.ref f)) (T : Txt mg) (TC : TxC K cl) (hLawNext : FnX P w K mg base cl "_law_next" 1 2 zaA) : FnX P w K mg base cl "_law_value" 2 2 zba :=
 by walk_at "#uf}Sa}T&yB#uGuFu-Ix*vguF'w.suQvWuTuF'"
theorem scLawKind : FnScope ["_law_box_here", "_law_place", "_law_breadth", "_law_way_here", "_law_many", "_law_first", "_law_step", "_law_times"] ["_law_box_here", "_law_place", "_law_breadth"] (zai ze3) := sco
theorem zk1 (F : Fun K "_law_kind" "_law_kind" ze3 f fd) (b : Binds K fd ["_law_box_here", "_law_place", "_law_breadth"] []) (m : mg "_law_kind" = some (.ref f)) (T : Txt mg) (TC : TxC K cl) (hLawNext : FnX P w K mg base cl "_law_next" 1 2 zaA) (hLawOf : FnX P w K mg base cl "_law_of" 2 2 zaN) (hLawValue : FnX P w K mg base cl "_law_value" 2 2 zba) : FnX P w K mg base cl "_law_kind" 3 3 zcQ :=
 by walk_at "#uz}UuEwLuIwSuTnuPu~w3u!nuPu~w3Iy9VuC>u=v>u~Uw1wL&uV}V+}WL}X}Y#vTvWuT#uF?(w*u$Ix*vguF?(#`X)vWuTw}w+:wL+xJwT/wL+xJ+yWvV#v$wxzUw>zVzWzXzYzZz[z]ugvcv=yPu{uhGuWz^w>zVzWzXzYzZz[z]vcw)vRvSXuRZGuF?>u=vewruPu~UwEly/y0u-U_AwL&yB#z_z`za)v0#z_z`za)#uGvWuTw}vVIwSu)IyTVww>udv4("
theorem scLawShape : FnScope ["_law_box_here", "_law_most", "_law_letters", "_law_first", "_law_fields", "_law_place", "_law_breadth", "_law_name"] ["_law_box_here", "_law_most"] (zai zdH) := sco
theorem zi6 (F : Fun K "_law_shape" "_law_shape" zdH f fd) (b : Binds K fd ["_law_box_here", "_law_most"] []) (m : mg "_law_shape" = some (.ref f)) (T : Txt mg) (TC : TxC K cl) (hLawKind : FnX P w K mg base cl "_law_kind" 3 3 zcQ) (hLawNext : FnX P w K mg base cl "_law_next" 1 2 zaA) (hLawOf : FnX P w K mg base cl "_law_of" 2 2 zaN) : FnX P w K mg base cl "_law_shape" 4 2 zcf :=
 by walk_at "#u33}ZawM&u2czbv&3xR*+wMv1u>v1IwSuT#x>>+x##vTvWup>uA:wM&_/wMuIyMv0>_AwM&XuQvRDX)ZyAvTvRDZyAu1wsx?xAxBwFxCY#u$wwwUI}[Vw,wUvX-vfv$u{w5u'#v%vX"
theorem scLawWay : FnScope ["_law_box_here", "_law_breadth", "_law_way_here", "_law_width_here"] ["_law_box_here", "_law_breadth"] (zai zgX) := sco
theorem zmx (F : Fun K "_law_way" "_law_way" zgX f fd) (b : Binds K fd ["_law_box_here", "_law_breadth"] []) (m : mg "_law_way" = some (.ref f)) (T : Txt mg) (TC : TxC K cl) (hLawNext : FnX P w K mg base cl "_law_next" 1 2 zaA) (hLawValue : FnX P w K mg base cl "_law_value" 2 2 zba) : FnX P w K mg base cl "_law_way" 3 2 zdY :=
 by walk_at "#uz}]azcuIwSuTnuPwtw3u!v>wtw3u!uEzcj)vWu)vVtIy9Vt>"
theorem scLawForm : FnScope ["_law_box_here", "_law_shape_here", "_law_ways"] ["_law_box_here", "_law_shape_here"] (zai ze4) := sco
theorem zk2 (F : Fun K "_law_form" "_law_form" ze4 f fd) (b : Binds K fd ["_law_box_here", "_law_shape_here"] []) (m : mg "_law_form" = some (.ref f)) (T : Txt mg) (TC : TxC K cl) (hLawOf : FnX P w K mg base cl "_law_of" 2 2 zaN) (hLawWay : FnX P w K mg base cl "_law_way" 3 2 zdY) : FnX P w K mg base cl "_law_form" 4 2 zcg :=
 by walk_at "#u33}^a}_&v$wxv+w6xSugvdwvvPuhwyvaw6xSvdw)0}`vg[u~w.u$w5u'>w5v0u'>ue"
theorem scLawRoad : FnScope ["_law_box_here", "_law_skips", "_law_gap"] ["_law_box_here"] (zai ze0) := sco
theorem zkY (F : Fun K "_law_road" "_law_road" ze0 f fd) (b : Binds K fd ["_law_box_here"] []) (m : mg "_law_road" = some (.ref f)) (T : Txt mg) (TC : TxC K cl) (hLawOf : FnX P w K mg base cl "_law_of" 2 2 zaN) : FnX P w K mg base cl "_law_road" 3 1 zdZ :=
 by walk_at "#uz}avOzduIyMu'>azdj'0yFu'w.u$upuCw5>w5u'vX"
theorem scLawPact : FnScope ["_law_box_here", "_law_most", "_law_shape_here", "_law_forms"] ["_law_box_here", "_law_most"] (zai ze1) := sco
theorem zkZ (F : Fun K "_law_pact" "_law_pact" ze1 f fd) (b : Binds K fd ["_law_box_here", "_law_most"] []) (m : mg "_law_pact" = some (.ref f)) (T : Txt mg) (TC : TxC K cl) (hLawForm : FnX P w K mg base cl "_law_form" 4 2 zcg) (hLawOf : FnX P w K mg base cl "_law_of" 2 2 zaN) (hLawRoad : FnX P w K mg base cl "_law_road" 3 1 zdZ) (hLawShape : FnX P w K mg base cl "_law_shape" 4 2 zcf) : FnX P w K mg base cl "_law_pact" 5 2 zc3 :=
 by walk_at "#u3*}baze+xJ+0}cVu)uEze&v$wxvaw>zfxixTugvcv=yPw5vXuh*uWy*w>zfxixTvcw)0}dVuCw.u$uCIyF>tI}eV>"
theorem zhJ : FnScope ["_law_box_here", "_law_shape_here"] ["_law_box_here", "_law_shape_here"] (zai zcq) := sco
theorem zhe (F : Fun K "_law_any_head" "_law_any_head" zcq f fd) (b : Binds K fd ["_law_box_here", "_law_shape_here"] []) (m : mg "_law_any_head" = some (.ref f)) (T : Txt mg) (TC : TxC K cl) (hLawValue : FnX P w K mg base cl "_law_value" 2 2 zba) : FnX P w K mg base cl "_law_any_head" 3 2 za6 :=
 by walk_at "#uz}f-v$wxv`w6ugvdwvvPuhEuWv+w6vdw)0y9vguQ)>"
theorem scLawExpected : FnScope ["_law_shape_here", "_law_place", "_law_former", "_law_ahead", "_law_more", "_law_kind_here", "_law_was"] ["_law_shape_here", "_law_place", "_law_former", "_law_ahead", "_law_more"] (zai zb1) := sco
theorem zf8 (F : Fun K "_law_expected" "_law_expected" zb1 f fd) (b : Binds K fd ["_law_shape_here", "_law_place", "_law_former", "_law_ahead", "_law_more"] []) (m : mg "_law_expected" = some (.ref f)) (T : Txt mg) (TC : TxC K cl) : FnX P w K mg base cl "_law_expected" 1 5 zbc :=
 by walk_at "#i}gczbv&:xR/+xUv1u>v1uivQu-#uQ'(+v>u0w'u//xUjuRXu0Yu1w7wrv5u0w'wElzCu;zDuRu0+u//xU&[u0vRz6u0x!YuH#u0(u1w7lv5u0w'u//xUjuRXu0uG[Du0uQu0udsuRuF[vQu-"
theorem scLawOn : FnScope ["_law_shape_here", "_law_former", "_law_head", "_law_place"] ["_law_shape_here", "_law_former"] (zai zjS) := sco
theorem zox (F : Fun K "_law_on" "_law_on" zjS f fd) (b : Binds K fd ["_law_shape_here", "_law_former"] []) (m : mg "_law_on" = some (.ref f)) (T : Txt mg) (TC : TxC K cl) (hLawExpected : FnX P w K mg base cl "_law_expected" 1 5 zbc) : FnX P w K mg base cl "_law_on" 2 2 zgw :=
 by walk_at "#uf}hay:&u$(x##uHw/>uA3y:&u/Ey:j?u$I}iVtupuCu'w.?"
theorem scLawBits : FnScope ["_law_number", "_law_width_here", "_law_found", "_law_k"] ["_law_number", "_law_width_here"] (zai ze5) := sco
theorem zk3 (F : Fun K "_law_bits" "_law_bits" ze5 f fd) (b : Binds K fd ["_law_number", "_law_width_here"] []) (m : mg "_law_bits" = some (.ref f)) (T : Txt mg) (TC : TxC K cl) : FnX P w K mg base cl "_law_bits" 1 2 zbh :=
 by walk_at "#i}jaxV&u2x#u)uA3xV&axVjw;}k}lLz.z/#sQw}?u/kxV&u*y7y8Q)-?"
theorem scLawWidth : FnScope ["_law_many", "_law_width_here"] ["_law_many"] (zai zdE) := sco
theorem zi3 (F : Fun K "_law_width" "_law_width" zdE f fd) (b : Binds K fd ["_law_many"] []) (m : mg "_law_width" = some (.ref f)) (T : Txt mg) (TC : TxC K cl) : FnX P w K mg base cl "_law_width" 1 1 zaM :=
 by walk_at "#i}mvOzgw(cy$w:v[x)luPuF'QUu/6zgju--'"
theorem scLawCheck : FnScope ["_law_shape_here", "_law_number", "_law_head", "_law_total", "_law_place"] ["_law_shape_here", "_law_number", "_law_head"] (zai zdI) := sco
theorem zi7 (F : Fun K "_law_check" "_law_check" zdI f fd) (b : Binds K fd ["_law_shape_here", "_law_number", "_law_head"] []) (m : mg "_law_check" = some (.ref f)) (T : Txt mg) (TC : TxC K cl) : FnX P w K mg base cl "_law_check" 1 3 za0 :=
 by walk_at "#i}nuEy;&'x##uHuC>uA*y;&u/3y;jDX`Y)uQY-sDu6"
theorem zhI : FnScope ["_law_way_here", "_law_breadth"] ["_law_way_here", "_law_breadth"] (zai zcp) := sco
theorem zhd (F : Fun K "_law_width_of" "_law_width_of" zcp f fd) (b : Binds K fd ["_law_way_here", "_law_breadth"] []) (m : mg "_law_width_of" = some (.ref f)) (T : Txt mg) (TC : TxC K cl) : FnX P w K mg base cl "_law_width_of" 1 2 zbV :=
 by walk_at "#i}owzu6udX'w;z0z1Lz2z3#umv5u6w'("
theorem scLawPieces : FnScope ["_law_shape_here", "_law_ways", "_law_head", "_law_found", "_law_place", "_law_field", "_law_width_here"] ["_law_shape_here", "_law_ways", "_law_head"] (zai zcY) := sco
theorem zh0 (F : Fun K "_law_pieces" "_law_pieces" zcY f fd) (b : Binds K fd ["_law_shape_here", "_law_ways", "_law_head"] []) (m : mg "_law_pieces" = some (.ref f)) (T : Txt mg) (TC : TxC K cl) (hLawBits : FnX P w K mg base cl "_law_bits" 1 2 zbh) (hLawWidthOf : FnX P w K mg base cl "_law_width_of" 1 2 zbV) : FnX P w K mg base cl "_law_pieces" 2 3 za5 :=
 by walk_at "#uf}puEwN&u2v<y(Ly)u6w+*wNu(:wNu|_/wN&y1lw0'vUu00}qw|'Y#u0(u/3wNjD0xWMsuQYuFuRx!-D"
theorem scLawLetter : FnScope ["_law_pact_here", "_law_at", "_law_number", "_law_head", "_law_shape_here", "_law_wide", "_law_forms", "_law_road_here", "_law_count", "_law_ways", "_law_sort", "_law_found"] ["_law_pact_here", "_law_at", "_law_number", "_law_head"] (zai zcZ) := sco
theorem zh1 (F : Fun K "_law_letter" "_law_letter" zcZ f fd) (b : Binds K fd ["_law_pact_here", "_law_at", "_law_number", "_law_head"] []) (m : mg "_law_letter" = some (.ref f)) (T : Txt mg) (TC : TxC K cl) (hLawBits : FnX P w K mg base cl "_law_bits" 1 2 zbh) (hLawCheck : FnX P w K mg base cl "_law_check" 1 3 za0) (hLawPieces : FnX P w K mg base cl "_law_pieces" 2 3 za5) (hLawWidth : FnX P w K mg base cl "_law_width" 1 1 zaM) : FnX P w K mg base cl "_law_letter" 3 4 zaT :=
 by walk_at "#uz}rw*Qxb*wT*unu(:unu(/unu(Aunu|czhv&GxRu4ziu%+unwOu>u>u>wOw,#v(uT+nxMxN'vUu1zhv&GxRu4ziu%+unwOu>u>u>wOuiyEu-uiyEu-#vT'(+u=_dunj0xWu^u%IzjMvTuHwUvX0xWMs?uFZGu&G(_dunjZd0}su^*u&u4w--`Zd0xWu;I}tu^*uCw-IzjMy>*)>"
theorem scLawPlainPact : FnScope ["_law_box_here", "_law_shape_here", "_law_wide", "_law_forms", "_law_road_here", "_law_some", "_law_k", "_law_ways"] ["_law_box_here"] (zai zbJ) := sco
theorem zft (F : Fun K "_law_plain_pact" "_law_plain_pact" zbJ f fd) (b : Binds K fd ["_law_box_here"] []) (m : mg "_law_plain_pact" = some (.ref f)) (T : Txt mg) (TC : TxC K cl) (hLawNext : FnX P w K mg base cl "_law_next" 1 2 zaA) (hLawOf : FnX P w K mg base cl "_law_of" 2 2 zaN) (hLawPact : FnX P w K mg base cl "_law_pact" 5 2 zc3) : FnX P w K mg base cl "_law_plain_pact" 6 1 zbb :=
 by walk_at "#u3:}uw*0}vVuTxb*wT6uou(Euou(3uou(*uou|vOuo&vfvP#uVzN+zOLxKzPu'uiu->_:uo&x>(x##vTvWu'>uA/uo&c}wv&Av1uowRzUw6zkxTzlzmvcxSugvdwvvPuhGuWz^w6zkxTzlzmvcxSvdw)0zwx(#v4(#v4(#v4vXu1wsx?xAxBwFxCvS#u$v0#v$wwvX-u$upu'#v$w,(u{"
theorem scLawStays : FnScope ["_law_reader", "_law_letter_here", "_law_due", "_law_before"] ["_law_reader", "_law_letter_here", "_law_due"] (zai zdG) := sco
theorem zi5 (F : Fun K "_law_stays" "_law_stays" zdG f fd) (b : Binds K fd ["_law_reader", "_law_letter_here", "_law_due"] []) (m : mg "_law_stays" = some (.ref f)) (T : Txt mg) (TC : TxC K cl) (hReaderKept : FnM P w K mg base cl "Reader" "kept" 1 1 zaX) (hReaderRead : FnM P w K mg base cl "Reader" "read" 7 2 zaP) (hReaderTop : FnM P w K mg base cl "Reader" "top" 1 1 zbo) : FnX P w K mg base cl "_law_stays" 8 3 zbE :=
 by walk_at "#u3A}xuE}y&vfv/znu##v/zou#(-zIumv5ul}zu#u)v#?UxOum}{}|u;}}vfv/znu##v/zou#(DU"
theorem scLaw : FnScope ["_law_script", "_law_box_here", "_law_turn", "_law_pact_here", "_law_shape_here", "_law_reader", "_law_last", "_law_head", "_law_number", "_law_at", "_law_letter_here", "_law_check_here", "_law_wrong", "_law_other", "_law_bent"] ["_law_script"] (zai zpS) := sco
theorem ok_Law (F : Fun K "law" "law" zpS f fd) (b : Binds K fd ["_law_script"] []) (m : mg "law" = some (.ref f)) (T : Txt mg) (TC : TxC K cl) (hReaderInit : FnC P w K mg base cl "Reader" 1 2 zby) (hReaderRead : FnM P w K mg base cl "Reader" "read" 7 2 zaP) (hLawAnyHead : FnX P w K mg base cl "_law_any_head" 3 2 za6) (hLawBits : FnX P w K mg base cl "_law_bits" 1 2 zbh) (hLawBox : FnX P w K mg base cl "_law_box" 1 1 zei) (hLawCheck : FnX P w K mg base cl "_law_check" 1 3 za0) (hLawLetter : FnX P w K mg base cl "_law_letter" 3 4 zaT) (hLawNext : FnX P w K mg base cl "_law_next" 1 2 zaA) (hLawOf : FnX P w K mg base cl "_law_of" 2 2 zaN) (hLawOn : FnX P w K mg base cl "_law_on" 2 2 zgw) (hLawPlainPact : FnX P w K mg base cl "_law_plain_pact" 6 1 zbb) (hLawStays : FnX P w K mg base cl "_law_stays" 8 3 zbE) (hLawWidth : FnX P w K mg base cl "_law_width" 1 1 zaM) : FnOk P w K mg base CX0 9 f fd ["_law_script"] (spD K cl X0 1 zkl) :=
 have h := fnO (P := P) (w := w) (mg := mg) (base := base) (cl := cl) (k := 8) F scLaw rfl fun cdv A outer s H E hr =>
  (zag (zal (i := 1) scLaw.nd rfl (Or.inl rfl) (qfn hLawBox hr (zaa (zab 0) zaf)))
  (zag (zca PassesOwn.never rfl (zcs (by rfl) T.range (zaa zad zaf)) (zaq (i := 2) scLaw.nd rfl (Or.inl rfl))
  (zag (zal (i := 3) scLaw.nd rfl (Or.inl rfl) (qfn hLawPlainPact hr (zaa (zab 1) zaf)))
  (zag (zl2 (i := 4) (j := 5) rfl scLaw.nd rfl rfl (by decide) rfl rfl (zaa (qxi hr (zab 3) zad) (zaa (zp0 hReaderInit rfl (hr.mono (by decide)) rfl (zaa (zab 3) zaf) (aCons_len aNil_len)) zaf)) rfl)
  (zag (zal (i := 6) scLaw.nd rfl (Or.inl rfl) (qfn hLawWidth hr (zaa (qxi hr (zab 4) zad) zaf)))
  (zag (zal (i := 7) scLaw.nd rfl (Or.inl rfl) (qfn hLawAnyHead hr (zaa (zab 1) (zaa (zab 4) zaf))))
  (zah (zca PassesOwn.never rfl (zcs (by rfl) T.range (zaa (qfn hLawOf hr (zaa (zab 1) (zaa (zbD (zaa zad (zaa zad (zaa zad zaf)))) zaf))) zaf)) (zaq (i := 8) scLaw.nd rfl (Or.inl rfl))
  (zag (zal (i := 9) scLaw.nd rfl (Or.inl rfl) (zoe (zay (zbu hr.units) zcB (zab 8) zad (zat _)) zbC (qfn hLawOf hr (zaa (zab 1) (zaa (zak zan zav (zbD (zaa zbC (zaa zad zaf))) (zp1 rfl (by rfl) T.list (by rfl) T.range (zaa (zaE zaK zbX (by rfl) T.len PySem.boot_len (zaa (qxi hr (zab 3) zad) zaf)) zaf))) zaf)))))
  (zag (zal (i := 10) scLaw.nd rfl (Or.inl rfl) (qfn hLawLetter hr (zaa (zab 3) (zaa (zab 9) (zaa (zab 8) (zaa (zab 7) zaf))))))
  (zag (zal (i := 11) scLaw.nd rfl (Or.inl rfl) (zak zan zav (qfn hLawCheck hr (zaa (zab 4) (zaa (zab 8) (zaa (zab 7) zaf)))) zad))
  (zag (zal (i := 11) scLaw.nd rfl (Or.inl rfl) (zak zbd zbe (zak zan zav (zab 11) (qfn hLawNext hr (zaa (zab 1) (zaa (zak zbQ zbR (qxi hr (zab 4) zad) zad) zaf)))) (qxi hr (zab 4) zad)))
  (zag (zal (i := 12) scLaw.nd rfl (Or.inl rfl) (zak zan zav (zf3 (zab 10) zdm (zbw (zak zbQ zbR (zaE zaK zbX (by rfl) T.len PySem.boot_len (zaa (zab 10) zaf)) (zab 6)))) (qfn hLawBits hr (zaa (zab 11) (zaa (zab 6) zaf)))))
  (zag (zaU (zj0 (zgm (qfn hLawStays hr (zaa (zab 5) (zaa (zab 12) (zaa (zaD (zaa zas (zaa zas zaf))) zaf))))))
  (zah (zam ziY))
  zaw)
  (zag (zal (i := 13) scLaw.nd rfl (Or.inl rfl) (qfn hLawAnyHead hr (zaa (zab 1) (zaa (zab 4) zaf))))
  (zag (zaU (zay (zev hr.units) zh2 (qfn hLawCheck hr (zaa (zab 4) (zaa (zab 8) (zaa (zab 13) zaf)))) (qfn hLawCheck hr (zaa (zab 4) (zaa (zab 8) (zaa (zab 7) zaf)))) (zat _))
  (zag (zal (i := 14) scLaw.nd rfl (Or.inl rfl) (qfn hLawLetter hr (zaa (zab 3) (zaa zbC (zaa (zab 8) (zaa (zab 13) zaf))))))
  (zag (zal (i := 14) scLaw.nd rfl (Or.inl rfl) (zf3 (zab 14) zdm (zbw (zak zbQ zbR (zaE zaK zbX (by rfl) T.len PySem.boot_len (zaa (zab 14) zaf)) (zab 6)))))
  (zag (zal (i := 14) scLaw.nd rfl (Or.inl rfl) (zak zan zav (zab 14) (zf3 (zab 10) (zbw (zak zbQ zbR (zaE zaK zbX (by rfl) T.len PySem.boot_len (zaa (zab 10) zaf)) (zab 6))) zdm)))
  (zah (zaU (zj0 (zgm (qfn hLawStays hr (zaa (zab 5) (zaa (zab 14) (zaa (zaD (zaa zas (zaa zas zaf))) zaf))))))
  (zah (zam ziY))
  zaw)))))
  zaw)
  (zag (zaU (zay (zev hr.units) zh2 (zdO hReaderRead (zab 5) TC.cReader rfl (hr.mono (by decide)) (zaa (zab 10) zaf) (aCons_len aNil_len)) (zaD (zaa zas (zaa (zab 8) (zaa (zab 7) zaf)))) (zat _))
  (zah (zam ziY))
  zaw)
  (zah (zal (i := 7) scLaw.nd rfl (Or.inl rfl) (qfn hLawOn hr (zaa (zab 4) (zaa (zab 7) zaf)))))))))))))))))))))
  (zah (zam ziY))))
 h
end
end K38
set_option autoImplicit false
namespace K38
open PySem L2 MD
theorem zmW {ns : List Int} (h : ns.length <= 63) : ∃ a m,zkl [.scr (ns.map D.int)] [] = .ok a m /\ a = .bl true := zjf h
end K38
set_option autoImplicit false
namespace K38
open PySem PyProof.Rows L2 MD PySem.W.Fast
theorem trH {α β : Type} {f f' g g' : α -> β} (a : f = f') (c : g = g') {w : α} (b : f' w = g' w) : f w = g w := by rw [a,c]; exact b
theorem hl : PySem.W.LeftO pw vw [] xt (fun s => obs (Kof 433 s.heap)) (fun _ => expd) 5024 := fun w => both (parts4 24 (trH te5847199091826234260 te3079475793362380749 (hlq0 w)) (trH te13355325132288495771 te11637383693910327129 (hlq1 w)) (trH te9517266354896431146 te541181949767034506 (hlq2 w)) (trH te6425957164479230770 te14544886619532427565 (hlq3 w)) (trH te14274010807254230827 te16322297226074489258 (hlq4 w)) (trH te11804534420498133922 te12089013163250843557 (hlq5 w)) (trH te11857349693986920276 te939743827124893274 (hlq6 w)) (trH te6987299409208938272 te8227389618447771603 (hlq7 w))) (both4 (trH te17990011238813085179 te5268381991309352999 (hlq8 w)) (trH te10123680707770861731 te16560098328557538157 (hlq9 w)) (zm5 (zm5 (zm5 (zm5 (zm5 (trH te6013801448408825684 te15947040301183295840 (hlq10 w)) (trH te11785837893849486178 te9602761980673809277 (hlq11 w))) (trH te13899913348769129187 te7345430457598521415 (hlq12 w))) (trH te17276002591921217612 te10367106753726511473 (hlq13 w))) (trH te14065778221193178459 te3595137867954568726 (hlq14 w))) (trH te6475098168258110313 te6677011018191701821 (hlq15 w))))
theorem all_mk {l : PySem.W.OpenLaw} {w : World} {K : PySem.W.Frag} {h : Heap} {mg : Str -> Option Value} {fa : Addr} (y : obs K = expd) (X : K.In h) (G : h.Ns mainGlobals mg) (hfa : mg "law" = some (.ref fa)) :
  ∃ fd : FuncData,(∀ (s : Shared) (v : Value),BindsTo s fd ⟨[v],[]⟩ [("_law_script", v)]) /\ ∀ base : Heap,K.In base -> base.Ns mainGlobals mg -> FnOk l.prog w K mg base CX0 9 fa fd ["_law_script"] (spLaw K) := by
 have y1 : nms.map (PySem.W.nsIn K mainGlobals) = nmsE := congrArg (fun x => x.1) y
 have y2 : fnd.map (fun p => PySem.W.findIn K (.ref p.1) p.2) = fndE := congrArg (fun x => x.2.1) y
 have y3 : fns.map (fnV K) = fnsE := congrArg (fun x => x.2.2.1) y
 have y4 : bls K = blsE := congrArg (fun x => x.2.2.2) y
 have n : ∀ (i : Nat) {x : Str} {v : Value},nms[i]? = some x -> nmsE[i]? = some (some (some v)) -> mg x = some v := fun i _ _ a b => PySem.W.mg_of X G (zqq y1 i a b)
 have o : ∀ (i : Nat) {x : Str},nms[i]? = some x -> nmsE[i]? = some (some none) -> mg x = none := fun i _ a b => PySem.W.mg_none_of X G (zqq y1 i a b)
 have u : ∀ (st : Stmt) (i : Nat) {a : Addr} {x q : Str},fns[i]? = some a -> fnsE[i]? = some (fnE x q st) -> ∃ fd,Fun K x q st a fd := fun st i _ _ _ a b => fun_of (st := st) (zqq y3 i a b)
 have e := hfa.symm.trans (n 44 rfl rfl)
 cases e
 have T : Txt mg := ⟨o 46 rfl rfl,o 47 rfl rfl,o 48 rfl rfl,o 49 rfl rfl,o 50 rfl rfl,o 51 rfl rfl,o 52 rfl rfl,o 53 rfl rfl,o 54 rfl rfl,o 55 rfl rfl,o 56 rfl rfl,o 57 rfl rfl,o 58 rfl rfl,o 59 rfl rfl,o 60 rfl rfl,o 61 rfl rfl⟩
 obtain ⟨cl,eReader⟩ : ∃ cl : Str -> Addr,cl "Reader" = 284 := ⟨fun x => if x = "Reader" then 284 else 0,if_pos rfl⟩
 have ly : ∀ (i : Nat) (b : Bool),(bls K)[i]? = some b -> b = true := fun i b hb => by
  rw [y4] at hb
  exact List.mem_replicate.mp (List.mem_of_getElem? (show (List.replicate 11 true)[i]? = some b from hb)) |>.2
 have cReader : ∀ (i : Nat) {x : Str} {v : Option (Option Value)},fnd[i]? = some (284,x) -> fndE[i]? = some v -> PySem.W.findIn K (.ref (cl "Reader")) x = v := fun i _ _ a b => by rw [eReader]; exact zqq y2 i a b
 have qReader := ly 0 _ rfl
 simp only [Bool.and_eq_true] at qReader
 obtain ⟨⟨⟨⟨pgReader,hdReader⟩,poReader⟩,mkReader⟩,kcReader⟩ := qReader
 have TC : TxC K cl := ⟨(by rw [eReader]; exact ⟨pgReader,hdReader,poReader,(zqq y2 0 rfl rfl)⟩),cReader 1 rfl rfl,cReader 2 rfl rfl,cReader 3 rfl rfl⟩
 have ⟨_,F54⟩ := u zpS 54 rfl rfl
 have Fx := F54
 obtain ⟨oc,od,kV,doc,pm,an,cdv,ct,osl,rfl,lk,hcd⟩ := Fx.ex
 refine ⟨PySem.W.fnOf "law" "law" (zek zpS) (zbA zpS) (zai zpS) .none kV doc pm an cdv ct,fun s v => .of_eq rfl,fun base _ _ => ?_⟩
 have ⟨_,F23⟩ := u zcn 23 rfl rfl
 have g23 := zhb l.prog w base F23 F23.bindA (by rw [eReader]; exact PySem.W.mg_of X G (zqq y1 45 rfl rfl)) (by rw [eReader]; exact ⟨mkReader,(zqq y2 4 rfl rfl),ly 1 _ rfl,kcReader⟩) T TC
 have ⟨_,F29⟩ := u zbB 29 rfl rfl
 have g29 := zeQ l.prog w base F29 F29.bindA ⟨cReader 10 rfl rfl,ly 7 _ rfl,F29.kp⟩ T TC
 have ⟨_,F7⟩ := u zdK 7 rfl rfl
 have g7 := zi9 l.prog w base F7 F7.bindA (n 7 rfl rfl) T TC
 have ⟨_,F16⟩ := u zgZ 16 rfl rfl
 have g16 := zmz l.prog w base F16 F16.bindA (n 16 rfl rfl) T TC
 have ⟨_,F1⟩ := u zdD 1 rfl rfl
 have g1 := zi2 l.prog w base F1 F1.bindA (n 1 rfl rfl) T TC
 have ⟨_,F2⟩ := u zcX 2 rfl rfl
 have g2 := zhZ l.prog w base F2 F2.bindA (n 2 rfl rfl) T TC g1
 have ⟨_,F4⟩ := u zgU 4 rfl rfl
 have g4 := zmu l.prog w base F4 F4.bindA (n 4 rfl rfl) T TC
 have ⟨_,F9⟩ := u zgS 9 rfl rfl
 have g9 := zms l.prog w base F9 F9.bindA (n 9 rfl rfl) T TC
 have ⟨_,F8⟩ := u zdJ 8 rfl rfl
 have g8 := zi8 l.prog w base F8 F8.bindA (n 8 rfl rfl) T TC g4 g9
 have ⟨_,F5⟩ := u zdz 5 rfl rfl
 have g5 := ziZ l.prog w base F5 F5.bindA (n 5 rfl rfl) T TC g4
 have ⟨_,F6⟩ := u zg0 6 rfl rfl
 have g6 := zmA l.prog w base F6 F6.bindA (n 6 rfl rfl) T TC g4 g5
 have ⟨_,F15⟩ := u zcT 15 rfl rfl
 have g15 := zhV l.prog w base F15 F15.bindA (n 15 rfl rfl) T TC g6
 have ⟨_,F11⟩ := u zeZ 11 rfl rfl
 have g11 := zkX l.prog w base F11 F11.bindA (n 11 rfl rfl) T TC
 have ⟨_,F12⟩ := u zgR 12 rfl rfl
 have g12 := zmr l.prog w base F12 F12.bindA (n 12 rfl rfl) T TC g7 g11
 have ⟨_,F14⟩ := u zgW 14 rfl rfl
 have g14 := zmw l.prog w base F14 F14.bindA (n 14 rfl rfl) T TC g8 g2 g15 g12
 have ⟨_,F31⟩ := u zbr 31 rfl rfl
 have g31 := zee l.prog w base F31 F31.bindA ⟨cReader 12 rfl rfl,ly 9 _ rfl,F31.kp⟩ T TC g29 g7 g16 g2 g14
 have ⟨_,F30⟩ := u zb0 30 rfl rfl
 have g30 := zf7 l.prog w base F30 F30.bindA ⟨cReader 11 rfl rfl,ly 8 _ rfl,F30.kp⟩ T TC g29
 have ⟨_,F27⟩ := u zbZ 27 rfl rfl
 have g27 := zf6 l.prog w base F27 F27.bindA ⟨cReader 8 rfl rfl,ly 5 _ rfl,F27.kp⟩ T TC
 have ⟨_,F28⟩ := u zbI 28 rfl rfl
 have g28 := zfs l.prog w base F28 F28.bindA ⟨cReader 9 rfl rfl,ly 6 _ rfl,F28.kp⟩ T TC g27
 have ⟨_,F22⟩ := u zcU 22 rfl rfl
 have g22 := zhW l.prog w base F22 F22.bindA (n 22 rfl rfl) T TC
 have ⟨_,F32⟩ := u zck 32 rfl rfl
 have g32 := zg8 l.prog w base F32 F32.bindA ⟨cReader 13 rfl rfl,ly 10 _ rfl,F32.kp⟩ T TC g27 g22
 have ⟨_,F10⟩ := u ze6 10 rfl rfl
 have g10 := zk4 l.prog w base F10 F10.bindA (n 10 rfl rfl) T TC
 have ⟨_,F0⟩ := u ze7 0 rfl rfl
 have g0 := zk5 l.prog w base F0 F0.bindA (n 0 rfl rfl) T TC
 have ⟨_,F3⟩ := u zdA 3 rfl rfl
 have g3 := zi0 l.prog w base F3 F3.bindA (n 3 rfl rfl) T TC
 have ⟨_,F18⟩ := u zcr 18 rfl rfl
 have g18 := zhf l.prog w base F18 F18.bindA (n 18 rfl rfl) T TC g3
 have ⟨_,F13⟩ := u zgT 13 rfl rfl
 have g13 := zmt l.prog w base F13 F13.bindA (n 13 rfl rfl) T TC g12
 have ⟨_,F17⟩ := u zcV 17 rfl rfl
 have g17 := zhX l.prog w base F17 F17.bindA (n 17 rfl rfl) T TC g3
 have ⟨_,F19⟩ := u zco 19 rfl rfl
 have g19 := zhc l.prog w base F19 F19.bindA (n 19 rfl rfl) T TC g18 g16 g13 g17
 have ⟨_,F20⟩ := u zdC 20 rfl rfl
 have g20 := zi1 l.prog w base F20 F20.bindA (n 20 rfl rfl) T TC g1 g17
 have ⟨_,F21⟩ := u zgV 21 rfl rfl
 have g21 := zmv l.prog w base F21 F21.bindA (n 21 rfl rfl) T TC g0 g18 g16 g19 g1 g20 g17
 have ⟨_,F24⟩ := u zcl 24 rfl rfl
 have g24 := zg9 l.prog w base F24 F24.bindA ⟨cReader 5 rfl rfl,ly 2 _ rfl,F24.kp⟩ T TC g31 g30 g28 g27 g32 g10 g16 g21 g5
 have ⟨_,F34⟩ := u ze2 34 rfl rfl
 have g34 := zk0 l.prog w base F34 F34.bindA (n 24 rfl rfl) T TC
 have ⟨_,F36⟩ := u zdF 36 rfl rfl
 have g36 := zi4 l.prog w base F36 F36.bindA (n 26 rfl rfl) T TC g34
 have ⟨_,F43⟩ := u zcq 43 rfl rfl
 have g43 := zhe l.prog w base F43 F43.bindA (n 33 rfl rfl) T TC g36
 have ⟨_,F46⟩ := u ze5 46 rfl rfl
 have g46 := zk3 l.prog w base F46 F46.bindA (n 36 rfl rfl) T TC
 have ⟨_,F33⟩ := u zgY 33 rfl rfl
 have g33 := zmy l.prog w base F33 F33.bindA (n 23 rfl rfl) T TC
 have ⟨_,F48⟩ := u zdI 48 rfl rfl
 have g48 := zi7 l.prog w base F48 F48.bindA (n 38 rfl rfl) T TC
 have ⟨_,F49⟩ := u zcp 49 rfl rfl
 have g49 := zhd l.prog w base F49 F49.bindA (n 39 rfl rfl) T TC
 have ⟨_,F50⟩ := u zcY 50 rfl rfl
 have g50 := zh0 l.prog w base F50 F50.bindA (n 40 rfl rfl) T TC g46 g49
 have ⟨_,F47⟩ := u zdE 47 rfl rfl
 have g47 := zi3 l.prog w base F47 F47.bindA (n 37 rfl rfl) T TC
 have ⟨_,F51⟩ := u zcZ 51 rfl rfl
 have g51 := zh1 l.prog w base F51 F51.bindA (n 41 rfl rfl) T TC g46 g48 g50 g47
 have ⟨_,F35⟩ := u zjT 35 rfl rfl
 have g35 := zoy l.prog w base F35 F35.bindA (n 25 rfl rfl) T TC g34
 have ⟨_,F44⟩ := u zb1 44 rfl rfl
 have g44 := zf8 l.prog w base F44 F44.bindA (n 34 rfl rfl) T TC
 have ⟨_,F45⟩ := u zjS 45 rfl rfl
 have g45 := zox l.prog w base F45 F45.bindA (n 35 rfl rfl) T TC g44
 have ⟨_,F39⟩ := u zgX 39 rfl rfl
 have g39 := zmx l.prog w base F39 F39.bindA (n 29 rfl rfl) T TC g34 g36
 have ⟨_,F40⟩ := u ze4 40 rfl rfl
 have g40 := zk2 l.prog w base F40 F40.bindA (n 30 rfl rfl) T TC g35 g39
 have ⟨_,F41⟩ := u ze0 41 rfl rfl
 have g41 := zkY l.prog w base F41 F41.bindA (n 31 rfl rfl) T TC g35
 have ⟨_,F37⟩ := u ze3 37 rfl rfl
 have g37 := zk1 l.prog w base F37 F37.bindA (n 27 rfl rfl) T TC g34 g35 g36
 have ⟨_,F38⟩ := u zdH 38 rfl rfl
 have g38 := zi6 l.prog w base F38 F38.bindA (n 28 rfl rfl) T TC g37 g34 g35
 have ⟨_,F42⟩ := u ze1 42 rfl rfl
 have g42 := zkZ l.prog w base F42 F42.bindA (n 32 rfl rfl) T TC g40 g35 g41 g38
 have ⟨_,F52⟩ := u zbJ 52 rfl rfl
 have g52 := zft l.prog w base F52 F52.bindA (n 42 rfl rfl) T TC g34 g35 g42
 have ⟨_,F26⟩ := u zcm 26 rfl rfl
 have g26 := zha l.prog w base F26 F26.bindA ⟨cReader 7 rfl rfl,ly 4 _ rfl,F26.kp⟩ T TC
 have ⟨_,F25⟩ := u zcW 25 rfl rfl
 have g25 := zhY l.prog w base F25 F25.bindA ⟨cReader 6 rfl rfl,ly 3 _ rfl,F25.kp⟩ T TC
 have ⟨_,F53⟩ := u zdG 53 rfl rfl
 have g53 := zi5 l.prog w base F53 F53.bindA (n 43 rfl rfl) T TC g26 g24 g25
 have g54 := ok_Law l.prog w base F54 F54.bindA (n 44 rfl rfl) T TC g23 g24 g43 g46 g33 g48 g51 g34 g35 g45 g52 g53 g47
 exact MD.law_fn g54 fun _ h => zmW h
end K38
open PySem PySem.W PyProof.Rows
set_option maxRecDepth 100000 in
theorem PySem.Challenge.cw_shorthead_k38_checks_asked_holds : PySem.Challenge.rw_shorthead_k38_checks_asked.Holds := by
 w_on; o_law
 refine PySem.W.holds_openX (q := K38.vw) (loose := []) (Xt := K38.xt) (XP := PySem.W.XL K38.vw []) (Yf := fun s => K38.obs (MD.Kof 433 s.heap)) (Ya := fun _ => K38.expd) (N := 5024) K38.hl (fun s e => PySem.W.xl_of s (Bool.and_eq_true_iff.mp e).1) PySem.W.XL.keeps (by rfl) (by rfl) (by rfl) (fun s e => PySem.W.recFacts_of (Bool.and_eq_true_iff.mp e).2) (by rfl) (by first | assumption | decide +kernel) (by decide +kernel) ⟨rfl,rfl,rfl,rfl,rfl,by decide +kernel⟩ ?hw ?hc
 case hw => w_witness2
 case hc => exact MD.walk_ofY (l := PySem.Challenge.rw_shorthead_k38_checks_asked) (n := 63) (k := 9) (x := "_law_script") (CX := L2.CX0) (sp := MD.spLaw) rfl (by decide) rfl ⟨rfl,by decide,by decide,rfl⟩ (fun K y w mg fa h X G hmg => K38.all_mk y X G hmg) (fun _ _ a ns hl _ hS => ⟨a,ns,rfl,hS,hl,fun _ => rfl⟩) fun _ _ _ _ z => z
