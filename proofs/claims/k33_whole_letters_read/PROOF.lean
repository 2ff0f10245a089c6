import PyProof.Rows.All
import Wide.All
import OpenK.AllK
import Wide.FinOn
import Lean
import PyProof.EqAt
import PyProof.EqKinds
import PyProof.TupleCall
import PySem.Challenge.RW_shorthead_k33_whole_letters_read
local macro_rules | `(tactic| walk_at $s:str) => do
  let c := s.getString
  if !c.startsWith "#" then Lean.Macro.throwUnsupported
  let J := fun (x : String) => Lean.mkIdent x.toName
  let tb := ("2eFn 0zaj 0zad !S: !n: !}u) !u)zy 0rfl !<! !SO !S? !E: 0zag !<E !nO 04 3qfn !n? 2zaa 1zaE !Su' !YvS !## !Eu' 01 !.. 2zac 07 08 03 06 05 !Nzu !nu' !42 !wtzt !S1 !7! !#I 0zba 0!b2 !zvu3 !d? !wt{$ 3eOp 02 !EO !u34 !<B 1zae !r] !n1 !xEuw !z{z| !u^u' 2zap 2zaf 5zas !uUN !du' !5! !}v{! !SA !NyF !}x{- !<S !4n !Zze !#u# !Nz} !dO !u`[ !v?y3 !uEu' !fO 1zab !d: !/u' 0zar !Yux !xE$ !e? !'` 1gN !wtzx !}w{+ !.q 00 4zal 1zah !{%wu !S@ !v@y5 !d1 !B% !]vU !vA. !nA !vVW 0hr 1!f4 010 0$kept 09 !4$ !eO !u#? !i# !f? !}|$ 0$top !}y{/ !u#: !u#O !gO !'zg !'2 3!m0 0!b0 6zaD 1aIt 1zeV 1zb1 !{#w2 !&$ !Nw4 !Yww !g? !]w7 !vfu6 !u9. !~&) !~(uF 1tV 1!nd 2!p2 2zeP 011 2!l2 1zdO 0$number !u3e !B6 !Zwv !<N !{'u# !n@ !u_9 !vSh !Nzj !uayG !o# !Bu+ !7h !F# !Zzn !u)ze ![vg !uE: !uEO !(2 !xQyL !u4uK !KuL !~,{E !$W 0zaq 3sIf 0zeY 0isD 1zb0 0$shape 0$_law_box_here 0scLawLetter.nd !/: !zhzi !L# !u#1 !<h !d= !<y9 !~/I !y4xG !7u* !~0y3 !K0 !y;$ !t. !e@ !4K !{J{K !f1 !y6{L !~2vh 0zbG 1zaK 1zck 0zc6 3!l3 0$least 3zjw 7zez !)) !_v6 !(v7 !e: !X4 !TxO !u8. !!xR !B+ !dA !^o !{Q{R !xI/ !*v# !{Swu !viP !~3{U !y<. !'yM !QK !wy{X 2zaH 0zc0 0ltD 0zaW 6zaS 3!m2 0$turn 0zeq 0za0 0zeX 0$read 2zmg 1zeg 4!l4 0scReaderRead.nd 5zdQ 0$_law_shape_here !u8u8 !u_u$ !{1{2 !$$ !E? !Yv8 !uwW !d@ !vfyJ !y4zl !jwD !^# !uMh !xSy= !u_- !gA !d> !%- !*xF !g1 !g@ !y4xJ !LR !6v$ !vju* !vfu> !By> !u5# !xT{Y !q( !f: !'$ !~4xK !u%` !`$ !$. !Wu) !y6xU !y6xV !~9{^ !;. !Dy@ 1i:= 0TC.cReader 0zd9 0hLawNext 0$held 0neD 1n:= 1zcr 030 0scOpened.nd 0hFormAt 0scParted.nd 0scLawBox.nd 0scLawNext.nd 0scLawKind.nd 0scLawShape.nd 0scLawPieces.nd !v>) !}z{4 !w5X !v>{8 !NyG !y8O !'u4 !5% !wz{b !<xW !yA: !7wG !vCzp !yB{c !]xO !vm9 !p# !YyN !,E !uazj !yO* !wHzq !xL/ !/{d !8# !vl# !1ub !w9{e !+M !<vn !wIyD !Z{f !eA !4yC !?uV !vozr !X. !4s !$; !){g !J{h !{i{j !~;u& !vXu' !4u? !xMvD !~<{l !4zs 1eC 0$Reader 3zaJ 3zia 0PassesOwn.never 1aCons_len 4zer 0zaZ 0zb3 0zlD 0$low 0zrR 3zqP 1zjo 0sBad 0zbD 2zi4 5zeM 0$twice 0$rise 0zaY 0zix 0zaR 0neK 1zey 0scNumbersOf.nd 8zo1 0PySem.F.plainAttrs_list 0zkj 0hNumberOf 0scWidthFor.nd 0hRestOf 0zhp 0scExpected.nd 0zfd 0$bound 1zhq 5zho 1zjY 4zfs 0zht 0zhD 0$_law_k 0$_law_field 0scLawBits.nd 0hLawBits !KC !xN^ !w66 !zkve !!xF !{A6 !)zg !/A !2wE 0zav 0eqD 1zbw 1xs:= 0ziA 2gT 1zbZ 0TC.nReader_highest 0TC.nReader_held 3eSl 0znW 0zdA 0$keep 1zl0 0zhM 0geD 3zdE 0za6 0zlJ 0gtD 099 016 0$whole 012 0za3 3eIf 0zdB 0zaB 0zhH 0$late 0zih 0scNumberOf.nd 1zjx 0PySem.F.slot_list_append 0PySem.F.type_list_append 0zfH 0zfI 4zhn 0$head 0$place 0$value 3zjv 0T.enumerate 5!l5 0$form 0$way 0$breadth 0hSortWidth 0zrz 0zrH 3zqZ 0zrA 0zrI 5zjy 9zhr 5zdo 0hReaderLeast 1zig 2QPs.cons 0zhu 0zjL 0hLawValue 1j:= 0scLawCheck.nd 0scLawTake.nd !<u$ !{&wu !4uw !{)zf !xPve !v!/ !yK{< !~${= !Kuc !e1 !Oub !au$ !{Iw8 !xHve !{O{P !Nzo !{VwF !{Wu4 0hr.units 0zdh 0zfl 0zaM 0hLawOf 0$own 2eUn 1!l1 0zcn 3zgc 0zox 0zqe 0za9 0$step 0$with 0zbR 0zbr 0zdu 0$ 0zqE 01000003 0absF 0$seed 0popM 026 020 0$str 0true 0zbO 0zbc 4zoU 0zbs 2eOr 0$nearest 0zaO 0$is_late 0za4 0inD 0$is_far 0zbg 0$far 0$head_told 0zaQ 0zc3 0$check 2zpC 0zc1 015 0$forget 0za5 0za7 0zbt 0zbp 0zbI 0zbC 0zc2 0zbH 0zhK 0zgU 0MD.inD 1zkz 0T.str 0boot_str 0zje 0zql 0T.int 0boot_int 0hWindowed 0$field 1zi7 0zqk 0T.sum 0boot_sum 0hBreadths 0hWidths 0hNumbersOf 0hWidthFor 0hCheckWidth 1zp3 0od_in 0hReaderRise 2qe_or 0$self 0$other 0hReaderNearest 1zja 0zn4 0boot_max 0zk7 0zqm 0T.abs 0boot_abs 1zi9 0zn3 0T.min 0boot_min 0$_law_place 0$_law_breadth 0$_law_way_here 0$_law_many 0$_law_first 0$_law_step 0$_law_times 0scLawWay.nd 0$_law_ways 0scLawRoad.nd 0scLawPact.nd 0$_law_most 0$_law_forms 0scLawWidth.nd @zmG 1k:= 0hLawWidth 2zmF 1zky 0$_law_model 0$_law_late 0$_law_number 0$_law_edge 0$_law_last 0$_law_one' 0$_law_one 0scLawNumberFor.nd !zzw2 !Cw3 !{(uK !yH^ !*vT !{0- !}}y7 !{76 !~#) !~%) !~.E !udu$ !/? !svk !~:{a 1.int 0ixD 3qxi 1Or.inl 1.str 1zak 5zam 1zao 0_ 0zbm 0zat 0zaz 4zau 0.non 5zdx 3zcw 2zaP 2zaC 3zbe 0zbk 0zbl 0zaV 0zbn 0zbL 0zbM 0zg8 0zbW 0zdT 1zbx 0zcD 0zct 0zcu 0$pact 1N0:= 7!a7 0!b4 0!b1 0zlG 1.bl 5zcs 1.inl 1hr.mono 0$highest 0za1 0zcM 0T.len 0PySem.boot_len 0zkC 0false 0$not 3zdP 0zdg 0zgk 0TC.nReader_pact 0zeA 0zeB 0gL1 5zda 2zl4 0zll 4zdm 1zdf 0zgj 9zcC 0zcB 0aNil_len 2zgA 1zca 0zgQ 0T.tuple 0boot_tuple 3zln 0zgt 0zgu 0zfQ 060 040 0!l0 2zif 1Or.inr 0T.max 0zdS 0zfD 3zdn 0T.range 0zis 0zr6 0zee 0zfU 2aZip 0zbB 0zf2 0zcL 0zb6 0strF 041 063 02305843009213693951 018 2gI 07919 0104729 048271 02305843009213693921 069621 02305843009213693907 065537 0$still 0199 0$drawn 0$abcdefghijklmnopqrstuvwxyz 0zcJ 0251 01000 0999983 0zd1 039 0361 0400 0zb8 0zb9 0zd2 1zhW 0$0 0$1 0zem 0zd3 0zb7 0zbP 0zdw 0zbQ 0zcK 6zn9 2eAnd 0zfY 0zbf 0zen 0$blank 0dctF 0zep 0zcq 2mkM 0zbq 0zmC 0tkL 0d33 0c33 0f33 0r33 0scAreBits 8zft 0T.isi 0scAreBits.nd 0scNumberOf 3!m1 0scNumbersOf 0scWidthFor 0zoO 0zli 0zoR 0zlj 0scExpected 0hTurned 0zoM 1zmZ 0zpk 2zmI 0zms 0zmq 0zoL 4zpZ 0T.zip 0hWidthOf 0zoN 0scOpened 0hExpected 0hValueTold 0zjr 0hAround 0zoQ 0zjs 0zh8 0scLetterSize 0scLetterSize.nd 0hSizeOf 0scSortTold 0scSortTold.nd 0scParted 0hAreBits 0hSortTold 0hLetterSize 0scThoseKept 0scThoseKept.nd :zo0 1zeN 0zkY 0T.sorted 0boot_sorted 0scReaderRead 0hParted 0hReaderIsLate 0hReaderIsFar 0hReaderHeadTold 0hCheckOf 0zgb 0zfe 0zjt 0zh4 0zlW 0fd_dct 0T.dict 0boot_dict 0zg9 0zga 2zkA 0zfp 0scReaderIsFar 0scReaderIsFar.nd 0scReaderHeadTold 0scReaderHeadTold.nd 0hOpened 0zh3 0hThoseKept 0scLawBox 3zjz 0QPs.nil 0!b3 0scLawNext 0PySem.F.slot_list_pop 0PySem.F.type_list_pop 0zpo 0md_pop 2zqX 0zqL 0scLawValue 0scLawValue.nd 0scLawKind 8!l8 9!l9 0scLawShape ;zmH 0hLawKind 0scLawWay 0scLawForm 0scLawForm.nd 0hLawWay 0scLawRoad 0scLawPact 0hLawShape 0hLawForm 0hLawRoad 0zh7 0scLawBits 0zi8 0fd_str 0scLawWidth 0scLawCheck 0zh6 0scLawPieces 0hLawWidthOf 0scLawLetter 0hLawPieces 0hLawCheck 0scLawTake 6!l6 1.inr 2!a2 7!l7 1zgW 0zn5 0T.list 0boot_list 3zq0 4!a4 0scLawNumberFor 0zoP 0hLawTake !)zw !u(z~ !u({* !u({, !u({. !{3yE !u({5 !}{{6 !yIvB !{9{: !}~wC !~!{; !5wt !{>wx !zm{? !zf) !~'{@ !uG{B !~){C !~*J !~+{D !{FE !~-u5 !y:{G !k{H !u({M !~1{N !{TyE !y?O !vW{Z !~5) !~6{[ !~7J !~8{] !{_{` !u,y5 !{kJ".splitOn " ").toArray
  let v := fun (c : Char) => let n := c.toNat; if n > 92 then n - 35 else if n > 34 then n - 34 else n - 33
  let rd := fun (cs : List Char) => Id.run do
    let mut o : Array Nat := #[]
    let mut p : Option Nat := none
    for c in cs do
      match p with
      | some q => o := o.push (82 + (q - 82) * 92 + v c); p := none
      | none => if v c < 82 then o := o.push (v c) else p := some (v c)
    return o.toList
  let mut td := rd (c.toList.drop 1)
  let mut o : List String := []
  while !td.isEmpty do
    let e := tb[td.head!]!
    if e.startsWith "!" then td := rd (e.toList.drop 1) ++ td.tail
    else o := e :: o; td := td.tail
  let mut st : List Lean.Term := []
  for e in o do
    let nm := ((e.drop 1).toString)
    let k := (e.toList.head!).toNat - 48
    let as := (st.take k).toArray
    st := st.drop k
    let r : Lean.Term ← (do
      if nm.endsWith ":=" then return ⟨Lean.Syntax.node .none ``Lean.Parser.Term.namedArgument #[Lean.mkAtom "(", J (nm.dropEnd 2).toString, Lean.mkAtom ":=", as[0]!, Lean.mkAtom ")"]⟩
      if nm == "_" then return ← `(_)
      if nm.startsWith "!" then
        match (nm.drop 1).toString with
        | "b0" => return ← `((by decide))
        | "b1" => return ← `((by repeat ( first | exact trivial | refine ⟨ rfl , ?_ ⟩ )))
        | "b2" => return ← `((by rfl))
        | "b3" => return ← `((by simp))
        | "b4" => return ← `((by with_unfolding_all rfl))
        | "nd" => return ← `((by decide +kernel : ($(as[0]!) : List $(J "Str")).Nodup))
        | "m0" => return ← `(have h := $(J "mkx") $(J "P") $(J "w") $(J "base") $(J "cl") $(as[0]!) $(J "F") $(J "b") $(J "m") $(as[1]!) fun $(J "cdv") $(J "A") $(J "outer") $(J "s") $(J "H") $(J "E") $(J "hr") => $(as[2]!); h)
        | "m1" => return ← `(have h := $(J "mkx") $(J "P") $(J "w") $(J "base") $(J "cl") $(as[0]!) $(J "F") $(J "b") $(J "m") $(as[1]!) fun $(J "cdv") $(J "A") $(J "outer") $(J "s") $(J "H") $(J "E") $(J "hr") => $(as[2]!); h.loc)
        | "m2" => return ← `(have h := $(J "mkm") $(J "P") $(J "w") $(J "base") $(J "cl") $(as[0]!) $(J "F") $(J "b") $(J "m") $(as[1]!) fun $(J "cdv") $(J "A") $(J "outer") $(J "s") $(J "H") $(J "E") $(J "hr") => $(as[2]!); h)
        | x => match x.toList.head! with
          | 'l' => return ← `([$as,*])
          | 'a' => return ← `(⟨$as,*⟩)
          | 'p' => if as.size == 2 then return ← `(($(as[0]!), $(as[1]!))) else return ← `(($(as[0]!), $(as[1]!), $(as[2]!)))
          | _ => if x == "f4" then return ← `(fun _ _ _ _ => $(as[0]!)) else if x == "f2" then return ← `(fun _ _ => $(as[0]!)) else if x == "f3" then return ← `(fun _ _ _ => $(as[0]!)) else return ← `(fun _ => $(as[0]!))
      let h : Lean.Term := if nm.startsWith "$" then Lean.Syntax.mkStrLit (nm.drop 1).toString else if (nm.toList.head!).isDigit then Lean.Syntax.mkNumLit nm else if nm.startsWith "." then ⟨Lean.Syntax.node .none ``Lean.Parser.Term.dotIdent #[Lean.mkAtom ".", J (nm.drop 1).toString]⟩ else J nm
      return if k == 0 then h else Lean.Syntax.mkApp h as : Lean.MacroM Lean.Term)
    st := r :: st
  `(tactic| exact $(st.head!))
local macro_rules | `(tactic| erw $s:rwRuleSeq) => `(tactic| (walk_at "w"; rw $s:rwRuleSeq))
local macro_rules | `(tactic| ac_nf) => `(tactic| walk_at "w")
set_option maxHeartbeats 16000000
noncomputable section
set_option Elab.async false
set_option linter.all false
set_option maxRecDepth 100000
namespace AutoP
theorem a0 (h : True := by first | exact .inl rfl | exact .inr rfl | assumption) : True := h
theorem a1 (h : True := by decide) : True := h
theorem a2 (h : True := by intro _; rfl) : True := h
theorem a3 (h : True := by rfl) : True := h
theorem a4 (h : True := by intro _ _ z; simp [*] at z) : True := h
theorem a5 (h : True := by decide +kernel) : True := h
theorem a6 (h : True := by intro _ _; rfl) : True := h
theorem a7 (h : True := by repeat first | exact aNil_len | refine aCons_len ?_) : True := h
end AutoP
namespace L2
open PySem PySem.Spec PyProof.Rows
abbrev Key := Sum Int Str
def zjU : Key -> Value -> Bool
 | .inl k,v => Value.isInt k v
 | .inr x,v => Value.isStrOf x v
def keyH (w : World) : Key -> Int
 | .inl k => hashInt k
 | .inr x => hashStr w x
theorem zaN : ∀ {k : Key} {v : Value},zjU k v = true -> (∃ i t,k = Sum.inl i /\ v = Value.int i t) ∨ (∃ x t,k = Sum.inr x /\ v = Value.str x t)
 | .inl i,v,h => by
  obtain ⟨t,e⟩ := Value.isInt_shape (k := i) (v := v) h
  exact .inl ⟨i,t,rfl,e⟩
 | .inr x,v,h => by
  obtain ⟨t,e⟩ := Value.isStrOf_shape (x := x) (v := v) h
  exact .inr ⟨x,t,rfl,e⟩
theorem znF (i : Int) (t : Tok) : zjU (.inl i) (.int i t) = true := by simp [zjU,Value.isInt]
theorem znE (x : Str) (t : Tok) : zjU (.inr x) (.str x t) = true := by simp [zjU,Value.isStrOf]
theorem key_ll (a b : Int) : decide ((Sum.inl a : Key) = Sum.inl b) = (a == b) := by
 by_cases e : a = b
 ·subst e; simp
 ·have h : ¬ (Sum.inl a : Key) = Sum.inl b := fun q => e (Sum.inl.inj q)
  rw [decide_eq_false h]
  exact (beq_eq_false_iff_ne.mpr e).symm
theorem key_rr (a b : Str) : decide ((Sum.inr a : Key) = Sum.inr b) = decide (a = b) := by
 by_cases e : a = b
 ·subst e; simp
 ·have h : ¬ (Sum.inr a : Key) = Sum.inr b := fun q => e (Sum.inr.inj q)
  rw [decide_eq_false h,decide_eq_false e]
theorem key_lr (a : Int) (b : Str) : decide ((Sum.inl a : Key) = Sum.inr b) = false := decide_eq_false (fun q => nomatch q)
theorem key_rl (a : Str) (b : Int) : decide ((Sum.inr a : Key) = Sum.inl b) = false := decide_eq_false (fun q => nomatch q)
def zaA (prog : Program) (w : World) : PySem.KeyKind prog w Key where
 is := zjU
 hash := keyH w
 inj := fun v a b ha hb => by
  rcases zaN ha with ⟨i,t,rfl,rfl⟩ | ⟨x,t,rfl,rfl⟩
  ·rcases zaN hb with ⟨j,u,rfl,e⟩ | ⟨y,u,rfl,e⟩
   ·injection e with e1 _; rw [e1]
   ·exact nomatch e
  ·rcases zaN hb with ⟨j,u,rfl,e⟩ | ⟨y,u,rfl,e⟩
   ·exact nomatch e
   ·injection e with e1 _; rw [e1]
 byValue := fun k v h => by
  rcases zaN h with ⟨i,t,rfl,rfl⟩ | ⟨x,t,rfl,rfl⟩ <;> rfl
 pyHash := fun hv h => by
  rcases zaN hv with ⟨i,t,rfl,rfl⟩ | ⟨x,t,rfl,rfl⟩
  ·exact wpAny_pyHash_int h
  ·exact wpAny_pyHash_str h
 eqBool := fun hu hv h => by
  rcases zaN hu with ⟨i,t,rfl,rfl⟩ | ⟨x,t,rfl,rfl⟩
  ·rcases zaN hv with ⟨j,u,rfl,rfl⟩ | ⟨y,u,rfl,rfl⟩
   ·rw [key_ll] at h; exact wpAny_eqBool_int h
   ·rw [key_lr] at h; exact SeqAt.EqAt.int_str i t y u _ _ _ _ h
  ·rcases zaN hv with ⟨j,u,rfl,rfl⟩ | ⟨y,u,rfl,rfl⟩
   ·rw [key_rl] at h; exact SeqAt.EqAt.str_int x t j u _ _ _ _ h
   ·rw [key_rr] at h; exact wpAny_eqBool_str h
 «strs» := fun k x t v h => by
  rcases zaN h with ⟨i,u,rfl,e⟩ | ⟨y,u,rfl,e⟩
  ·exact nomatch e
  ·injection e with e1 _
   subst e1
   cases v <;> rfl
theorem zjP (prog : Program) (w : World) (i : Int) (t : Tok) : (zaA prog w).is (.inl i) (.int i t) = true := znF i t
theorem zjO (prog : Program) (w : World) (x : Str) (t : Tok) : (zaA prog w).is (.inr x) (.str x t) = true := znE x t
inductive V where
 | non | bl (b : Bool) | int (i : Int) | str (x : Str) | byt (b : Array UInt8) | flt (b : UInt64) | ref (a : Addr) | ty (n : String)
 deriving DecidableEq
def RelV : V -> Value -> Prop
 | .non,u => u = Value.none
 | .bl b,u => u = Value.bool b
 | .int i,u => ∃ t,u = Value.int i t
 | .str x,u => ∃ t,u = Value.str x t
 | .byt b,u => ∃ t,u = Value.bytes b t
 | .flt b,u => ∃ t,u = Value.float b t
 | .ref a,u => u = Value.ref a
 | .ty n,u => u = Value.type n
abbrev Vals : List V -> List Value -> Prop := Paired RelV
theorem Vals.length {xs : List V} {us : List Value} (r : Vals xs us) : xs.length = us.length := Paired.length r
theorem Vals.get : ∀ {xs : List V} {us : List Value} {i : Nat} {x : V},Vals xs us -> xs[i]? = some x -> ∃ u,us[i]? = some u /\ RelV x u
 | _,_,_,_,.nil,e => by simp at e
 | _,_,0,_,.cons r _,e => by simp at e; subst e; exact ⟨_,rfl,r⟩
 | _,_,i + 1,x,.cons _ t,e => by
  obtain ⟨u,h1,h2⟩ := Vals.get (i := i) (x := x) t (by simpa using e)
  exact ⟨u,by simpa using h1,h2⟩
theorem Vals.set {x : V} {u : Value} (r : RelV x u) : ∀ {xs : List V} {us : List Value} (i : Nat),Vals xs us -> Vals (xs.set i x) (us.set i u)
 | _,_,_,.nil => .nil
 | _,_,0,.cons _ t => .cons r t
 | _,_,i + 1,.cons q t => .cons q (Vals.set r i t)
theorem Vals.append : ∀ {xs ys : List V} {us ws : List Value},Vals xs us -> Vals ys ws -> Vals (xs ++ ys) (us ++ ws)
 | _,_,_,_,.nil,s => s
 | _,_,_,_,.cons r t,s => .cons r (Vals.append t s)
theorem Vals.take : ∀ {xs : List V} {us : List Value} (n : Nat),Vals xs us -> Vals (xs.take n) (us.take n)
 | _,_,0,_ => .nil
 | _,_,_ + 1,.nil => .nil
 | _,_,n + 1,.cons r t => .cons r (Vals.take n t)
theorem Vals.drop : ∀ {xs : List V} {us : List Value} (n : Nat),Vals xs us -> Vals (xs.drop n) (us.drop n)
 | _,_,0,r => r
 | _,_,_ + 1,.nil => .nil
 | _,_,n + 1,.cons _ t => Vals.drop n t
def RelO : Option V -> Option Value -> Prop
 | some v,some u => RelV v u
 | none,none => True
 | _,_ => False
def KV {κ : Type} : List (κ × V) -> List (κ × Value) -> Prop := Paired fun (p : κ × V) (q : κ × Value) => p.1 = q.1 /\ RelV p.2 q.2
def kV : Key -> V
 | .inl i => .int i
 | .inr x => .str x
inductive HO where
 | lst (xs : List V)
 | tup (xs : List V)
 | dK (kvs : List (Key × V)) | dT (kvs : List (List Key × V))
 | set (S : Int -> Bool) (n : Nat)
 | ins (C dx : Addr) (fs : List (Str × V))
 | own (x : Addr)
 | xd (fs : List (Str × V))
 | met (f x : Addr)
 | rng (lo hi : Int)
 | frz (o : Obj) (u : HO)
 | tbl (ps : Array Value)
 | ext (φ : Heap -> Prop)
abbrev Hp := Addr -> Option HO
def upd (H : Hp) (a : Addr) (o : HO) : Hp := fun b => if b = a then some o else H b
theorem zax {H : Hp} {a : Addr} {o : HO} : upd H a o a = some o := by unfold upd; rw [if_pos rfl]
theorem zan {H : Hp} {a b : Addr} {o : HO} (h : b ≠ a) : upd H a o b = H b := by unfold upd; rw [if_neg h]
theorem ne_of {H : Hp} {a b : Addr} {o u : HO} (h : H a = some o) (h' : H b = some u) (d : o ≠ u) : a ≠ b := by
 intro e; subst e; rw [h] at h'; exact d (Option.some.inj h')
theorem zay {H : Hp} {a b : Addr} {o : HO} (h : H a = some o) (h' : H b = none) : a ≠ b := by
 intro e; subst e; rw [h] at h'; cases h'
section
variable (P : Program) (w : World)
def NoD (h : Heap) (a : Addr) : Prop := ∃ o,h.get? a = some o /\ o.dict = none
def ObjOk (H : Hp) (h : Heap) (a : Addr) : HO -> Prop
 | .lst xs => xs.length <= sizeLine /\ ∃ (its : List Value) (n : Nat),Vals xs its /\ h.get? a = some { cls := .type "list", data := .seq its.toArray n }
 | .tup xs => xs.length <= sizeLine /\ ∃ its : List Value,Vals xs its /\ IsTup h a its.toArray /\ NoD h a
 | .dK kvs => kvs.length <= sizeLine /\ (a == sysModules) = false /\ ∃ vs,KV kvs vs /\ h.DictOf (zaA P w) a vs
 | .dT kvs => kvs.length <= sizeLine /\ (a == sysModules) = false /\ ∃ xs : List (List Key × Addr × Value),
   Paired (fun (p : List Key × V) (q : List Key × Addr × Value) => p.1 = q.1 /\ H q.2.1 = some (.tup (p.1.map kV)) /\ RelV p.2 q.2.2) kvs xs ∧
   ∃ o es ep,h.get? a = some o /\ o.ExactDict /\ o.data = .dict es ep /\ es.toList = xs.map (entryOfKey (tupleKind (zaA P w))) /\ (xs.map (·.1)).Nodup
 | .set S n => h.SetOf (intKind P w) a S n
 | .ins C dx fs => H dx = some (.own a) /\ fs.length <= 1000 /\ dx ≠ a /\ h.get? a = some (PySem.W.instObj C dx) ∧
   ∃ mA,h.Ns1 dx mA /\ (∀ f,RelO (fs.lookup f) (mA f)) /\ PySem.Within mA (fs.map (·.1))
 | .own _ => ∃ o,h.get? a = some o
 | .xd fs => ∃ mA,h.Ns1 a mA /\ ∀ f,RelO (fs.lookup f) (mA f)
 | .rng lo hi => ∃ t u v,h.get? a = some { cls := .type "range", data := .fields #[.int lo t,.int hi u,.int 1 v] }
 | .frz o u => h.get? a = some o /\ ObjOk H h a u
 | .tbl ps => h.get? a = some { cls := .none,data := .fields ps }
 | .met f x => h.get? a = some (PySem.W.methodObj (.ref f) (.ref x))
 | .ext φ => φ h /\ (∃ o,h.get? a = some o) /\ ∀ h1 h2 : Heap,φ h1 -> (∀ o,h1.get? a = some o -> h2.get? a = some o) -> φ h2
def HOk (H : Hp) (h : Heap) : Prop := ∀ a o,H a = some o -> ObjOk P w H h a o
end
section
variable {P : Program} {w : World} {H H' : Hp} {h h' : Heap} {a : Addr} {o : HO}
theorem ObjOk.lt (x : ObjOk P w H h a o) : a < h.objs.size := by
 cases o with
 | lst xs => obtain ⟨_,_,_,_,e⟩ := x; exact Heap.lt_size e
 | tup xs => obtain ⟨_,_,_,p,_⟩ := x; exact p.lt
 | dK kvs => obtain ⟨_,_,_,_,o,_,_,e,_⟩ := x; exact Heap.lt_size e
 | dT kvs => obtain ⟨_,_,_,_,o,_,_,e,_⟩ := x; exact Heap.lt_size e
 | set S n => obtain ⟨o,_,_,_,e,_⟩ := x; exact Heap.lt_size e
 | ins C dx fs => obtain ⟨_,_,_,e,_⟩ := x; exact Heap.lt_size e
 | own y => obtain ⟨_,e⟩ := x; exact Heap.lt_size e
 | xd fs => obtain ⟨_,⟨_,_,_,e,_⟩,_⟩ := x; exact Heap.lt_size e
 | rng lo hi => obtain ⟨_,_,_,e⟩ := x; exact Heap.lt_size e
 | frz ob u => obtain ⟨e,_⟩ := x; exact Heap.lt_size e
 | tbl ps => exact Heap.lt_size (show h.get? a = some _ from x)
 | met f y => exact Heap.lt_size (show h.get? a = some _ from x)
 | ext φ => obtain ⟨_,⟨_,e⟩,_⟩ := x; exact Heap.lt_size e
theorem Paired.mapP {α β : Type} {F G : α -> β -> Prop} : ∀ {l₁ : List α} {l₂ : List β},Paired F l₁ l₂ -> (∀ a b,F a b -> G a b) -> Paired G l₁ l₂
 | _,_,.nil,_ => .nil
 | _,_,.cons r t,f => .cons (f _ _ r) (Paired.mapP t f)
theorem ObjOk.stay (x : ObjOk P w H h a o) (k : ∀ b u,(b = a ∨ H b = some (.own a)) -> h.get? b = some u -> h'.get? b = some u)
  (ho : ∀ b,H b = some (.own a) -> H' b = some (.own a)) (ht : ∀ b xs,H b = some (.tup xs) -> H' b = some (.tup xs)) : ObjOk P w H' h' a o := by
 induction o with
 | lst xs => obtain ⟨z,its,n,r,e⟩ := x; exact ⟨z,its,n,r,k _ _ (.inl rfl) e⟩
 | tup xs => obtain ⟨z,its,r,⟨ob,e,c⟩,od,ed,dn⟩ := x; exact ⟨z,its,r,⟨ob,k _ _ (.inl rfl) e,c⟩,od,k _ _ (.inl rfl) ed,dn⟩
 | dK kvs => obtain ⟨z,y,vs,r,ob,es,ep,e,c⟩ := x; exact ⟨z,y,vs,r,ob,es,ep,k _ _ (.inl rfl) e,c⟩
 | dT kvs =>
  obtain ⟨z,y,xs,r,ob,es,ep,e,c⟩ := x
  exact ⟨z,y,xs,Paired.mapP r fun p q z => ⟨z.1,ht _ _ z.2.1,z.2.2⟩,ob,es,ep,k _ _ (.inl rfl) e,c⟩
 | set S n => obtain ⟨ob,es,ep,t,e,c⟩ := x; exact ⟨ob,es,ep,t,k _ _ (.inl rfl) e,c⟩
 | ins C dx fs =>
  obtain ⟨d,z,ne,e,mA,⟨od,es,ep,e2,c⟩,r⟩ := x
  exact ⟨ho _ d,z,ne,k _ _ (.inl rfl) e,mA,⟨od,es,ep,k _ _ (.inr d) e2,c⟩,r⟩
 | own y => obtain ⟨ob,e⟩ := x; exact ⟨ob,k _ _ (.inl rfl) e⟩
 | xd fs => obtain ⟨mA,⟨od,es,ep,e,c⟩,r⟩ := x; exact ⟨mA,⟨od,es,ep,k _ _ (.inl rfl) e,c⟩,r⟩
 | rng lo hi => obtain ⟨t,u,v,e⟩ := x; exact ⟨t,u,v,k _ _ (.inl rfl) e⟩
 | frz ob u ih => obtain ⟨e,q⟩ := x; exact ⟨k _ _ (.inl rfl) e,ih q⟩
 | tbl ps =>
  have e : h.get? a = some { cls := .none,data := .fields ps } := x
  show h'.get? a = some { cls := .none,data := .fields ps }
  exact k a _ (.inl rfl) e
 | met f y =>
  have e : h.get? a = some (PySem.W.methodObj (.ref f) (.ref y)) := x
  show h'.get? a = some (PySem.W.methodObj (.ref f) (.ref y))
  exact k a _ (.inl rfl) e
 | ext φ => obtain ⟨p,⟨o,e⟩,st⟩ := x; exact ⟨st _ _ p fun o q => k _ _ (.inl rfl) q,⟨o,k _ _ (.inl rfl) e⟩,st⟩
theorem HOk.lt (x : HOk P w H h) (e : H a = some o) : a < h.objs.size := (x a o e).lt
theorem HOk.fresh (x : HOk P w H h) (e : h.objs.size <= a) : H a = none := by
 cases q : H a with
 | none => rfl
 | some u => exact absurd (Nat.lt_of_lt_of_le (x.lt q) e) (Nat.lt_irrefl _)
theorem HOk.kept (x : HOk P w H h) (k : ∀ b u,h.get? b = some u -> h'.get? b = some u) : HOk P w H h' := fun a o e =>
 (x a o e).stay (fun b u _ q => k b u q) (fun _ q => q) fun _ _ q => q
theorem HOk.laid (x : HOk P w H h) (k : ∀ b u,h.get? b = some u -> h'.get? b = some u) (hp : h.objs.size <= a) (new : ObjOk P w (upd H a o) h' a o) : HOk P w (upd H a o) h' := fun b u e => by
 have hn := x.fresh hp
 by_cases hb : b = a
 ·subst hb; rw [zax] at e; cases e; exact new
 ·rw [zan hb] at e
  exact (x b u e).stay (fun c v _ q => k c v q) (fun c q => by rw [zan (zay q hn)]; exact q) fun c xs q => by rw [zan (zay q hn)]; exact q
end
def Rd (H : Hp) (a : Addr) (u : HO) : Prop := H a = some u ∨ ∃ o,H a = some (.frz o u)
theorem Rd.ok {P : Program} {w : World} {H : Hp} {h : Heap} {a : Addr} {u : HO} (r : Rd H a u) (x : HOk P w H h) : ObjOk P w H h a u := by
 rcases r with r | ⟨o,r⟩
 ·exact x a u r
 ·obtain ⟨_,q⟩ := x a _ r
  exact q
def Mut : Option HO -> Prop
 | some (.lst _) => True
 | some (.dK _) => True
 | some (.dT _) => True
 | some (.set _ _) => True
 | some (.ins _ _ _) => True
 | some (.ext _) => True
 | _ => False
section
variable {P : Program} {w : World} {H : Hp} {h h' : Heap} {x e : Addr} {o' : HO}
theorem HOk.write (ok : HOk P w H h) (mu : Mut (H x)) (he : e = x ∨ H e = some (.own x)) (k : ∀ b u,b ≠ e -> h.get? b = some u -> h'.get? b = some u) (heo : ∃ u,h'.get? e = some u)
  (new : ObjOk P w (upd H x o') h' x o') : HOk P w (upd H x o') h' := fun b u q => by
 have nown : ∀ c y,H c = some (.own y) -> c ≠ x := fun c y r z => by subst z; rw [r] at mu; exact mu
 have ntup : ∀ c xs,H c = some (.tup xs) -> c ≠ x := fun c xs r z => by subst z; rw [r] at mu; exact mu
 by_cases hb : b = x
 ·subst hb; rw [zax] at q; cases q; exact new
 ·rw [zan hb] at q
  by_cases hbe : b = e
  ·have q' : H b = some (.own x) := by
    rcases he with z | z
    ·exact absurd (hbe.trans z) hb
    ·rw [hbe]; exact z
   rw [q] at q'; cases q'
   obtain ⟨v,hv⟩ := heo
   exact ⟨v,by rw [hbe]; exact hv⟩
  ·refine (ok b u q).stay (fun c v hc r => k c v ?_ r) (fun c r => by rw [zan (nown c b r)]; exact r) fun c xs r => by rw [zan (ntup c xs r)]; exact r
   rcases hc with rfl | hc
   ·exact hbe
   ·rintro rfl
    rcases he with z | z
    ·exact nown c b hc z
    ·rw [hc] at z; cases z; exact hb rfl
end
structure Un (fs ex : List Addr) (H H' : Hp) (h h' : Heap) : Prop where
 keep : ∀ b o,h.get? b = some o -> H b = none -> b ∉ fs -> b ∉ ex -> h'.get? b = some o
 slot : ∀ b o,h.get? b = some o -> H b = none -> b ∈ fs -> b ∉ ex -> ∃ sl,h'.get? b = some { o with slots := sl }
 free : ∀ b o,h.get? b = some o -> H b = none -> b ∉ ex -> H' b = none
 there : ∀ b o,h.get? b = some o -> b ∉ ex -> ∃ o',h'.get? b = some o'
 tups : ∀ b xs,H b = some (.tup xs) -> H' b = some (.tup xs)
 frzs : ∀ b o u,H b = some (.frz o u) -> H' b = some (.frz o u)
 tbls : ∀ b ps,H b = some (.tbl ps) -> ∃ more,H' b = some (.tbl (ps ++ more))
section
variable {fs fs' ex ex' : List Addr} {H H1 H2 : Hp} {h h1 h2 h' : Heap} {a x e : Addr} {o : HO}
theorem Un.any (u : Un fs ex H H1 h h1) {b : Addr} {ob : Obj} (q : h.get? b = some ob) (n : H b = none) (hx : b ∉ ex) : ∃ sl,h1.get? b = some { ob with slots := sl } := by
 by_cases hb : b ∈ fs
 ·exact u.slot b ob q n hb hx
 ·exact ⟨ob.slots,u.keep b ob q n hb hx⟩
theorem Un.kept (k : ∀ b u,h.get? b = some u -> h'.get? b = some u) : Un fs ex H H h h' :=
 ⟨fun b ob q _ _ _ => k b ob q,fun b ob q _ _ _ => ⟨ob.slots,k b ob q⟩,fun _ _ _ n _ => n,fun b ob q _ => ⟨ob,k b ob q⟩,fun _ _ q => q,fun _ _ _ q => q,fun _ ps q => ⟨#[],by rw [q]; simp⟩⟩
theorem Un.refl : Un fs ex H H h h := Un.kept fun _ _ q => q
theorem Un.laid (k : ∀ b u,h.get? b = some u -> h'.get? b = some u) (hp : h.objs.size <= a) (hn : H a = none) : Un fs ex H (upd H a o) h h' where
 keep := fun b u q _ _ _ => k b u q
 slot := fun b u q _ _ _ => ⟨u.slots,k b u q⟩
 free := fun b u q n _ => by rw [zan (Nat.ne_of_lt (Nat.lt_of_lt_of_le (Heap.lt_size q) hp))]; exact n
 there := fun b u q _ => ⟨u,k b u q⟩
 tups := fun b xs q => by rw [zan (zay q hn)]; exact q
 frzs := fun b u xs q => by rw [zan (zay q hn)]; exact q
 tbls := fun b ps q => ⟨#[],by rw [zan (zay q hn),q]; simp⟩
theorem Un.write (mu : Mut (H x)) (he : e = x ∨ H e = some (.own x)) (k : ∀ b u,b ≠ e -> h.get? b = some u -> h'.get? b = some u) (heo : ∃ u,h'.get? e = some u) : Un fs ex H (upd H x o) h h' := by
 have hx : ∀ b,H b = none -> b ≠ x := fun b n z => by subst z; rw [n] at mu; exact mu
 have hb : ∀ b,H b = none -> b ≠ e := fun b n z => by
  subst z
  rcases he with r | r
  ·exact hx b n r
  ·rw [n] at r; cases r
 have hm : ∀ b u,H b = some u -> ¬ Mut (some u) -> b ≠ x := fun b u q nm z => by subst z; rw [q] at mu; exact nm mu
 refine ⟨fun b u q n _ _ => k b u (hb b n) q,fun b u q n _ _ => ⟨u.slots,k b u (hb b n) q⟩,fun b u q n _ => by rw [zan (hx b n)]; exact n,fun b u q _ => ?_,
  fun b xs q => by rw [zan (hm b _ q fun z => z)]; exact q,fun b u xs q => by rw [zan (hm b _ q fun z => z)]; exact q,fun b ps q => ⟨#[],by rw [zan (hm b _ q fun z => z),q]; simp⟩⟩
 by_cases hbe : b = e
 ·subst hbe; exact heo
 ·exact ⟨u,k b u hbe q⟩
end
def trk (h : Heap) (H : Hp) : List Addr := (List.range h.objs.size).filter fun a => (H a).isSome
def zpx (h : Heap) (H : Hp) : Heap := PySem.W.hideAll h (trk h H)
theorem znR (h : Heap) (H : Hp) : (zpx h H).objs.size = h.objs.size := PySem.W.hideAll_size _ _
theorem zpw {h : Heap} {H : Hp} {b : Addr} {o : Obj} (e : h.get? b = some o) (n : H b = none) : (zpx h H).get? b = some o :=
 PySem.W.hideAll_get _ e fun hm => by
  have q : (H b).isSome = true := (List.mem_filter.mp hm).2
  rw [n] at q; simp at q
theorem zrF {h : Heap} {H : Hp} {b : Addr} {o : Obj} (e : (zpx h H).get? b = some o) : h.get? b = some o /\ H b = none := by
 have e' : h.get? b = some o := PySem.W.of_hideAll (trk h H) e
 refine ⟨e',?_⟩
 cases q : H b with
 | none => rfl
 | some x =>
  have hm : b ∈ trk h H := List.mem_filter.mpr ⟨List.mem_range.mpr (Heap.lt_size e'),by simp [q]⟩
  have z : (zpx h H).get? b = none := PySem.W.hideAll_none (trk h H) hm
  rw [z] at e; cases e
structure Mod (K : PySem.W.Frag) (mg : Str -> Option Value) (base : Heap) : Prop where
 kin : K.In base
 glob : base.Ns mainGlobals mg
 blt : ∃ mb,base.Ns builtinsNs mb /\ ∀ x : Str,x ≠ "__name__" -> mb x = bootBuiltins x
 nolimit : base.NoLimit
structure Cx where
 prog : Program
 w : World
 K : PySem.W.Frag
 mg : Str -> Option Value
 base : Heap
 A : Around
 N : List Str
 s₀ : Shared
 H₀ : Hp
 env : Env
 outer : List Env
 stack : List Env
 ex : List Addr
 fn : Str -> Bool
 calm : Bool
 pn : List (Addr × Obj)
 xe : Value -> Shared -> Prop
def frs (l : List Env) : List Addr := l.filterMap (·.frame)
abbrev Cx.fs (X : Cx) : List Addr := frs X.outer
def Vis (sc : Scope) (x : Str) : Prop := sc.names.lookup x = some .local ∨ sc.names.lookup x = some .cell ∨ sc.names.lookup x = some .free
def Loc (sc : Scope) (x : Str) : Prop := sc.names.lookup x = some .local ∨ sc.names.lookup x = some .cell
def Look (env : Env) (h : Heap) (m : Str -> Option Value) (x : Str) (u : Value) : Prop :=
 (env.kindOf x = some .local /\ m x = some u) ∨ ((env.kindOf x = some .cell ∨ env.kindOf x = some .free) /\ ∃ c,env.cells.lookup x = some c /\ h.IsCell c (some u))
structure Cx.Ok (X : Cx) : Prop where
 mod : Mod X.K X.mg X.base
 kind : X.env.scope.kind = .function
 glob : X.env.globals = mainGlobals
 blt : X.env.builtins = builtinsNs
 above : X.s₀.heap.objs.size <= X.env.locals
 inj : ∀ x y c,X.env.cells.lookup x = some c -> X.env.cells.lookup y = some c -> x = y
 has : ∀ x,(X.env.kindOf x = some .cell ∨ X.env.kindOf x = some .free) -> ∃ c,X.env.cells.lookup x = some c
 cab : ∀ x c,X.fn x = true -> X.env.cells.lookup x = some c -> X.s₀.heap.objs.size <= c
 hd : X.calm = true -> X.A.handled = none
 frames : X.A.frames = some X.stack
 stk : X.stack = X.outer ∨ (X.stack = X.env :: X.outer /\ X.env.frame = some X.env.locals)
 exf : ∀ b ∈ X.ex,b ≠ X.env.locals /\ ∀ x c,X.env.cells.lookup x = some c -> c ≠ b
 bs : ∀ b o,X.base.get? b = some o -> X.s₀.heap.get? b = some o /\ X.H₀ b = none
 bsz : X.base.objs.size <= X.s₀.heap.objs.size
 noex : ∀ b o,X.base.get? b = some o -> b ∉ X.ex
 exfs : ∀ b ∈ X.ex,b ∉ X.fs
 funs : X.s₀.heap.FunFrames X.base X.outer
 frf : ∀ b ∈ X.fs,X.H₀ b = none
structure Inv (X : Cx) (pins : List (Addr × Obj)) (σ : List (Option V)) (H : Hp) (s : Shared) : Prop where
 ok : X.Ok
 os : s.os = X.s₀.os
 bare : AllBare s.gens
 base : Un X.fs X.ex X.H₀ H X.s₀.heap s.heap
 loc : ∃ m,s.heap.Ns X.env.locals m /\ ∀ (i : Nat) (x : Str) (v : V),X.N[i]? = some x -> σ[i]? = some (some v) -> Vis X.env.scope x -> ∃ u,RelV v u /\ Look X.env s.heap m x u
 cell : ∀ x c,X.env.cells.lookup x = some c -> ∃ v,s.heap.IsCell c v
 free : H X.env.locals = none
 freeC : ∀ x c,X.env.cells.lookup x = some c -> H c = none
 pin : ∀ p ∈ X.pn ++ pins,s.heap.get? p.1 = some p.2 /\ H p.1 = none /\ p.1 ≠ X.env.locals /\ p.1 ∉ X.fs /\ ∀ v,p.2.data ≠ .cell v
 hok : HOk X.prog X.w H s.heap
 len : σ.length = X.N.length
section
variable {X : Cx} {pins : List (Addr × Obj)} {σ : List (Option V)} {H H' : Hp} {s : Shared} {h' : Heap}
theorem Cx.Ok.nofr (ok : X.Ok) {b : Addr} {o : Obj} (e : X.base.get? b = some o) : b ∉ X.fs := fun hb => by
 have := (ok.funs.mem hb).1
 rw [e] at this; cases this
theorem Inv.bs (I : Inv X pins σ H s) : ∀ b o,X.base.get? b = some o -> s.heap.get? b = some o /\ H b = none := fun b o e =>
 ⟨I.base.keep b o (I.ok.bs b o e).1 (I.ok.bs b o e).2 (I.ok.nofr e) (I.ok.noex b o e),I.base.free b o (I.ok.bs b o e).1 (I.ok.bs b o e).2 (I.ok.noex b o e)⟩
theorem Inv.bk (I : Inv X pins σ H s) : ∀ b o,X.base.get? b = some o -> s.heap.get? b = some o := fun b o e => (I.bs b o e).1
theorem Inv.mod (I : Inv X pins σ H s) : Mod X.K X.mg X.base := I.ok.mod
theorem Inv.kIn (I : Inv X pins σ H s) : X.K.In s.heap := I.ok.mod.kin.keeps I.bk
theorem Inv.lt (I : Inv X pins σ H s) : X.env.locals < s.heap.objs.size := let ⟨_,hn,_⟩ := I.loc; hn.lt
theorem Inv.sz (I : Inv X pins σ H s) : X.s₀.heap.objs.size <= s.heap.objs.size := Nat.le_trans I.ok.above (Nat.le_of_lt I.lt)
theorem Inv.nofs (I : Inv X pins σ H s) {a : Addr} (h : s.heap.objs.size <= a) : a ∉ X.fs := fun hb => by
 obtain ⟨_,o,ho,_⟩ := I.ok.funs.mem hb
 exact absurd (Nat.lt_of_lt_of_le (Heap.lt_size ho) (Nat.le_trans I.sz h)) (Nat.lt_irrefl _)
theorem Inv.cne (I : Inv X pins σ H s) : ∀ x c,X.env.cells.lookup x = some c -> c ≠ X.env.locals := fun x c e z => by
 obtain ⟨v,o,ho,hd⟩ := I.cell x c e
 obtain ⟨m,⟨o',es,ep,ho',hd',_⟩,_⟩ := I.loc
 rw [z,ho'] at ho; cases ho; rw [hd'] at hd; cases hd
theorem Inv.funs (I : Inv X pins σ H s) : s.heap.FunFrames X.base X.outer := by
 have all : ∀ (l : List Env),(∀ b ∈ frs l,b ∈ X.fs) -> X.s₀.heap.FunFrames X.base l -> s.heap.FunFrames X.base l := by
  intro l
  induction l with
  | nil => intro _ _; trivial
  | cons env r ih =>
   intro hs hl
   obtain ⟨hk,⟨L,o,hf,hn,ho,hd⟩,hr⟩ := hl
   have hL : L ∈ X.fs := hs L (by unfold frs; rw [List.filterMap_cons,hf]; exact List.mem_cons_self)
   obtain ⟨sl,e⟩ := I.base.slot L o ho (I.ok.frf L hL) hL fun z => I.ok.exfs L z hL
   exact ⟨hk,⟨L,_,hf,hn,e,hd⟩,ih (fun b hb => hs b (by unfold frs; rw [List.filterMap_cons,hf]; exact List.mem_cons_of_mem _ hb)) hr⟩
 exact all X.outer (fun _ hb => hb) I.ok.funs
theorem Inv.stack (I : Inv X pins σ H s) : s.heap.FunFrames X.base X.stack := by
 rcases I.ok.stk with e | ⟨e,hf⟩
 ·rw [e]; exact I.funs
 ·rw [e]
  obtain ⟨m,hn,_⟩ := I.loc
  refine .cons (by rw [I.ok.kind]; decide) hf hn ?_ I.funs
  exact Heap.get?_none_of_le (Nat.le_trans I.ok.bsz I.ok.above)
theorem Inv.stkSub (I : Inv X pins σ H s) : ∀ b ∈ frs X.stack,b ∈ X.env.locals :: X.fs := fun b hb => by
 rcases I.ok.stk with e | ⟨e,hf⟩
 ·rw [e] at hb; exact List.mem_cons_of_mem _ hb
 ·rw [e] at hb
  unfold frs at hb
  rw [List.filterMap_cons,hf] at hb
  exact hb
theorem Inv.stkFree (I : Inv X pins σ H s) : ∀ b ∈ frs X.stack,H b = none := fun b hb => by
 rcases List.mem_cons.mp (I.stkSub b hb) with e | hb
 ·rw [e]; exact I.free
 ·obtain ⟨_,o,ho,_⟩ := I.ok.funs.mem hb
  exact I.base.free b o ho (I.ok.frf b hb) fun z => I.ok.exfs b z hb
theorem Inv.step {g' : Array GenState} {t' : Nat} {d' : Drawn} {ch : List Addr} (I : Inv X pins σ H s)
  (hch : ∀ b ∈ ch,(b ∈ X.ex ∨ X.s₀.heap.objs.size <= b) /\ b ≠ X.env.locals /\ (∀ x c,X.env.cells.lookup x = some c -> c ≠ b) /\ ∀ p ∈ X.pn ++ pins,p.1 ≠ b)
  (keep : ∀ b o,b ≠ X.env.locals -> b ∉ X.fs -> b ∉ ch -> s.heap.get? b = some o -> H b = none -> h'.get? b = some o)
  (slot : ∀ b o,b ≠ X.env.locals -> b ∈ X.fs -> b ∉ ch -> s.heap.get? b = some o -> H b = none -> ∃ sl,h'.get? b = some { o with slots := sl }) (free : ∀ b o,b ∉ ch -> s.heap.get? b = some o -> H b = none -> H' b = none)
  (there : ∀ b o,b ∉ ch -> s.heap.get? b = some o -> ∃ o',h'.get? b = some o')
  (tups : ∀ b xs,H b = some (.tup xs) -> H' b = some (.tup xs)) (frzs : ∀ b o u,H b = some (.frz o u) -> H' b = some (.frz o u)) (tbls : ∀ b ps,H b = some (.tbl ps) -> ∃ more,H' b = some (.tbl (ps ++ more)))
  (ns : ∀ m,s.heap.Ns X.env.locals m -> h'.Ns X.env.locals m) (hok : HOk X.prog X.w H' h') (hg : AllBare g') :
  Inv X pins σ H' { s with heap := h',gens := g',drawn := d',toks := t' } := by
 have neL : ∀ b o,X.s₀.heap.get? b = some o -> b ≠ X.env.locals := fun b o e => Nat.ne_of_lt (Nat.lt_of_lt_of_le (Heap.lt_size e) I.ok.above)
 have neC : ∀ b o,X.s₀.heap.get? b = some o -> b ∉ X.ex -> b ∉ ch := fun b o e hx hb => by
  rcases (hch b hb).1 with z | z
  ·exact hx z
  ·exact absurd (Nat.lt_of_lt_of_le (Heap.lt_size e) z) (Nat.lt_irrefl _)
 have cellK : ∀ x c,X.env.cells.lookup x = some c -> ∀ v,s.heap.IsCell c v -> h'.IsCell c v := fun x c e v ⟨o,ho,hd⟩ => by
  have nch : c ∉ ch := fun z => (hch c z).2.2.1 x c e rfl
  by_cases hc : c ∈ X.fs
  ·obtain ⟨sl,q⟩ := slot c o (I.cne x c e) hc nch ho (I.freeC x c e)
   exact ⟨_,q,hd⟩
  ·exact ⟨o,keep c o (I.cne x c e) hc nch ho (I.freeC x c e),hd⟩
 refine ⟨I.ok,I.os,hg,⟨fun b o e n hb hx => ?_,fun b o e n hb hx => ?_,fun b o e n hx => ?_,fun b o e hx => ?_,fun b xs e => tups b xs (I.base.tups b xs e),fun b o xs e => frzs b o xs (I.base.frzs b o xs e),fun b ps e => ?_⟩,?_,fun x c e => ?_,?_,fun x c e => ?_,fun p hp => ?_,hok,I.len⟩
 ·exact keep b o (neL b o e) hb (neC b o e hx) (I.base.keep b o e n hb hx) (I.base.free b o e n hx)
 ·obtain ⟨sl,e1⟩ := I.base.slot b o e n hb hx
  obtain ⟨sl',e2⟩ := slot b _ (neL b o e) hb (neC b o e hx) e1 (I.base.free b o e n hx)
  exact ⟨sl',e2⟩
 ·obtain ⟨o',e1⟩ := I.base.there b o e hx
  exact free b o' (neC b o e hx) e1 (I.base.free b o e n hx)
 ·obtain ⟨o',e1⟩ := I.base.there b o e hx
  exact there b o' (neC b o e hx) e1
 ·obtain ⟨m1,e1⟩ := I.base.tbls b ps e
  obtain ⟨m2,e2⟩ := tbls b _ e1
  exact ⟨m1 ++ m2,by rw [e2,Array.append_assoc]⟩
 ·obtain ⟨m,hn,hl⟩ := I.loc
  refine ⟨m,ns m hn,fun i x v e1 e2 e3 => ?_⟩
  obtain ⟨u,r,l⟩ := hl i x v e1 e2 e3
  refine ⟨u,r,?_⟩
  rcases l with l | ⟨k,c,e,z⟩
  ·exact .inl l
  ·exact .inr ⟨k,c,e,cellK x c e _ z⟩
 ·obtain ⟨v,z⟩ := I.cell x c e
  exact ⟨v,cellK x c e v z⟩
 ·obtain ⟨m,⟨o,_,_,ho,_⟩,_⟩ := I.loc
  exact free _ o (fun z => (hch _ z).2.1 rfl) ho I.free
 ·obtain ⟨v,o,ho,hd⟩ := I.cell x c e
  exact free c o (fun z => (hch c z).2.2.1 x c e rfl) ho (I.freeC x c e)
 ·obtain ⟨e,n,ne,nf,d⟩ := I.pin p hp
  have nch : p.1 ∉ ch := fun z => (hch p.1 z).2.2.2 p hp rfl
  exact ⟨keep p.1 p.2 ne nf nch e n,free p.1 p.2 nch e n,ne,nf,d⟩
theorem Inv.un {t' : Nat} (I : Inv X pins σ H s) (u : Un X.fs [] H H' s.heap h') (hok : HOk X.prog X.w H' h') : Inv X pins σ H' { s with heap := h',toks := t' } := by
 obtain ⟨m,⟨o,es,ep,ho,r⟩,_⟩ := id I.loc
 obtain ⟨sl,hL⟩ := u.any ho I.free (by simp)
 exact I.step (g' := s.gens) (d' := s.drawn) (ch := []) (fun _ z => nomatch z) (fun b o _ hb _ e n => u.keep b o e n hb (by simp)) (fun b o _ hb _ e n => u.slot b o e n hb (by simp)) (fun b o _ e n => u.free b o e n (by simp)) (fun b o _ e => u.there b o e (by simp)) u.tups u.frzs u.tbls (fun m' hm => by
  obtain ⟨o',es',ep',ho',r'⟩ := hm
  rw [ho] at ho'; cases ho'
  exact ⟨_,es',ep',hL,r'⟩) hok I.bare
theorem Inv.call {g' : Array GenState} {t' : Nat} {d' : Drawn} {ch : List Addr} (I : Inv X pins σ H s) (u : Un (frs X.stack) ch H H' s.heap h') (hok : HOk X.prog X.w H' h') (hg : AllBare g')
  (hch : ∀ b ∈ ch,(b ∈ X.ex ∨ X.s₀.heap.objs.size <= b) /\ b ≠ X.env.locals /\ (∀ x c,X.env.cells.lookup x = some c -> c ≠ b) /\ ∀ p ∈ X.pn ++ pins,p.1 ≠ b) :
  Inv X pins σ H' { s with heap := h',gens := g',drawn := d',toks := t' } := by
 obtain ⟨m,⟨o,es,ep,ho,r⟩,_⟩ := id I.loc
 obtain ⟨sl,hL⟩ := u.any ho I.free fun z => (hch _ z).2.1 rfl
 exact I.step (ch := ch) hch (fun b o hL hb hc e n => u.keep b o e n (fun z => (List.mem_cons.mp (I.stkSub b z)).elim hL hb) hc) (fun b o _ _ hc e n => u.any e n hc) (fun b o hc e n => u.free b o e n hc) (fun b o hc e => u.there b o e hc) u.tups u.frzs u.tbls (fun m' hm => by
  obtain ⟨o',es',ep',ho',r'⟩ := hm
  rw [ho] at ho'; cases ho'
  exact ⟨_,es',ep',hL,r'⟩) hok hg
theorem Inv.turned {t' : Nat} {it : Addr} (I : Inv X pins σ H s) (k : ∀ b o,b ≠ it -> s.heap.get? b = some o -> h'.get? b = some o) (hn : H it = none) (hL : it ≠ X.env.locals)
  (h1 : it ∈ X.ex ∨ X.s₀.heap.objs.size <= it) (h2 : ∀ x c,X.env.cells.lookup x = some c -> c ≠ it) (h3 : ∀ p ∈ X.pn ++ pins,p.1 ≠ it) : Inv X pins σ H { s with heap := h',toks := t' } := by
 have nit : ∀ b u,H b = some u -> b ≠ it := fun b u e z => by rw [z,hn] at e; cases e
 refine I.step (g' := s.gens) (d' := s.drawn) (ch := [it]) (fun b hb => ?_) (fun b o _ _ hc e _ => k b o (fun z => hc (by simp [z])) e) (fun b o _ _ hc e _ => ⟨o.slots,k b o (fun z => hc (by simp [z])) e⟩) (fun _ _ _ _ n => n)
  (fun b o hc e => ⟨o,k b o (fun z => hc (by simp [z])) e⟩) (fun _ _ e => e) (fun _ _ _ e => e) (fun b ps e => ⟨#[],by rw [e]; simp⟩) (fun m hm => ?_) (fun b u e => ?_) I.bare
 ·have e : b = it := by simpa using hb
  subst e
  exact ⟨h1,hL,h2,h3⟩
 ·obtain ⟨o,es,ep,ho,r⟩ := hm
  exact ⟨o,es,ep,k _ o (Ne.symm hL) ho,r⟩
 ·refine (I.hok b u e).stay (fun c v hc q => k c v ?_ q) (fun _ q => q) fun _ _ q => q
  rcases hc with z | z
  ·rw [z]; exact nit b u e
  ·exact nit c _ z
theorem Inv.tok (I : Inv X pins σ H s) (t : Nat) : Inv X pins σ H { s with toks := t } := I.un (h' := s.heap) (t' := t) Un.refl I.hok
theorem Inv.kept {t' : Nat} (I : Inv X pins σ H s) (k : ∀ b u,s.heap.get? b = some u -> h'.get? b = some u) : Inv X pins σ H { s with heap := h',toks := t' } := I.un (Un.kept k) (I.hok.kept k)
theorem Inv.laid {a : Addr} {o : HO} {t' : Nat} (I : Inv X pins σ H s) (k : ∀ b u,s.heap.get? b = some u -> h'.get? b = some u) (hp : s.heap.objs.size <= a) (new : ObjOk X.prog X.w (upd H a o) h' a o) :
  Inv X pins σ (upd H a o) { s with heap := h',toks := t' } := I.un (Un.laid k hp (I.hok.fresh hp)) (I.hok.laid k hp new)
theorem Inv.write {x e : Addr} {o : HO} {t' : Nat} (I : Inv X pins σ H s) (mu : Mut (H x)) (he : e = x ∨ H e = some (.own x)) (k : ∀ b u,b ≠ e -> s.heap.get? b = some u -> h'.get? b = some u) (heo : ∃ u,h'.get? e = some u)
  (new : ObjOk X.prog X.w (upd H x o) h' x o) : Inv X pins σ (upd H x o) { s with heap := h',toks := t' } := I.un (Un.write mu he k heo) (I.hok.write mu he k heo new)
theorem Inv.pins_of {pins' : List (Addr × Obj)} (I : Inv X pins σ H s) (h : ∀ p ∈ pins',s.heap.get? p.1 = some p.2 /\ H p.1 = none /\ p.1 ≠ X.env.locals /\ p.1 ∉ X.fs /\ ∀ v,p.2.data ≠ .cell v) : Inv X pins' σ H s :=
 ⟨I.ok,I.os,I.bare,I.base,I.loc,I.cell,I.free,I.freeC,fun p hp => (List.mem_append.mp hp).elim (fun z => I.pin p (List.mem_append_left _ z)) (h p),I.hok,I.len⟩
theorem zkF {N : List Str} (hN : N.Nodup) {i j : Nat} {x : Str} (a : N[i]? = some x) (b : N[j]? = some x) : i = j := by
 obtain ⟨h1,e1⟩ := List.getElem?_eq_some_iff.mp a
 obtain ⟨h2,e2⟩ := List.getElem?_eq_some_iff.mp b
 exact (List.getElem_inj hN).mp (e1.trans e2.symm)
theorem zmj {M : Model} {A : Around} {E : Value -> Shared -> Prop} {i : Nat} {x : Str} {v : V} {u : Value} {Q : Unit -> Shared -> Prop} (I : Inv X pins σ H s) (hN : X.N.Nodup) (hi : X.N[i]? = some x) (hx : Loc X.env.scope x) (r : RelV v u)
  (h : ∀ s',Inv X pins (σ.set i (some v)) H s' -> (∃ a,Heap.SameBut a s.heap s'.heap /\ (a = X.env.locals ∨ X.env.cells.lookup x = some a)) -> Q () s') (hf : autoParam (X.fn x = true ∨ X.env.scope.names.lookup x = some .local) AutoP.a0._auto_1) : wpAny M A (storeName X.env x u) Q E s := by
 obtain ⟨m,hn,hl⟩ := id I.loc
 have hcls : (X.env.scope.kind == .class || (X.env.scope.kind == .module && X.env.locals != X.env.globals)) = false := by rw [I.ok.kind]; rfl
 have hiσ : i < σ.length := by rw [I.len]; exact (List.getElem?_eq_some_iff.mp hi).1
 have cne := I.cne
 have tracked : ∀ {a : Addr} {h' : Heap},(∃ o,s.heap.get? a = some o /\ H a = none) -> Heap.SameBut a s.heap h' -> HOk X.prog X.w H h' := fun {a h'} ha hs b ob e => by
  obtain ⟨_,_,hfree⟩ := ha
  refine (I.hok b ob e).stay (fun c w' hc q => (hs.2 c ?_).trans q) (fun _ q => q) fun _ _ q => q
  rintro rfl
  rcases hc with rfl | hc
  ·rw [hfree] at e; cases e
  ·rw [hfree] at hc; cases hc
 rcases hx with hk | hk
 ·refine wpAny_storeName_local hk hn (fun h' hn' hs => ?_) hcls
  obtain ⟨oL,_,_,hoL,_⟩ := id hn
  refine h _ ⟨I.ok,I.os,I.bare,⟨fun b o e n hb hx => ?_,fun b o e n hb hx => ?_,I.base.free,fun b o e hx => ?_,I.base.tups,I.base.frzs,I.base.tbls⟩,⟨_,hn',fun j y v' e1 e2 e3 => ?_⟩,fun y c e => ?_,I.free,I.freeC,fun p hp => ?_,tracked ⟨oL,hoL,I.free⟩ hs,by simpa using I.len⟩ ⟨_,hs,.inl rfl⟩
  ·exact (hs.2 b (Nat.ne_of_lt (Nat.lt_of_lt_of_le (Heap.lt_size e) I.ok.above))).trans (I.base.keep b o e n hb hx)
  ·obtain ⟨sl,e1⟩ := I.base.slot b o e n hb hx
   exact ⟨sl,(hs.2 b (Nat.ne_of_lt (Nat.lt_of_lt_of_le (Heap.lt_size e) I.ok.above))).trans e1⟩
  ·obtain ⟨o',e1⟩ := I.base.there b o e hx
   exact ⟨o',(hs.2 b (Nat.ne_of_lt (Nat.lt_of_lt_of_le (Heap.lt_size e) I.ok.above))).trans e1⟩
  ·by_cases hj : j = i
   ·subst hj
    rw [hi] at e1; cases e1
    rw [List.getElem?_set_self hiσ] at e2
    cases e2
    exact ⟨u,r,.inl ⟨hk,by simp⟩⟩
   ·rw [List.getElem?_set_ne (Ne.symm hj)] at e2
    obtain ⟨u',r',q⟩ := hl j y v' e1 e2 e3
    refine ⟨u',r',?_⟩
    rcases q with ⟨k,e⟩ | ⟨k,c,e,z⟩
    ·refine .inl ⟨k,?_⟩
     have : y ≠ x := fun e => hj (zkF hN e1 (e ▸ hi))
     simp [this,e]
    ·exact .inr ⟨k,c,e,z.sameBut hs (cne y c e)⟩
  ·obtain ⟨w',z⟩ := I.cell y c e
   exact ⟨w',z.sameBut hs (cne y c e)⟩
  ·obtain ⟨e,n,ne,nf,d⟩ := I.pin p hp
   exact ⟨(hs.2 p.1 ne).trans e,n,ne,nf,d⟩
 ·have hfn : X.fn x = true := by
   rcases hf with z | z
   ·exact z
   ·rw [z] at hk; cases hk
  obtain ⟨c,hc⟩ := I.ok.has x (.inl hk)
  obtain ⟨w',z⟩ := I.cell x c hc
  refine wpAny_storeName_cell I.ok.kind hk hc z (fun h' hc' hs => ?_)
  obtain ⟨oc,hoc,hocd⟩ := id z
  refine h { s with heap := h' } ⟨I.ok,I.os,I.bare,⟨fun b o e n hb hx => ?_,fun b o e n hb hx => ?_,I.base.free,fun b o e hx => ?_,I.base.tups,I.base.frzs,I.base.tbls⟩,⟨m,hn.sameBut hs (Ne.symm (cne x c hc)),fun j y v' e1 e2 e3 => ?_⟩,fun y c' e => ?_,I.free,I.freeC,fun p hp => ?_,tracked ⟨oc,hoc,I.freeC x c hc⟩ hs,by simpa using I.len⟩ ⟨c,hs,.inr hc⟩
  ·exact (hs.2 b (Nat.ne_of_lt (Nat.lt_of_lt_of_le (Heap.lt_size e) (I.ok.cab x c hfn hc)))).trans (I.base.keep b o e n hb hx)
  ·obtain ⟨sl,e1⟩ := I.base.slot b o e n hb hx
   exact ⟨sl,(hs.2 b (Nat.ne_of_lt (Nat.lt_of_lt_of_le (Heap.lt_size e) (I.ok.cab x c hfn hc)))).trans e1⟩
  ·obtain ⟨o',e1⟩ := I.base.there b o e hx
   exact ⟨o',(hs.2 b (Nat.ne_of_lt (Nat.lt_of_lt_of_le (Heap.lt_size e) (I.ok.cab x c hfn hc)))).trans e1⟩
  ·by_cases hj : j = i
   ·subst hj
    rw [hi] at e1; cases e1
    rw [List.getElem?_set_self hiσ] at e2
    cases e2
    exact ⟨u,r,.inr ⟨.inl hk,c,hc,hc'⟩⟩
   ·rw [List.getElem?_set_ne (Ne.symm hj)] at e2
    obtain ⟨u',r',q⟩ := hl j y v' e1 e2 e3
    refine ⟨u',r',?_⟩
    rcases q with q | ⟨k,c',e,z'⟩
    ·exact .inl q
    ·refine .inr ⟨k,c',e,z'.sameBut hs ?_⟩
     rintro rfl
     exact hj (zkF hN e1 (I.ok.inj _ _ _ e hc ▸ hi))
  ·by_cases hcc : c' = c
   ·subst hcc; exact ⟨_,hc'⟩
   ·obtain ⟨w2,z2⟩ := I.cell y c' e
    exact ⟨w2,z2.sameBut hs hcc⟩
  ·obtain ⟨e,n,ne,nf,d⟩ := I.pin p hp
   refine ⟨(hs.2 p.1 ?_).trans e,n,ne,nf,d⟩
   intro q
   rw [q,hoc] at e
   have q' : oc = p.2 := Option.some.inj e
   exact d w' (by rw [<- q']; exact hocd)
theorem zcc {M : Model} {A : Around} {E : Value -> Shared -> Prop} {i : Nat} {x : Str} {v : V} {u : Value} {Q : Unit -> Shared -> Prop} (I : Inv X pins σ H s) (hN : X.N.Nodup) (hi : X.N[i]? = some x) (hx : Loc X.env.scope x) (r : RelV v u)
  (h : ∀ s',Inv X pins (σ.set i (some v)) H s' -> Q () s') (hf : autoParam (X.fn x = true ∨ X.env.scope.names.lookup x = some .local) AutoP.a0._auto_1) : wpAny M A (storeName X.env x u) Q E s :=
 zmj I hN hi hx r (fun s' I' _ => h s' I') hf
theorem Inv.call' {s' : Shared} {ch : List Addr} (I : Inv X pins σ H s) (ho : s'.os = s.os) (u : Un (frs X.stack) ch H H' s.heap s'.heap) (hok : HOk X.prog X.w H' s'.heap) (hg : AllBare s'.gens)
  (hch : ∀ b ∈ ch,(b ∈ X.ex ∨ X.s₀.heap.objs.size <= b) /\ b ≠ X.env.locals /\ (∀ x c,X.env.cells.lookup x = some c -> c ≠ b) /\ ∀ p ∈ X.pn ++ pins,p.1 ≠ b) : Inv X pins σ H' s' := by
 obtain ⟨h',g',d',t',o'⟩ := s'
 have e : o' = s.os := ho
 subst e
 exact I.call (g' := g') (t' := t') (d' := d') u hok hg hch
end
abbrev XK := Value -> Option Addr -> Hp -> Prop
abbrev St := List (Option V)
abbrev VK := V -> Hp -> Prop
abbrev TE := St -> Hp -> VK -> Prop
abbrev TT := St -> Hp -> (Bool -> Hp -> Prop) -> Prop
abbrev TA := St -> Hp -> (List V -> Hp -> Prop) -> Prop
structure Ends where
 nx : St -> Hp -> Prop
 rt : VK
 bk : St -> Hp -> Prop := fun _ _ => False
 ct : St -> Hp -> Prop := fun _ _ => False
abbrev TS := Ends -> St -> Hp -> Prop
def EP (X : Cx) (pins : List (Addr × Obj)) (σ : St) (Q : VK) (u : Value) (s' : Shared) : Prop := ∃ v H',Inv X pins σ H' s' /\ RelV v u /\ Q v H'
def TP (X : Cx) (pins : List (Addr × Obj)) (σ : St) (Q : Bool -> Hp -> Prop) (b : Bool) (s' : Shared) : Prop := ∃ H',Inv X pins σ H' s' /\ Q b H'
def AP (X : Cx) (pins : List (Addr × Obj)) (σ : St) (Q : List V -> Hp -> Prop) (us : List Value) (s' : Shared) : Prop := ∃ vs H',Inv X pins σ H' s' /\ Vals vs us /\ Q vs H'
def SP (X : Cx) (pins : List (Addr × Obj)) (D : Ends) (f : Flow) (s' : Shared) : Prop :=
 match f with
 | .next => ∃ σ' H',Inv X pins σ' H' s' /\ D.nx σ' H'
 | .brk => ∃ σ' H',Inv X pins σ' H' s' /\ D.bk σ' H'
 | .cont => ∃ σ' H',Inv X pins σ' H' s' /\ D.ct σ' H'
 | .ret u => ∃ v σ' H',Inv X pins σ' H' s' /\ RelV v u /\ D.rt v H'
def PE (X : Cx) (e : Expr) (t : TE) : Prop :=
 ∀ (pins : List (Addr × Obj)) (s : Shared) (σ : St) (H : Hp) (Q : VK),Inv X pins σ H s -> t σ H Q -> wpAny (model X.prog X.w) X.A (eval e X.env) (EP X pins σ Q) X.xe s
def PT (X : Cx) (e : Expr) (t : TT) : Prop :=
 ∀ (pins : List (Addr × Obj)) (s : Shared) (σ : St) (H : Hp) (Q : Bool -> Hp -> Prop),Inv X pins σ H s -> t σ H Q -> wpAny (model X.prog X.w) X.A (isTrue e X.env (eval e X.env)) (TP X pins σ Q) X.xe s
def PW (X : Cx) (e : Expr) (t : TT) : Prop :=
 ∀ (whole : Sem Value) (pins : List (Addr × Obj)) (s : Shared) (σ : St) (H : Hp) (Q : Bool -> Hp -> Prop),Inv X pins σ H s -> t σ H Q -> wpAny (model X.prog X.w) X.A (isTrue e X.env whole) (TP X pins σ Q) X.xe s
theorem PW.pt {X : Cx} {e : Expr} {t : TT} (h : PW X e t) : PT X e t := h _
def PA (X : Cx) (es : List Expr) (t : TA) : Prop :=
 ∀ (pos : Pos) (pins : List (Addr × Obj)) (s : Shared) (σ : St) (H : Hp) (Q : List V -> Hp -> Prop),Inv X pins σ H s -> t σ H Q -> wpAny (model X.prog X.w) X.A (spliced (backTo pos (starEach es X.env))) (AP X pins σ Q) X.xe s
def PS (X : Cx) (st : Stmt) (t : TS) : Prop :=
 ∀ (pins : List (Addr × Obj)) (s : Shared) (σ : St) (H : Hp) (D : Ends),Inv X pins σ H s -> t D σ H -> wpAny (model X.prog X.w) X.A (exec st X.env) (SP X pins D) X.xe s
def PSs (X : Cx) (st : List Stmt) (t : TS) : Prop :=
 ∀ (pins : List (Addr × Obj)) (s : Shared) (σ : St) (H : Hp) (D : Ends),Inv X pins σ H s -> t D σ H -> wpAny (model X.prog X.w) X.A (execs st X.env) (SP X pins D) X.xe s
theorem thn {α : Type} {t : Sem α} {Q Q' : α -> Shared -> Prop} {M : Model} {A : Around} {E : Value -> Shared -> Prop} {s : Shared} (h : wpAny M A t Q E s) (hQ : ∀ a s,Q a s -> Q' a s) : wpAny M A t Q' E s := wpAny_mono h hQ fun _ _ x => x
section
variable {X : Cx}
def tVar (i : Nat) : TE := fun σ H Q => ∃ v,σ[i]? = some (some v) /\ Q v H
def tC (v : V) : TE := fun _ H Q => Q v H
theorem pe_var {i : Nat} {x : Str} {pos : Pos} (hN : X.N[i]? = some x) (hv : Vis X.env.scope x) (hd : autoParam ((x == ("__debug__" : Str)) = false) AutoP.a1._auto_1) (hcd : autoParam ((x == ("__classdict__" : Str)) = false) AutoP.a1._auto_1) : PE X (.Name x pos) (tVar i) := by
 intro pins s σ H Q I h
 obtain ⟨v,e,h⟩ := h
 obtain ⟨m,hn,hl⟩ := I.loc
 obtain ⟨u,r,l⟩ := hl i x v hN e hv
 have fin : EP X pins σ Q u s := ⟨v,H,I,r,h⟩
 rcases l with ⟨hk,hm⟩ | ⟨hk,c,hc,hcell⟩
 ·exact wpAny_Name (wpAny_loadName_local I.ok.kind hk hn hm fin) hd
 ·rcases hk with hk | hk
  ·exact wpAny_Name (wpAny_loadName_cell I.ok.kind hk hc hcell fin) hd
  ·exact wpAny_Name (wpAny_loadName_free I.ok.kind hk hc hcell fin hcd) hd
theorem pe_int {i j pos} : PE X (.Constant (.int i) j pos) (tC (.int i)) := fun _ _ _ H _ I h => wpAny_Constant_int ⟨.int i,H,I.tok _,⟨_,rfl⟩,h⟩
theorem pe_bl {b j pos} : PE X (.Constant (.bool b) j pos) (tC (.bl b)) := fun _ _ _ H _ I h => Constant_bool ⟨.bl b,H,I,rfl,h⟩
theorem pe_non {j pos} : PE X (.Constant .none j pos) (tC .non) := fun _ _ _ H _ I h => Constant_none ⟨.non,H,I,rfl,h⟩
theorem zp0 {x j pos} : PE X (.Constant (.str x) j pos) (tC (.str x)) := fun _ _ _ H _ I h => Calls.Constant_str ⟨.str x,H,I.tok _,⟨_,rfl⟩,h⟩
def Gl (X : Cx) (x : Str) : Prop := X.env.kindOf x = some .globalImplicit
theorem zny {E : Value -> Shared -> Prop} {pins : List (Addr × Obj)} {s : Shared} {σ : St} {H : Hp} {x : Str} {u : Value} {pos : Pos} {Q : Value -> Shared -> Prop} (I : Inv X pins σ H s) (hg : Gl X x) (hm : X.mg x = some u) (h : Q u s)
  (hd : autoParam ((x == ("__debug__" : Str)) = false) AutoP.a1._auto_1) : wpAny (model X.prog X.w) X.A (eval (.Name x pos) X.env) Q E s :=
 Calls.Name_function_global I.ok.kind hg (Calls.loadGlobal_global (by rw [I.ok.glob]; exact I.mod.glob.keeps I.bk) hm h) hd
theorem zdW {E : Value -> Shared -> Prop} {pins : List (Addr × Obj)} {s : Shared} {σ : St} {H : Hp} {x : Str} {u : Value} {pos : Pos} {Q : Value -> Shared -> Prop} (I : Inv X pins σ H s) (hg : Gl X x) (hm : X.mg x = none) (hv : bootBuiltins x = some u) (h : Q u s)
  (hn : autoParam (x ≠ "__name__") AutoP.a1._auto_1) (hd : autoParam ((x == ("__debug__" : Str)) = false) AutoP.a1._auto_1) : wpAny (model X.prog X.w) X.A (eval (.Name x pos) X.env) Q E s := by
 obtain ⟨mb,h1,h2⟩ := I.mod.blt
 exact Calls.Name_function_global I.ok.kind hg (Calls.loadGlobal_builtin (by rw [I.ok.glob]; exact I.mod.glob.keeps I.bk) hm (by rw [I.ok.blt]; exact h1.keeps I.bk) ((h2 x hn).trans hv) h) hd
theorem zru {x : Str} {v : V} {u : Value} {pos : Pos} (hg : Gl X x) (hm : X.mg x = none) (hv : bootBuiltins x = some u) (r : RelV v u) (hn : autoParam (x ≠ "__name__") AutoP.a1._auto_1) (hd : autoParam ((x == ("__debug__" : Str)) = false) AutoP.a1._auto_1) : PE X (.Name x pos) (tC v) :=
 fun _ _ _ H _ I h => zdW I hg hm hv ⟨v,H,I,r,h⟩ hn hd
variable {a b : Expr} {ta tb : TE} {pos : Pos}
def tB (t : TE) : TT := fun σ H Q => t σ H fun x H1 => ∃ c,x = .bl c /\ Q c H1
theorem pt_val {e : Expr} {t : TE} (h : PE X e t) (he : autoParam (∀ whole,isTrue e X.env whole = (do let v <- whole; standAt e.pos; holding [v] (truthy v))) AutoP.a2._auto_1) : PT X e (tB t) := by
 intro pins s σ H Q I hw
 refine isTrue_plain (thn (h pins s σ H _ I hw) fun v s1 ⟨x,H1,I1,r1,q1⟩ => ?_) (he _)
 obtain ⟨d,rfl,q⟩ := q1
 cases r1
 exact wpAny_truthy_bool ⟨H1,I1,q⟩
variable {tA tB' : TT} {rest : List Expr}
def tAnd (t u : TT) : TT := fun σ H Q => t σ H fun c H1 => if c = true then u σ H1 Q else Q false H1
def tOr (t u : TT) : TT := fun σ H Q => t σ H fun c H1 => if c = true then Q true H1 else u σ H1 Q
def tNot (t : TT) : TT := fun σ H Q => t σ H fun c H1 => Q (!c) H1
theorem zq2 (ha : PT X a tA) : PW X (.BoolOp .And [a] pos) tA := by
 intro wh pins s σ H Q I h
 refine isTrue_and (thn (ha pins s σ H Q I h) fun c s1 e => ?_)
 cases c with
 | true => exact isTrue_and_nil e
 | false => exact e
theorem pw_or1 (ha : PT X a tA) : PW X (.BoolOp .Or [a] pos) tA := by
 intro wh pins s σ H Q I h
 refine isTrue_or (thn (ha pins s σ H Q I h) fun c s1 e => ?_)
 cases c with
 | false => exact isTrue_or_nil e
 | true => exact e
theorem pw_and (ha : PT X a tA) (hb : PW X (.BoolOp .And (b :: rest) pos) tB') : PW X (.BoolOp .And (a :: b :: rest) pos) (tAnd tA tB') := by
 intro wh pins s σ H Q I h
 refine isTrue_and (thn (ha pins s σ H _ I h) fun c s1 ⟨H1,I1,q1⟩ => ?_)
 cases c with
 | true => exact hb wh pins s1 σ H1 Q I1 q1
 | false => exact ⟨H1,I1,q1⟩
theorem pw_or (ha : PT X a tA) (hb : PW X (.BoolOp .Or (b :: rest) pos) tB') : PW X (.BoolOp .Or (a :: b :: rest) pos) (tOr tA tB') := by
 intro wh pins s σ H Q I h
 refine isTrue_or (thn (ha pins s σ H _ I h) fun c s1 ⟨H1,I1,q1⟩ => ?_)
 cases c with
 | true => exact ⟨H1,I1,q1⟩
 | false => exact hb wh pins s1 σ H1 Q I1 q1
theorem pt_not (ha : PT X a tA) : PT X (.UnaryOp .Not a pos) (tNot tA) := by
 intro pins s σ H Q I h
 exact isTrue_not (ha pins s σ H (fun c H1 => Q (!c) H1) I h)
def tAndV (ta tb : TE) : TE := fun σ H Q => ta σ H fun x H1 => ∃ c,x = .bl c /\ if c = true then tb σ H1 Q else Q (.bl false) H1
def tOrV (ta tb : TE) : TE := fun σ H Q => ta σ H fun x H1 => ∃ c,x = .bl c /\ if c = true then Q (.bl true) H1 else tb σ H1 Q
def tNotV (ta : TE) : TE := fun σ H Q => ta σ H fun x H1 => ∃ c,x = .bl c /\ Q (.bl (!c)) H1
theorem pe_one {op} {t : TE} (h : PE X a t) : PE X (.BoolOp op [a] pos) t := fun pins s σ H Q I hw => BoolOp_one (h pins s σ H Q I hw)
theorem pe_and (ha : PE X a ta) (hb : PE X (.BoolOp .And (b :: rest) pos) tb) : PE X (.BoolOp .And (a :: b :: rest) pos) (tAndV ta tb) := by
 intro pins s σ H Q I h
 refine BoolOp_and (thn (ha pins s σ H _ I h) fun v s1 ⟨x,H1,I1,r1,q1⟩ => ?_)
 obtain ⟨c,rfl,q1⟩ := q1
 cases r1
 refine wpAny_truthy_bool ?_
 cases c with
 | true => exact hb pins s1 σ H1 Q I1 q1
 | false => exact ⟨.bl false,H1,I1,rfl,q1⟩
theorem pe_or (ha : PE X a ta) (hb : PE X (.BoolOp .Or (b :: rest) pos) tb) : PE X (.BoolOp .Or (a :: b :: rest) pos) (tOrV ta tb) := by
 intro pins s σ H Q I h
 refine BoolOp_or (thn (ha pins s σ H _ I h) fun v s1 ⟨x,H1,I1,r1,q1⟩ => ?_)
 obtain ⟨c,rfl,q1⟩ := q1
 cases r1
 refine wpAny_truthy_bool ?_
 cases c with
 | false => exact hb pins s1 σ H1 Q I1 q1
 | true => exact ⟨.bl true,H1,I1,rfl,q1⟩
theorem pe_not (ha : PE X a ta) : PE X (.UnaryOp .Not a pos) (tNotV ta) := by
 intro pins s σ H Q I h
 refine UnaryOp_ (thn (ha pins s σ H _ I h) fun v s1 ⟨x,H1,I1,r1,q1⟩ => ?_)
 obtain ⟨c,rfl,q1⟩ := q1
 cases r1
 exact not_of (wpAny_truthy_bool ⟨.bl (!c),H1,I1,rfl,q1⟩)
def tIf (t : TT) (ta tb : TE) : TE := fun σ H Q => t σ H fun c H1 => if c = true then ta σ H1 Q else tb σ H1 Q
theorem zpa {c : Expr} (hc : PT X c tA) (ha : PE X a ta) (hb : PE X b tb) : PE X (.IfExp c a b pos) (tIf tA ta tb) := by
 intro pins s σ H Q I h
 refine wpAny_IfExp (thn (hc pins s σ H _ I h) fun d s1 ⟨H1,I1,q1⟩ => ?_)
 cases d with
 | true => exact ha pins s1 σ H1 Q I1 q1
 | false => exact hb pins s1 σ H1 Q I1 q1
end
def SqL (K : PySem.W.Frag) (H : Hp) (a : Addr) (xs : List V) : Prop :=
 Rd H a (.lst xs) ∨
  ∃ (o : Obj) (its : Array Value) (n : Nat),K.lookup a = some o /\ o.cls = .type "list" /\ o.dict = none /\ o.data = .seq its n /\ its.size <= sizeLine /\ Vals xs its.toList
def SqT (K : PySem.W.Frag) (H : Hp) (a : Addr) (xs : List V) : Prop :=
 Rd H a (.tup xs) ∨
  ∃ (o : Obj) (its : Array Value) (n : Nat),K.lookup a = some o /\ o.cls = .type "tuple" /\ o.data = .seq its n /\ its.size <= sizeLine /\ Vals xs its.toList
def absV : Value -> Option V
 | .none => some .non
 | .bool b => some (.bl b)
 | .int i _ => some (.int i)
 | .str x _ => some (.str x)
 | .bytes b _ => some (.byt b)
 | .float b _ => some (.flt b)
 | .ref a => some (.ref a)
 | .type n => some (.ty n)
 | _ => none
theorem RelV.abs {x : V} {u : Value} (r : RelV x u) : absV u = some x := by
 cases x with
 | non => cases r; rfl
 | bl _ => cases r; rfl
 | int _ => obtain ⟨t,rfl⟩ := r; rfl
 | str _ => obtain ⟨t,rfl⟩ := r; rfl
 | byt _ => obtain ⟨t,rfl⟩ := r; rfl
 | flt _ => obtain ⟨t,rfl⟩ := r; rfl
 | ref _ => cases r; rfl
 | ty _ => cases r; rfl
theorem RelV.inj {x y : V} {u : Value} (r : RelV x u) (q : RelV y u) : x = y := Option.some.inj (r.abs.symm.trans q.abs)
theorem Vals.inj : ∀ {xs ys : List V} {us : List Value},Vals xs us -> Vals ys us -> xs = ys
 | _,_,_,.nil,.nil => rfl
 | _,_,_,.cons r t,.cons r' t' => by rw [r.inj r',Vals.inj t t']
section
variable {X : Cx} {pins : List (Addr × Obj)} {σ : St} {H : Hp} {s : Shared} {a : Addr} {xs ys : List V}
theorem SqL.of {K : PySem.W.Frag} (h : H a = some (.lst xs)) : SqL K H a xs := .inl (.inl h)
theorem SqT.of {K : PySem.W.Frag} (h : H a = some (.tup xs)) : SqT K H a xs := .inl (.inl h)
theorem Inv.list (I : Inv X pins σ H s) (h : SqL X.K H a xs) : ∃ its : List Value,Vals xs its /\ PlainL s.heap a its.toArray /\ xs.length <= sizeLine := by
 rcases h with h | ⟨o,its,n,hk,hc,hd,hs,hz,r⟩
 ·obtain ⟨z,its,n,r,e⟩ := h.ok I.hok
  exact ⟨its,r,⟨_,n,e,rfl,rfl,rfl⟩,z⟩
 ·refine ⟨its.toList,r,⟨o,n,I.kIn a o hk,hc,hd,by simpa using hs⟩,?_⟩
  have e := r.length
  simp only [Array.length_toList] at e
  omega
theorem Inv.tuple (I : Inv X pins σ H s) (h : SqT X.K H a xs) : ∃ its : List Value,Vals xs its /\ IsTup s.heap a its.toArray /\ xs.length <= sizeLine := by
 rcases h with h | ⟨o,its,n,hk,hc,hs,hz,r⟩
 ·obtain ⟨z,its,r,p,_⟩ := h.ok I.hok
  exact ⟨its,r,p,z⟩
 ·refine ⟨its.toList,r,⟨o,I.kIn a o hk,hc,n,by simpa using hs⟩,?_⟩
  have e := r.length
  simp only [Array.length_toList] at e
  omega
theorem Inv.list_inj (I : Inv X pins σ H s) (h : SqL X.K H a xs) (h' : SqL X.K H a ys) : xs = ys := by
 obtain ⟨its,r,⟨o,n,e,_,_,d⟩,_⟩ := I.list h
 obtain ⟨its',r',⟨o',n',e',_,_,d'⟩,_⟩ := I.list h'
 rw [e] at e'; cases e'
 rw [d] at d'
 injection d' with d1 _
 have : its = its' := by simpa using congrArg Array.toList d1
 subst this
 exact r.inj r'
theorem Inv.tuple_inj (I : Inv X pins σ H s) (h : SqT X.K H a xs) (h' : SqT X.K H a ys) : xs = ys := by
 obtain ⟨its,r,⟨o,e,_,n,d⟩,_⟩ := I.tuple h
 obtain ⟨its',r',⟨o',e',_,n',d'⟩,_⟩ := I.tuple h'
 rw [e] at e'; cases e'
 rw [d] at d'
 injection d' with d1 _
 have : its = its' := by simpa using congrArg Array.toList d1
 subst this
 exact r.inj r'
end
abbrev Cx.wish (X : Cx) (E : Value -> Shared -> Prop) : Cx := { X with xe := E }
abbrev Cx.nox (X : Cx) : Cx := X.wish fun _ _ => False
theorem Cx.Ok.wish {X : Cx} (ok : X.Ok) (E : Value -> Shared -> Prop) : (X.wish E).Ok :=
 ⟨ok.mod,ok.kind,ok.glob,ok.blt,ok.above,ok.inj,ok.has,ok.cab,ok.hd,ok.frames,ok.stk,ok.exf,ok.bs,ok.bsz,ok.noex,ok.exfs,ok.funs,ok.frf⟩
theorem Cx.Ok.unwish {X : Cx} {E : Value -> Shared -> Prop} (ok : (X.wish E).Ok) : X.Ok :=
 ⟨ok.mod,ok.kind,ok.glob,ok.blt,ok.above,ok.inj,ok.has,ok.cab,ok.hd,ok.frames,ok.stk,ok.exf,ok.bs,ok.bsz,ok.noex,ok.exfs,ok.funs,ok.frf⟩
section
variable {X : Cx} {pins : List (Addr × Obj)} {σ : St} {H : Hp} {s : Shared} {E : Value -> Shared -> Prop}
theorem Inv.wish (I : Inv X pins σ H s) (E : Value -> Shared -> Prop) : Inv (X.wish E) pins σ H s := ⟨I.ok.wish E,I.os,I.bare,I.base,I.loc,I.cell,I.free,I.freeC,I.pin,I.hok,I.len⟩
theorem Inv.unwish (I : Inv (X.wish E) pins σ H s) : Inv X pins σ H s := ⟨I.ok.unwish,I.os,I.bare,I.base,I.loc,I.cell,I.free,I.freeC,I.pin,I.hok,I.len⟩
theorem SP.unwish {D : Ends} {f : Flow} {s' : Shared} (h : SP (X.wish E) pins D f s') : SP X pins D f s' := by
 cases f with
 | next => obtain ⟨σ',H',I,q⟩ := h; exact ⟨σ',H',I.unwish,q⟩
 | brk => obtain ⟨σ',H',I,q⟩ := h; exact ⟨σ',H',I.unwish,q⟩
 | cont => obtain ⟨σ',H',I,q⟩ := h; exact ⟨σ',H',I.unwish,q⟩
 | ret u => obtain ⟨v,σ',H',I,r,q⟩ := h; exact ⟨v,σ',H',I.unwish,r,q⟩
theorem PSs.nox {st : List Stmt} {t : TS} (h : PSs X.nox st t) : PSs X st t := fun pins s σ H D I hw =>
 wpAny_mono (h pins s σ H D (I.wish _) hw) (fun _ _ q => q.unwish) fun _ _ z => False.elim z
end
section
variable {X : Cx} {st : Stmt} {rest : List Stmt} {t u : TS} {e : Expr} {te : TE} {pos : Pos}
def tNext : TS := fun D σ H => D.nx σ H
def tSeq (t u : TS) : TS := fun D σ H => t { D with nx := u D } σ H
theorem zq6 : PSs X [] tNext := fun _ _ σ H _ I h => wpAny_execs_nil ⟨σ,H,I,h⟩
theorem zo2 (h1 : PS X st t) (h2 : PSs X rest u) : PSs X (st :: rest) (tSeq t u) := by
 intro pins s σ H D I h
 refine wpAny_execs_cons (thn (h1 pins s σ H { D with nx := u D } I h) fun f s1 q => ?_)
 cases f with
 | next =>
  obtain ⟨σ',H',I',q⟩ := q
  exact h2 pins s1 σ' H' D I' q
 | ret v => exact q
 | brk => exact q
 | cont => exact q
theorem zq5 (h1 : PS X st t) : PSs X [st] t := by
 intro pins s σ H D I h
 refine wpAny_execs_cons (thn (h1 pins s σ H D I h) fun f s1 q => ?_)
 cases f with
 | next => exact wpAny_execs_nil q
 | ret v => exact q
 | brk => exact q
 | cont => exact q
theorem Inv.quiet {pins : List (Addr × Obj)} {σ : St} {H : Hp} {s : Shared} (I : Inv X pins σ H s) : interactive X.env = false := by simp [interactive,I.ok.kind]
def tDrop (te : TE) : TS := fun D σ H => te σ H fun _ H1 => D.nx σ H1
theorem zq8 (he : PE X e te) (hs : autoParam (swapsWith e none pos.line X.env = pure false) AutoP.a3._auto_1) : PS X (.Expr e pos) (tDrop te) := by
 intro pins s σ H D I h
 exact wpAny_Expr_any (thn (he pins s σ H _ I h) fun v s1 ⟨x,H1,I1,r1,q1⟩ => ⟨σ,H1,I1,q1⟩) I.quiet hs
def tRet (te : TE) : TS := fun D σ H => te σ H D.rt
theorem ps_ret (he : PE X e te) : PS X (.Return (some e) pos) (tRet te) := by
 intro pins s σ H D I h
 exact wpAny_Return_some (thn (he pins s σ H _ I h) fun v s1 ⟨x,H1,I1,r1,q1⟩ => ⟨x,σ,H1,I1,r1,q1⟩)
def tIfS (c : TT) (t u : TS) : TS := fun D σ H => c σ H fun b H1 => if b = true then t D σ H1 else u D σ H1
theorem ps_if {c : Expr} {a b : List Stmt} {tc : TT} (hc : PT X c tc) (ha : PSs X a t) (hb : PSs X b u) : PS X (.If c a b pos) (tIfS tc t u) := by
 intro pins s σ H D I h
 refine wpAny_If (thn (hc pins s σ H _ I h) fun d s1 ⟨H1,I1,q1⟩ => ?_)
 cases d with
 | true => exact ha pins s1 σ H1 D I1 q1
 | false => exact hb pins s1 σ H1 D I1 q1
def tNever : TS := fun _ _ _ => False
theorem zo4 : PS X st tNever := fun _ _ _ _ _ _ h => h.elim
end
abbrev TG := V -> St -> Hp -> (St -> Hp -> Prop) -> Prop
abbrev TGs := List V -> St -> Hp -> (St -> Hp -> Prop) -> Prop
def PG (X : Cx) (target : Expr) (t : TG) : Prop :=
 ∀ (pins : List (Addr × Obj)) (s : Shared) (σ : St) (H : Hp) (v : V) (u : Value) (Q : St -> Hp -> Prop),Inv X pins σ H s -> RelV v u -> t v σ H Q →
  wpAny (model X.prog X.w) X.A (assign target X.env u) (fun _ s' => ∃ σ' H',Inv X pins σ' H' s' /\ Q σ' H') X.xe s
def PGs (X : Cx) (ts : List Expr) (t : TGs) : Prop :=
 ∀ (pins : List (Addr × Obj)) (s : Shared) (σ : St) (H : Hp) (vs : List V) (us : List Value) (Q : St -> Hp -> Prop),Inv X pins σ H s -> Vals vs us -> t vs σ H Q →
  wpAny (model X.prog X.w) X.A (assignInOrder ((assignEach ts X.env).map (·.2)) us) (fun _ s' => ∃ σ' H',Inv X pins σ' H' s' /\ Q σ' H') X.xe s
abbrev TSet := V -> V -> V -> Hp -> (Hp -> Prop) -> Prop
def PSet (X : Cx) (t : TSet) : Prop :=
 ∀ (pins : List (Addr × Obj)) (s : Shared) (σ : St) (H : Hp) (o i v : V) (ov iv u : Value) (Q : Hp -> Prop),Inv X pins σ H s -> RelV o ov -> RelV i iv -> RelV v u -> t o i v H Q →
  wpAny (model X.prog X.w) X.A (setItem ov iv u) (fun _ s' => ∃ H',Inv X pins σ H' s' /\ Q H') X.xe s
section
variable {X : Cx} {pos : Pos}
def gName (i : Nat) : TG := fun v σ H Q => Q (σ.set i (some v)) H
theorem zrn {i : Nat} {x : Str} (hN : X.N.Nodup) (hi : X.N[i]? = some x) (hx : Loc X.env.scope x) (hf : autoParam (X.fn x = true ∨ X.env.scope.names.lookup x = some .local) AutoP.a0._auto_1) : PG X (.Name x pos) (gName i) := by
 intro pins s σ H v u Q I r h
 exact wpAny_assign_Name (zcc I hN hi hx r (fun s' I' => ⟨_,H,I',h⟩) hf)
def gNil : TGs := fun vs σ H Q => vs = [] /\ Q σ H
def gCons (t : TG) (u : TGs) : TGs := fun vs σ H Q => ∃ v r,vs = v :: r /\ t v σ H fun σ' H' => u r σ' H' Q
theorem zrm : PGs X [] gNil := by
 intro pins s σ H vs us Q I r h
 obtain ⟨e,h⟩ := h
 subst e
 cases r
 exact assignInOrder_nil ⟨σ,H,I,h⟩
theorem zo7 {e : Expr} {es : List Expr} {t : TG} {u : TGs} (h1 : PG X e t) (h2 : PGs X es u)
  (hs : autoParam ((assignEach (e :: es) X.env).map (·.2) = assign e X.env :: (assignEach es X.env).map (·.2)) AutoP.a3._auto_1) : PGs X (e :: es) (gCons t u) := by
 intro pins s σ H vs us Q I r h
 obtain ⟨v,vr,e1,h⟩ := h
 subst e1
 cases r with
 | cons r rr =>
  rw [hs]
  refine assignInOrder_cons (thn (h1 pins s σ H _ _ _ I r h) fun _ s1 ⟨σ1,H1,I1,q1⟩ => ?_)
  exact h2 pins s1 σ1 H1 _ _ Q I1 rr q1
def zbG (K : PySem.W.Frag) (n : Nat) (t : TGs) : TG := fun v σ H Q => ∃ a xs,v = .ref a /\ SqT K H a xs /\ xs.length = n /\ t xs σ H Q
theorem pg_tup {es : List Expr} {k : Nat} {t : TGs} {n : Nat} (hc : X.calm = true) (h : PGs X es t)
  (hn : autoParam ((assignEach es X.env).length = n) AutoP.a3._auto_1) (hst : autoParam ((assignEach es X.env).findIdx? (·.1) = none) AutoP.a3._auto_1) : PG X (.Tuple es k pos) (zbG X.K n t) := by
 intro pins s σ H v u Q I r hw
 obtain ⟨a,xs,e1,hq,hl,hw⟩ := hw
 subst e1
 cases r
 obtain ⟨its,rv,ht,hz⟩ := I.tuple hq
 refine assign_Tuple_tuple (I.ok.hd hc) ht (by simp [hn,<- hl,rv.length]) hst fun h' hx => ?_
 have I1 : Inv X pins σ H { s with heap := h' } := I.kept (t' := s.toks) fun b o e => hx b o (Nat.ne_of_lt (Heap.lt_size e)) e
 exact h pins _ σ H xs _ Q I1 (by simpa using rv) hw
def gSub (to ti : TE) (t : TSet) : TG := fun v σ H Q => to σ H fun o H1 => ti σ H1 fun i H2 => t o i v H2 fun H3 => Q σ H3
theorem pg_sub {o i : Expr} {to ti : TE} {t : TSet} (ho : PE X o to) (hi : PE X i ti) (hs : PSet X t)
  (ha : autoParam (∀ v,assign (.Subscript o i pos) X.env v = (do
   let ov <- holding [v] (eval o X.env)
   let iv <- holding [v,ov] (eval i X.env)
   standAt pos
   holding [v,ov,iv] (setItem ov iv v)
   release [v,ov,iv] [])) AutoP.a2._auto_1) : PG X (.Subscript o i pos) (gSub to ti t) := by
 intro pins s σ H v u Q I r h
 rw [ha]
 refine wpAny_bind (wpAny_holding (thn (ho pins s σ H _ I h) fun ov s1 ⟨x,H1,I1,r1,q1⟩ => ?_))
 refine wpAny_bind (wpAny_holding (thn (hi pins s1 σ H1 _ I1 q1) fun iv s2 ⟨y,H2,I2,r2,q2⟩ => ?_))
 refine wpAny_bind (wpAny_standAt (wpAny_bind (wpAny_holding (thn (hs pins s2 σ H2 x y v ov iv u _ I2 r1 r2 r q2) fun _ s3 ⟨H3,I3,q3⟩ => ?_))))
 exact wpAny_release ⟨σ,H3,I3,q3⟩
def tAsg (te : TE) (g : TG) : TS := fun D σ H => te σ H fun x H1 => g x σ H1 D.nx
theorem ps_asg {tg e : Expr} {te : TE} {g : TG} (he : PE X e te) (hg : PG X tg g) (hs : autoParam (swapsWithSole [tg] e pos.line X.env = pure false) AutoP.a3._auto_1) (hw : autoParam (swappedStores [tg] e X.env = pure none) AutoP.a3._auto_1)
  (h1 : autoParam ((assignEach [tg] X.env).map (·.2) = [assign tg X.env]) AutoP.a3._auto_1) : PS X (.Assign [tg] e pos) (tAsg te g) := by
 intro pins s σ H D I h
 refine wpAny_Assign_stores (thn (he pins s σ H _ I h) fun v s1 ⟨x,H1,I1,r1,q1⟩ => ?_) hs hw
 rw [h1]
 exact thn (hg pins s1 σ H1 x v _ I1 r1 q1) fun _ s2 q => q
theorem ps_set {i : Nat} {x : Str} {e : Expr} {te : TE} {pos' : Pos} (hN : X.N.Nodup) (hi : X.N[i]? = some x) (hx : Loc X.env.scope x) (he : PE X e te) (hs : autoParam (swapsWith e (some (.Name x pos')) pos.line X.env = pure false) AutoP.a3._auto_1) (hf : autoParam (X.fn x = true ∨ X.env.scope.names.lookup x = some .local) AutoP.a0._auto_1) :
  PS X (.Assign [.Name x pos'] e pos) (tAsg te (gName i)) := by
 intro pins s σ H D I h
 refine wpAny_Assign_Name (thn (he pins s σ H _ I h) fun v s1 ⟨y,H1,I1,r1,q1⟩ => ?_) hs
 exact zcc I1 hN hi hx r1 (fun s2 I2 => ⟨_,H1,I2,q1⟩) hf
def tPar (i j : Nat) (ta : TA) : TS := fun D σ H => ta σ H fun vs H1 => ∃ v w,vs = [v,w] /\ D.nx ((σ.set i (some v)).set j (some w)) H1
theorem ps_par {i j : Nat} {x y : Str} {a b : Expr} {ta : TA} {px py pt : Pos} {kt k2 pt2} (hc : X.calm = true) (hN : X.N.Nodup) (hi : X.N[i]? = some x) (hj : X.N[j]? = some y) (hij : i ≠ j)
  (hx : X.env.scope.names.lookup x = some .local) (hy : X.env.scope.names.lookup y = some .local) (ha : PA X [a,b] ta)
  (hw : swappedStores [.Tuple [.Name x px,.Name y py] kt pt] (.Tuple [a,b] k2 pt2) X.env = pure (some [x,y]))
  (hs : autoParam (swapsWithSole [.Tuple [.Name x px,.Name y py] kt pt] (.Tuple [a,b] k2 pt2) pos.line X.env = pure false) AutoP.a3._auto_1) :
  PS X (.Assign [.Tuple [.Name x px,.Name y py] kt pt] (.Tuple [a,b] k2 pt2) pos) (tPar i j ta) := by
 intro pins s σ H D I h
 rw [exec_Assign_arm]
 refine wpAny_bind (wpAny_standAt ?_)
 rw [hs]
 refine wpAny_bind (wpAny_pure ?_)
 rw [if_neg (by decide)]
 refine wpAny_bind (Tuple_ (thn (ha _ pins s σ H _ I h) fun us s1 ⟨vs,H1,I1,r1,q1⟩ => ?_))
 obtain ⟨v,w,e1,q1⟩ := q1
 subst e1
 obtain ⟨u1,u2,rfl,rv,rw'⟩ : ∃ u1 u2,us = [u1,u2] /\ RelV v u1 /\ RelV w u2 := by
  cases r1 with
  | cons p q =>
   cases q with
   | cons p' q' =>
    cases q'
    exact ⟨_,_,rfl,p,p'⟩
 refine wpAny_newObj_type ?_ (by show 2 <= sizeLine; decide)
 have I2 : Inv X pins σ H1 { s1 with heap := s1.heap.push { cls := .type "tuple", data := .seq [u1,u2].toArray } } := I1.kept (t' := s1.toks) fun b o e => Heap.get?_push_of_some _ e
 rw [hw]
 refine wpAny_bind (wpAny_pure ?_)
 show wpAny (model X.prog X.w) X.A (do rule "assign.swapped-stores"; let items <- unpackItems (.ref s1.heap.objs.size) 2 none; assignInOrder [fun v => bindName X.env y v,fun v => bindName X.env x v] items.reverse; pure Flow.next) _ _ _
 refine wpAny_bind (wpAny_rule (wpAny_bind (unpackItems_tuple (items := #[u1,u2]) (I.ok.hd hc) (IsTup.new s1.heap _) fun h' hx' => ?_)))
 have I3 := I2.kept (h' := h') (t' := s1.toks) fun b o e => hx' b o (Nat.ne_of_lt (Heap.lt_size e)) e
 show wpAny _ _ (assignInOrder [fun v => bindName X.env y v,fun v => bindName X.env x v] [u2,u1] >>= fun _ => pure Flow.next) _ _ _
 refine wpAny_bind (assignInOrder_cons (wpAny_bindName (zcc I3 hN hj (.inl hy) rw' (fun s2 I4 => ?_) (.inr hy))))
 refine assignInOrder_cons (wpAny_bindName (zcc I4 hN hi (.inl hx) rv (fun s3 I5 => assignInOrder_nil (wpAny_pure ?_)) (.inr hx)))
 rw [List.set_comm _ _ (Ne.symm hij)] at I5
 exact ⟨_,H1,I5,q1⟩
end
section
variable {X : Cx} {pos : Pos}
def tWhile (c : TT) (tb : TS) : TS := fun D σ H => ∃ W : Nat -> St -> Hp -> Prop,(∃ m,W m σ H) /\ ∀ m σ H,W m σ H →
 c σ H fun b H1 => if b = true then ∃ N : St -> Hp -> Prop,(∀ σ' H',N σ' H' -> ∃ m',m' < m /\ W m' σ' H') /\ tb { D with nx := N,ct := N,bk := D.nx } σ H1 else D.nx σ H1
theorem zo3 {c : Expr} {body : List Stmt} {tc : TT} {tb : TS} (hp : PassesOwn (model X.prog X.w) X.A X.env X.xe) (hc : PT X c tc) (hb : PSs X body tb) : PS X (.While c body [] pos) (tWhile tc tb) := by
 intro pins s σ H D I h
 obtain ⟨W,⟨m0,w0⟩,turn⟩ := h
 refine wpAny_While (codeAny_whileLoop (fun n s' => ∃ σ' H',Inv X pins σ' H' s' /\ W n σ' H') ?_ m0 ⟨σ,H,I,w0⟩)
 rintro n s1 ⟨σ1,H1,I1,w1⟩
 refine wpAny_passesOwn hp (thn (hc pins s1 σ1 H1 _ I1 (turn n σ1 H1 w1)) fun b s2 ⟨H2,I2,q2⟩ => ?_)
 cases b with
 | true =>
  obtain ⟨N,hN,q2⟩ := q2
  rw [if_pos rfl]
  refine wpAny_passesOwn hp (thn (hb pins s2 σ1 H2 _ I2 q2) fun f s3 q3 => ?_)
  cases f with
  | next =>
   obtain ⟨σ3,H3,I3,n3⟩ := q3
   obtain ⟨m',hm,w3⟩ := hN σ3 H3 n3
   exact ⟨m',hm,σ3,H3,I3,w3⟩
  | cont =>
   obtain ⟨σ3,H3,I3,n3⟩ := q3
   obtain ⟨m',hm,w3⟩ := hN σ3 H3 n3
   exact ⟨m',hm,σ3,H3,I3,w3⟩
  | brk => exact q3
  | ret v => exact q3
 | false =>
  rw [if_neg Bool.false_ne_true]
  exact wpAny_execs_nil ⟨σ1,H2,I2,q2⟩
end
structure It where
 go : Nat -> Hp -> Prop
 yld : Nat -> Hp -> V -> Hp -> Prop
 stop : Nat -> Hp -> Prop
def zd8 (X : Cx) (pins : List (Addr × Obj)) (H : Hp) (b : Addr) : Prop :=
 H b = none /\ b ≠ X.env.locals /\ b ∉ X.fs /\ (b ∈ X.ex ∨ X.s₀.heap.objs.size <= b) /\ (∀ x c,X.env.cells.lookup x = some c -> c ≠ b) /\ ∀ p ∈ X.pn ++ pins,p.1 ≠ b
theorem Inv.fpOk {X : Cx} {pins : List (Addr × Obj)} {σ : St} {H H' : Hp} {s : Shared} {b : Addr} (I : Inv X pins σ H s) (hb : s.heap.objs.size <= b) (hn : H' b = none) : zd8 X pins H' b := by
 refine ⟨hn,Nat.ne_of_gt (Nat.lt_of_lt_of_le I.lt hb),I.nofs hb,.inr (Nat.le_trans I.sz hb),fun x c e z => ?_,fun p hp z => ?_⟩
 ·obtain ⟨v,q⟩ := I.cell x c e
  exact absurd (Nat.lt_of_lt_of_le q.lt (by rw [z]; exact hb)) (Nat.lt_irrefl _)
 ·exact absurd (Nat.lt_of_lt_of_le (Heap.lt_size (I.pin p hp).1) (by rw [z]; exact hb)) (Nat.lt_irrefl _)
structure Turn (P : Program) (w : World) (K : PySem.W.Frag) (tg : Expr) (J : It) (fp : List Addr) (it : Addr) (tn : Nat -> Heap -> Prop) : Prop where
 mem : it ∈ fp
 obj : ∀ i h,tn i h -> ∀ b ∈ fp,∃ o,h.get? b = some o /\ ∀ v,o.data ≠ .cell v
 keep : ∀ i h h',tn i h -> (∀ b ∈ fp,∀ o,h.get? b = some o -> h'.get? b = some o) -> tn i h'
 item : ∀ (X : Cx),X.prog = P -> X.w = w -> X.K = K -> X.calm = true -> ∀ (i : Nat) (pins : List (Addr × Obj)) (s : Shared) (σ : St) (H : Hp) (E : Value -> Shared -> Prop),Inv X pins σ H s -> (∀ b ∈ fp,zd8 X pins H b) -> tn i s.heap -> J.go i H →
  wpAny (model P w) X.A (pyNext (.ref it)) (fun r s1 => ∃ u,r = some u ∧
   wpAny (model P w) X.A (letOwnedTupleGo tg (.ref it) u) (fun _ s2 => ∃ x H',Inv X pins σ H' s2 /\ RelV x u /\ J.yld i H x H' /\ tn (i + 1) s2.heap /\ ∀ b ∈ fp,H' b = none) E s1) E s
 done : ∀ (X : Cx),X.prog = P -> X.w = w -> X.K = K -> X.calm = true -> ∀ (i : Nat) (pins : List (Addr × Obj)) (s : Shared) (σ : St) (H : Hp) (E : Value -> Shared -> Prop),Inv X pins σ H s -> (∀ b ∈ fp,zd8 X pins H b) -> tn i s.heap -> J.stop i H →
  wpAny (model P w) X.A (pyNext (.ref it)) (fun r s1 => r = none /\ Inv X pins σ H s1) E s
 self : ∀ (A : Around) (i : Nat) (s : Shared) (Q : Value -> Shared -> Prop) (E : Value -> Shared -> Prop),tn i s.heap -> Q (.ref it) s -> wpAny (model P w) A (pyIter (.ref it)) Q E s
abbrev TI := St -> Hp -> (It -> Hp -> Prop) -> Prop
def PIE (X : Cx) (pins : List (Addr × Obj)) (σ : St) (tg : Expr) (R : It -> Hp -> Prop) (itv : Value) (s2 : Shared) : Prop :=
 ∃ (it : Addr) (fp : List Addr) (tn : Nat -> Heap -> Prop) (J : It) (H' : Hp),itv = .ref it /\ Inv X pins σ H' s2 /\ Turn X.prog X.w X.K tg J fp it tn /\ tn 0 s2.heap /\ (∀ b ∈ fp,zd8 X pins H' b) /\ R J H'
def PI (X : Cx) (tg iter : Expr) (wi : TI) : Prop :=
 ∀ (pins : List (Addr × Obj)) (s : Shared) (σ : St) (H : Hp) (R : It -> Hp -> Prop),Inv X pins σ H s -> wi σ H R →
  wpAny (model X.prog X.w) X.A (eval iter X.env) (fun v s1 => wpAny (model X.prog X.w) X.A (pyIter v) (PIE X pins σ tg R) X.xe s1) X.xe s
theorem znT {M : Model} {A : Around} {E : Value -> Shared -> Prop} {s : Shared} {tg : Expr} {it : Addr} {u : Value} {o : Obj} {n : String} {vs : Array Value} {Q : Unit -> Shared -> Prop} (ho : s.heap.get? it = some o) (hc : o.cls = .type n) (hd : o.data = .fields vs)
    (hn : ["enumerate", "zip", "dict_itemiterator", "dict_reverseitemiterator", "odict_iterator", "itertools.zip_longest", "itertools.pairwise"].contains n = false) (hQ : Q () s) : wpAny M A (letOwnedTupleGo tg (.ref it) u) Q E s := by
  unfold letOwnedTupleGo
  cases tg <;> first
    | exact wpAny_pure hQ
    | (cases u <;> first
        | exact wpAny_pure hQ
        | (refine wpAny_bind (wpAny_load ho ?_)
           rw [hc,hd]
           show wpAny M A (if (["enumerate", "zip", "dict_itemiterator", "dict_reverseitemiterator", "odict_iterator", "itertools.zip_longest", "itertools.pairwise"].contains n && vs[0]? == some (rawInt _)) = true then _ else _) Q E s
           rw [if_neg (by intro h; rw [hn,Bool.false_and] at h; cases h)]
           exact wpAny_pure hQ))
def Itl (K : PySem.W.Frag) (a : Addr) : It :=
 ⟨fun i H => ∃ xs x,SqL K H a xs /\ xs[i]? = some x,fun i H x H' => H' = H /\ ∀ xs,SqL K H a xs -> xs[i]? = some x,fun i H => ∃ xs,SqL K H a xs /\ xs.length <= i⟩
def Itt (K : PySem.W.Frag) (a : Addr) : It :=
 ⟨fun i H => ∃ xs x,SqT K H a xs /\ xs[i]? = some x,fun i H x H' => H' = H /\ ∀ xs,SqT K H a xs -> xs[i]? = some x,fun i H => ∃ xs,SqT K H a xs /\ xs.length <= i⟩
def Itr (lo : Int) (n : Nat) : It := ⟨fun i _ => i < n,fun i H x H' => H' = H /\ x = .int (lo + i),fun i _ => n <= i⟩
theorem zmd {P : Program} {w : World} {K : PySem.W.Frag} {tg : Expr} (a it : Addr) : Turn P w K tg (Itl K a) [it] it (fun i h => h.IsListIter it a i) where
 mem := by simp
 obj := fun i h st b hb => by
  have e : b = it := by simpa using hb
  subst e
  obtain ⟨o,e,c,d⟩ := st
  exact ⟨o,e,fun v z => by rw [d] at z; cases z⟩
 keep := fun i h h' st k => st.at fun o e => k it (by simp) o e
 item := by
  intro X hP hw hK hc i pins s σ H E I hf st hg
  subst hP hw hK
  obtain ⟨xs,x,hq,hx⟩ := hg
  obtain ⟨its,rv,p,hz⟩ := I.list hq
  obtain ⟨u,hu,ru⟩ := rv.get hx
  obtain ⟨f0,f1,f2,f3,f4,f5⟩ := hf it (by simp)
  refine wpAny_pyNext_list_item st p.isList (x := u) (by simpa using hu) fun h' st' sb => ?_
  have I1 : Inv X pins σ H { s with heap := h' } := I.turned (t' := s.toks) (fun b o hb e => (sb.2 b hb).trans e) f0 f1 f3 f4 f5
  obtain ⟨o,e,c,d⟩ := id st'
  exact ⟨u,rfl,znT (s := { s with heap := h' }) e c d (by decide) ⟨x,H,I1,ru,⟨rfl,fun ys hy => by rw [I.list_inj hy hq]; exact hx⟩,st',fun b hb => (hf b hb).1⟩⟩
 done := by
  intro X hP hw hK hc i pins s σ H E I hf st hg
  subst hP hw hK
  obtain ⟨xs,hq,hx⟩ := hg
  obtain ⟨its,rv,p,hz⟩ := I.list hq
  obtain ⟨f0,f1,f2,f3,f4,f5⟩ := hf it (by simp)
  have hl := rv.length
  exact wpAny_pyNext_list_end (I.ok.hd hc) st p.isList (by simp; omega) fun h' eb => ⟨rfl,I.turned (t' := s.toks) (fun b o hb e => eb b o hb e) f0 f1 f3 f4 f5⟩
 self := fun _ _ _ _ _ st h => wpAny_pyIter_listiter st h
theorem zla {P : Program} {w : World} {K : PySem.W.Frag} {tg : Expr} (a it : Addr) : Turn P w K tg (Itt K a) [it] it (fun i h => h.IsTupleIter it a i) where
 mem := by simp
 obj := fun i h st b hb => by
  have e : b = it := by simpa using hb
  subst e
  obtain ⟨o,e,c,d⟩ := st
  exact ⟨o,e,fun v z => by rw [d] at z; cases z⟩
 keep := fun i h h' st k => st.at fun o e => k it (by simp) o e
 item := by
  intro X hP hw hK hc i pins s σ H E I hf st hg
  subst hP hw hK
  obtain ⟨xs,x,hq,hx⟩ := hg
  obtain ⟨its,rv,p,hz⟩ := I.tuple hq
  obtain ⟨u,hu,ru⟩ := rv.get hx
  obtain ⟨f0,f1,f2,f3,f4,f5⟩ := hf it (by simp)
  refine wpAny_pyNext_tuple_item st (show s.heap.IsTuple a its.toArray from p) (x := u) (by simpa using hu) fun h' st' sb => ?_
  have I1 : Inv X pins σ H { s with heap := h' } := I.turned (t' := s.toks) (fun b o hb e => (sb.2 b hb).trans e) f0 f1 f3 f4 f5
  obtain ⟨o,e,c,d⟩ := id st'
  exact ⟨u,rfl,znT (s := { s with heap := h' }) e c d (by decide) ⟨x,H,I1,ru,⟨rfl,fun ys hy => by rw [I.tuple_inj hy hq]; exact hx⟩,st',fun b hb => (hf b hb).1⟩⟩
 done := by
  intro X hP hw hK hc i pins s σ H E I hf st hg
  subst hP hw hK
  obtain ⟨xs,hq,hx⟩ := hg
  obtain ⟨its,rv,p,hz⟩ := I.tuple hq
  obtain ⟨f0,f1,f2,f3,f4,f5⟩ := hf it (by simp)
  have hl := rv.length
  exact wpAny_pyNext_tuple_end (I.ok.hd hc) st (show s.heap.IsTuple a its.toArray from p) (by simp; omega) fun h' eb => ⟨rfl,I.turned (t' := s.toks) (fun b o hb e => eb b o hb e) f0 f1 f3 f4 f5⟩
 self := fun _ _ _ _ _ st h => wpAny_pyIter_tupleiter st h
theorem zlb {P : Program} {w : World} {K : PySem.W.Frag} {tg : Expr} (it : Addr) (lo : Int) (n : Nat) : Turn P w K tg (Itr lo n) [it] it (fun i h => IsRangeIter h it (lo + (i : Nat) * 1) ((n : Int) - (i : Nat)) 1) where
 mem := by simp
 obj := fun i h st b hb => by
  have e : b = it := by simpa using hb
  subst e
  exact ⟨_,st,fun v z => by
   have z' : Data.fields _ = Data.cell v := z
   cases z'⟩
 keep := fun i h h' st k => k it (by simp) _ st
 item := by
  intro X hP hw hK hc i pins s σ H E I hf st hg
  subst hP hw hK
  obtain ⟨f0,f1,f2,f3,f4,f5⟩ := hf it (by simp)
  have W := Walks.range (prog := X.prog) (w := X.w) (I.ok.hd hc) it lo 1 n
  refine W.item i s _ _ hg st fun v h' tk hv st' kk => ?_
  obtain ⟨t,rfl⟩ := hv
  have I1 : Inv X pins σ H { s with heap := h',toks := tk } := I.turned (fun b o hb e => kk b o (by simpa using hb) e) f0 f1 f3 f4 f5
  refine ⟨_,rfl,znT (s := { s with heap := h',toks := tk }) (n := "range_iterator") st' rfl rfl (by decide) ⟨.int (lo + i),H,I1,⟨t,?_⟩,⟨rfl,rfl⟩,st',fun b hb => (hf b hb).1⟩⟩
  rw [Int.mul_one]
 done := by
  intro X hP hw hK hc i pins s σ H E I hf st hg
  subst hP hw hK
  obtain ⟨f0,f1,f2,f3,f4,f5⟩ := hf it (by simp)
  exact wpAny_pyNext_range_end (I.ok.hd hc) st (by have : n <= i := hg; omega) fun h' eb => ⟨rfl,I.turned (t' := s.toks) (fun b o hb e => eb b o hb e) f0 f1 f3 f4 f5⟩
 self := fun _ _ _ _ _ st h => wpAny_pyIter_rangeiter st h
section
variable {X : Cx} {tg : Expr}
def iList (K : PySem.W.Frag) (tl : TE) : TI := fun σ H R => tl σ H fun x H1 => ∃ a,x = .ref a /\ (∃ xs,SqL K H1 a xs) /\ R (Itl K a) H1
def iTup (K : PySem.W.Frag) (tl : TE) : TI := fun σ H R => tl σ H fun x H1 => ∃ a,x = .ref a /\ (∃ xs,SqT K H1 a xs) /\ R (Itt K a) H1
theorem zrk {l : Expr} {tl : TE} (hl : PE X l tl) : PI X tg l (iList X.K tl) := by
 intro pins s σ H R I h
 refine thn (hl pins s σ H _ I h) fun v s1 ⟨x,H1,I1,r1,q1⟩ => ?_
 obtain ⟨a,e,⟨xs,hq⟩,q⟩ := q1
 subst e
 cases r1
 obtain ⟨its,rv,p,hz⟩ := I1.list hq
 refine wpAny_pyIter_list p.isList ?_
 refine ⟨s1.heap.objs.size,[s1.heap.objs.size],_,_,H1,rfl,I1.kept (t' := s1.toks) fun b o e => Heap.get?_push_of_some _ e,zmd a _,⟨_,Heap.get?_push_size _ rfl,rfl,rfl⟩,fun b hb => ?_,q⟩
 have e : b = s1.heap.objs.size := by simpa using hb
 subst e
 exact I1.fpOk (Nat.le_refl _) (I1.hok.fresh (Nat.le_refl _))
theorem pi_tup {l : Expr} {tl : TE} (hl : PE X l tl) : PI X tg l (iTup X.K tl) := by
 intro pins s σ H R I h
 refine thn (hl pins s σ H _ I h) fun v s1 ⟨x,H1,I1,r1,q1⟩ => ?_
 obtain ⟨a,e,⟨xs,hq⟩,q⟩ := q1
 subst e
 cases r1
 obtain ⟨its,rv,p,hz⟩ := I1.tuple hq
 refine wpAny_pyIter_tuple (show s1.heap.IsTuple a its.toArray from p) ?_
 refine ⟨s1.heap.objs.size,[s1.heap.objs.size],_,_,H1,rfl,I1.kept (t' := s1.toks) fun b o e => Heap.get?_push_of_some _ e,zla a _,⟨_,Heap.get?_push_size _ rfl,rfl,rfl⟩,fun b hb => ?_,q⟩
 have e : b = s1.heap.objs.size := by simpa using hb
 subst e
 exact I1.fpOk (Nat.le_refl _) (I1.hok.fresh (Nat.le_refl _))
theorem zoY {pins : List (Addr × Obj)} {σ : St} {H : Hp} {s : Shared} {R : It -> Hp -> Prop} {E : Value -> Shared -> Prop} {lo hi : Int} {t u v : Tok} {tk : Nat} (I : Inv X pins σ H s) (h1 : -(2 ^ 62) <= lo) (h2 : lo < 2 ^ 62) (h3 : -(2 ^ 62) <= hi) (h4 : hi < 2 ^ 62)
  (q : R (Itr lo (hi - lo).toNat) H) : wpAny (model X.prog X.w) X.A (pyIter (.ref s.heap.objs.size)) (PIE X pins σ tg R) E { s with heap := s.heap.push { cls := .type "range", data := .fields #[.int lo t,.int hi u,.int 1 v] },toks := tk } := by
 refine wpAny_pyIter_range (IsRange.new ..) (small_one h1 h2 h3 h4) ?_
 have I1 : Inv X pins σ H { s with heap := s.heap.push { cls := .type "range", data := .fields #[.int lo t,.int hi u,.int 1 v] },toks := tk } := I.kept fun b o e => Heap.get?_push_of_some _ e
 refine ⟨(s.heap.push { cls := .type "range", data := .fields #[.int lo t,.int hi u,.int 1 v] }).objs.size,[(s.heap.push { cls := .type "range", data := .fields #[.int lo t,.int hi u,.int 1 v] }).objs.size],_,_,H,rfl,
  I1.kept (t' := tk) fun b o e => Heap.get?_push_of_some _ e,zlb _ lo (hi - lo).toNat,?_,fun b hb => ?_,q⟩
 ·have e1 : lo + ((0 : Nat) : Int) * 1 = lo := by simp
  have e2 : (((hi - lo).toNat : Nat) : Int) - ((0 : Nat) : Int) = Builtin.Range.rangeSize lo hi 1 := by rw [rangeSize_one]; split <;> omega
  show IsRangeIter _ _ (lo + ((0 : Nat) : Int) * 1) ((((hi - lo).toNat : Nat) : Int) - ((0 : Nat) : Int)) 1
  rw [e1,e2]
  exact Heap.get?_push_size _ rfl
 ·have e : b = (s.heap.push { cls := .type "range", data := .fields #[.int lo t,.int hi u,.int 1 v] }).objs.size := by simpa using hb
  subst e
  exact I1.fpOk (Nat.le_refl _) (I1.hok.fresh (Nat.le_refl _))
def iRng1 (ta : TA) : TI := fun σ H R => ta σ H fun vs H1 => ∃ j : Int,vs = [.int j] /\ -(2 ^ 62) <= j /\ j < 2 ^ 62 /\ R (Itr 0 j.toNat) H1
theorem zmO {a : Expr} {ta : TA} {p pos : Pos} (hg : Gl X "range") (hm : X.mg "range" = none) (ha : PA X [a] ta) (hs : autoParam (starEach [a] X.env = [(false,eval a X.env)]) AutoP.a3._auto_1) : PI X tg (.Call (.Name "range" p) [a] [] pos) (iRng1 ta) := by
 intro pins s σ H R I h
 refine Call_ (zdW I hg hm boot_range (PyProof.Rows.callWith_type1 (thn (ha pos pins s σ H _ I h) fun us s1 ⟨vs,H1,I1,r1,q1⟩ => ?_) hs rfl))
 obtain ⟨j,e,q1,q2,q⟩ := q1
 subst e
 cases r1 with
 | cons r rr =>
  cases rr
  obtain ⟨t,rfl⟩ := r
  exact call_range_1 (zoY I1 (by omega) (by omega) q1 q2 (by simpa using q))
def tFor (wi : TI) (g : TG) (tb : TS) : TS := fun D σ H => wi σ H fun J H1 => ∃ W : Nat -> Nat -> St -> Hp -> Prop,(∃ m,W 0 m σ H1) /\ ∀ i m σ H,W i m σ H →
 (J.stop i H /\ D.nx σ H) ∨ (J.go i H /\ ∃ N : St -> Hp -> Prop,(∀ σ' H',N σ' H' -> ∃ m',m' < m /\ W (i + 1) m' σ' H') /\ ∀ x H',J.yld i H x H' -> g x σ H' fun σ2 H2 => tb { D with nx := N,ct := N,bk := D.nx } σ2 H2)
def zbK (fp : List Addr) (h : Heap) : List (Addr × Obj) := fp.filterMap fun b => (h.get? b).map fun o => (b,o)
theorem zbF {fp : List Addr} {h : Heap} {b : Addr} {o : Obj} (hb : b ∈ fp) (e : h.get? b = some o) : (b,o) ∈ zbK fp h := List.mem_filterMap.mpr ⟨b,hb,by rw [e]; rfl⟩
theorem zfC {fp : List Addr} {h : Heap} {p : Addr × Obj} (hp : p ∈ zbK fp h) : p.1 ∈ fp /\ h.get? p.1 = some p.2 := by
 obtain ⟨b,hb,e⟩ := List.mem_filterMap.mp hp
 cases q : h.get? b with
 | none => rw [q] at e; cases e
 | some o =>
  rw [q] at e
  have e' : (b,o) = p := Option.some.inj e
  subst e'
  exact ⟨hb,q⟩
theorem Inv.pinned {pins : List (Addr × Obj)} {σ : St} {H : Hp} {s : Shared} {fp : List Addr} (I : Inv X pins σ H s) (hf : ∀ b ∈ fp,zd8 X pins H b) (ho : ∀ b ∈ fp,∃ o,s.heap.get? b = some o /\ ∀ v,o.data ≠ .cell v) : Inv X (pins ++ zbK fp s.heap) σ H s :=
 I.pins_of fun p hp => (List.mem_append.mp hp).elim (fun z => I.pin p (List.mem_append_right _ z)) fun z => by
  obtain ⟨hb,e⟩ := zfC z
  obtain ⟨f0,f1,f2,_⟩ := hf p.1 hb
  obtain ⟨o,e',d⟩ := ho p.1 hb
  rw [e] at e'; cases e'
  exact ⟨e,f0,f1,f2,d⟩
theorem Inv.unpinned {pins pl : List (Addr × Obj)} {σ : St} {H : Hp} {s : Shared} (I : Inv X (pins ++ pl) σ H s) : Inv X pins σ H s := I.pins_of fun p hp => I.pin p (List.mem_append_right _ (List.mem_append_left _ hp))
theorem ps_for {iter : Expr} {body : List Stmt} {wi : TI} {g : TG} {tb : TS} {pos : Pos} (hp : PassesOwn (model X.prog X.w) X.A X.env X.xe) (hc : X.calm = true) (hi : PI X tg iter wi) (hg : PG X tg g) (hb : PSs X body tb)
  (hs : autoParam (∀ x,foldedSetIterable iter X.env x = pure x) AutoP.a2._auto_1) : PS X (.For tg iter body [] pos) (tFor wi g tb) := by
 intro pins s σ H D I h
 refine wpAny_For (thn (hi pins s σ H _ I h) fun v s1 h1 => thn h1 fun itv s2 h2 => ?_) hs
 obtain ⟨it,fp,tn,J,H2,e,I2,T,st2,f2,W,⟨m0,w0⟩,turn⟩ := h2
 subst e
 have stat : ∀ {H' : Hp},(∀ b ∈ fp,H' b = none) -> ∀ b ∈ fp,zd8 X pins H' b := fun hn b hb => ⟨hn b hb,(f2 b hb).2⟩
 refine codeAny_forLoop_any (fun n s' => ∃ i σ' H',Inv X pins σ' H' s' /\ tn i s'.heap /\ (∀ b ∈ fp,H' b = none) /\ W i n σ' H') ?_ m0 ⟨0,σ,H2,I2,st2,fun b hb => (f2 b hb).1,w0⟩
 rintro n s3 ⟨i,σ3,H3,I3,st3,fr3,w3⟩
 rcases turn i n σ3 H3 w3 with ⟨stop,qn⟩ | ⟨go,N,hN,step⟩
 ·refine wpAny_passesOwn hp (thn (T.done X rfl rfl rfl hc i pins s3 σ3 H3 X.xe I3 (stat fr3) st3 stop) fun r s4 ⟨hr,I4⟩ => ?_)
  subst hr
  exact wpAny_execs_nil ⟨σ3,H3,I4,qn⟩
 ·refine wpAny_passesOwn hp (thn (T.item X rfl rfl rfl hc i pins s3 σ3 H3 X.xe I3 (stat fr3) st3 go) fun r s4 ⟨u,hr,h4⟩ => ?_)
  subst hr
  refine wpAny_passesOwn hp (thn h4 fun _ s5 ⟨x,H5,I5,r5,y5,st5,fr5⟩ => ?_)
  have I5' := I5.pinned (stat fr5) (T.obj _ _ st5)
  refine wpAny_passesOwn hp (thn (hg _ s5 σ3 H5 x u _ I5' r5 (step x H5 y5)) fun _ s6 ⟨σ6,H6,I6,q6⟩ => ?_)
  refine wpAny_passesOwn hp (thn (hb _ s6 σ6 H6 _ I6 q6) fun f s7 q7 => ?_)
  have again : ∀ {σ7 : St} {H7 : Hp},Inv X (pins ++ zbK fp s5.heap) σ7 H7 s7 -> N σ7 H7 -> ∃ m,m < n /\ ∃ i σ' H',Inv X pins σ' H' s7 /\ tn i s7.heap /\ (∀ b ∈ fp,H' b = none) /\ W i m σ' H' := fun {σ7 H7} I7 n7 => by
   obtain ⟨m',hm,w7⟩ := hN σ7 H7 n7
   refine ⟨m',hm,i + 1,σ7,H7,I7.unpinned,T.keep _ _ _ st5 fun b hb o e => (I7.pin (b,o) (List.mem_append_right _ (List.mem_append_right _ (zbF hb e)))).1,fun b hb => ?_,w7⟩
   obtain ⟨o,e,d⟩ := T.obj _ _ st5 b hb
   exact (I7.pin (b,o) (List.mem_append_right _ (List.mem_append_right _ (zbF hb e)))).2.1
  cases f with
  | next => obtain ⟨σ7,H7,I7,n7⟩ := q7; exact again I7 n7
  | cont => obtain ⟨σ7,H7,I7,n7⟩ := q7; exact again I7 n7
  | brk => obtain ⟨σ7,H7,I7,q7⟩ := q7; exact ⟨σ7,H7,I7.unpinned,q7⟩
  | ret v => obtain ⟨x7,σ7,H7,I7,r7,q7⟩ := q7; exact ⟨x7,σ7,H7,I7.unpinned,r7,q7⟩
end
abbrev R2 := V -> V -> Hp -> VK -> Prop
def OpR (X : Cx) (f : Value -> Value -> Sem Value) (r : R2) : Prop :=
 ∀ (pins : List (Addr × Obj)) (s : Shared) (σ : St) (H : Hp) (x y : V) (v u : Value) (Q : VK),Inv X pins σ H s -> RelV x v -> RelV y u -> r x y H Q →
  wpAny (model X.prog X.w) X.A (f v u) (EP X pins σ Q) X.xe s
def UnR (X : Cx) (f : Value -> Sem Value) (r : V -> Hp -> VK -> Prop) : Prop :=
 ∀ (pins : List (Addr × Obj)) (s : Shared) (σ : St) (H : Hp) (x : V) (v : Value) (Q : VK),Inv X pins σ H s -> RelV x v -> r x H Q →
  wpAny (model X.prog X.w) X.A (f v) (EP X pins σ Q) X.xe s
def CallR (X : Cx) (f : Value) (r : List V -> Hp -> VK -> Prop) : Prop :=
 ∀ (pins : List (Addr × Obj)) (s : Shared) (σ : St) (H : Hp) (xs : List V) (us : List Value) (Q : VK),Inv X pins σ H s -> Vals xs us -> r xs H Q →
  wpAny (model X.prog X.w) X.A (call f us) (EP X pins σ Q) X.xe s
def tOp (r : R2) (ta tb : TE) : TE := fun σ H Q => ta σ H fun x H1 => tb σ H1 fun y H2 => r x y H2 Q
def tUn (r : V -> Hp -> VK -> Prop) (ta : TE) : TE := fun σ H Q => ta σ H fun x H1 => r x H1 Q
def rI (C : Int -> Int -> Prop) (g : Int -> Int -> V) : R2 := fun x y H Q => ∃ i j,x = .int i /\ y = .int j /\ C i j /\ Q (g i j) H
def rI0 (g : Int -> Int -> V) : R2 := fun x y H Q => ∃ i j,x = .int i /\ y = .int j /\ Q (g i j) H
def rU (g : Int -> V) : V -> Hp -> VK -> Prop := fun x H Q => ∃ i,x = .int i /\ Q (g i) H
section
variable {X : Cx} {a b c : Expr} {ta tb tc : TE} {pos : Pos}
theorem binT (ha : PE X a ta) (hb : PE X b tb) {pins : List (Addr × Obj)} {s : Shared} {σ : St} {H : Hp} {R : V -> V -> Hp -> Prop} (I : Inv X pins σ H s)
  (h : ta σ H fun x H1 => tb σ H1 fun y H2 => R x y H2) {Q : Value -> Shared -> Prop} {f : Value -> Value -> Sem Value}
  (hf : ∀ v u s2 x y H2,Inv X pins σ H2 s2 -> RelV x v -> RelV y u -> R x y H2 -> wpAny (model X.prog X.w) X.A (f v u) Q X.xe s2) :
  wpAny (model X.prog X.w) X.A (eval a X.env) (fun v s₁ => wpAny (model X.prog X.w) X.A (eval b X.env) (fun u s₂ => wpAny (model X.prog X.w) X.A (f v u) Q X.xe s₂) X.xe s₁) X.xe s := by
 refine thn (ha pins s σ H _ I h) fun v s1 ⟨x,H1,I1,r1,q1⟩ => ?_
 refine thn (hb pins s1 σ H1 _ I1 q1) fun u s2 ⟨y,H2,I2,r2,q2⟩ => ?_
 exact hf v u s2 x y H2 I2 r1 r2 q2
theorem pe_op {op : Operator} {r : R2} (ho : OpR X (binaryOp op) r) (ha : PE X a ta) (hb : PE X b tb) : PE X (.BinOp a op b pos) (tOp r ta tb) := by
 intro pins s σ H Q I h
 exact wpAny_BinOp (binT ha hb I h fun v u s2 x y H2 I2 rx ry q => ho pins s2 σ H2 x y v u Q I2 rx ry q)
theorem pe_un {op : UnaryOp} {r : V -> Hp -> VK -> Prop} (ho : UnR X (unaryOp op) r) (ha : PE X a ta) : PE X (.UnaryOp op a pos) (tUn r ta) := by
 intro pins s σ H Q I h
 exact UnaryOp_ (thn (ha pins s σ H _ I h) fun v s1 ⟨x,H1,I1,r1,q1⟩ => ho pins s1 σ H1 x v Q I1 r1 q1)
theorem opI {f : Value -> Value -> Sem Value} {C : Int -> Int -> Prop} {g : Int -> Int -> Int}
  (rule : ∀ (i j : Int) (t u : Tok) (s : Shared) (Q : Value -> Shared -> Prop) (E : Value -> Shared -> Prop),C i j -> Q (.int (g i j) s.toks) { s with toks := s.toks + 1 } -> wpAny (model X.prog X.w) X.A (f (.int i t) (.int j u)) Q E s) :
  OpR X f (rI C fun i j => .int (g i j)) := by
 intro pins s σ H x y v u Q I rx ry h
 obtain ⟨i,j,rfl,rfl,hc,q⟩ := h
 obtain ⟨t,rfl⟩ := rx
 obtain ⟨t',rfl⟩ := ry
 exact rule i j t t' s _ _ hc ⟨.int (g i j),H,I.tok _,⟨_,rfl⟩,q⟩
theorem opI0 {f : Value -> Value -> Sem Value} {g : Int -> Int -> Int}
  (rule : ∀ (i j : Int) (t u : Tok) (s : Shared) (Q : Value -> Shared -> Prop) (E : Value -> Shared -> Prop),Q (.int (g i j) s.toks) { s with toks := s.toks + 1 } -> wpAny (model X.prog X.w) X.A (f (.int i t) (.int j u)) Q E s) :
  OpR X f (rI0 fun i j => .int (g i j)) := by
 intro pins s σ H x y v u Q I rx ry h
 obtain ⟨i,j,rfl,rfl,q⟩ := h
 obtain ⟨t,rfl⟩ := rx
 obtain ⟨t',rfl⟩ := ry
 exact rule i j t t' s _ _ ⟨.int (g i j),H,I.tok _,⟨_,rfl⟩,q⟩
theorem opB0 {f : Value -> Value -> Sem Value} {g : Int -> Int -> Bool}
  (rule : ∀ (i j : Int) (t u : Tok) (s : Shared) (Q : Value -> Shared -> Prop) (E : Value -> Shared -> Prop),Q (.bool (g i j)) s -> wpAny (model X.prog X.w) X.A (f (.int i t) (.int j u)) Q E s) :
  OpR X f (rI0 fun i j => .bl (g i j)) := by
 intro pins s σ H x y v u Q I rx ry h
 obtain ⟨i,j,rfl,rfl,q⟩ := h
 obtain ⟨t,rfl⟩ := rx
 obtain ⟨t',rfl⟩ := ry
 exact rule i j t t' s _ _ ⟨.bl (g i j),H,I,rfl,q⟩
def CPow (i j : Int) : Prop := 0 <= j /\ j <= 1000000 /\ i.natAbs < 2 ^ 64
def CMul (i j : Int) : Prop := (-(2 ^ 64) < i /\ i < 2 ^ 64) ∨ (-(2 ^ 64) < j /\ j < 2 ^ 64)
theorem CMul.ok {i j : Int} (h : CMul i j) : IntMulOk i j := by
 rcases h with ⟨h1,h2⟩ | ⟨h1,h2⟩
 ·exact .of_left (intBits_le_64 h1 h2)
 ·exact .of_right (intBits_le_64 h1 h2)
theorem op_add : OpR X (binaryOp .Add) (rI0 fun i j => .int (i + j)) := opI0 fun _ _ _ _ _ _ _ q => add_int q
theorem zbL : OpR X (binaryOp .Sub) (rI0 fun i j => .int (i - j)) := opI0 fun _ _ _ _ _ _ _ q => sub_int q
theorem op_mul : OpR X (binaryOp .Mult) (rI CMul fun i j => .int (i * j)) := opI fun _ _ _ _ _ _ _ hc q => mul_int q hc.ok
theorem zbk : OpR X (binaryOp .Mod) (rI (fun _ j => 0 < j) fun i j => .int (i % j)) := opI fun i j _ _ _ _ _ hc q => by
 have h1 : (0 : Int) < j := hc
 exact mod_int' (by omega) (by rw [Int.fmod_eq_emod_of_nonneg i (by omega)]; exact q)
theorem zeA : OpR X (binaryOp .Pow) (rI CPow fun i j => .int (i ^ j.toNat)) := opI fun _ _ _ _ _ _ _ hc q => pow_int_small hc.1 hc.2.1 hc.2.2 q
theorem zct : OpR X (binaryOp .LShift) (rI CPow fun i j => .int (i * 2 ^ j.toNat)) := opI fun _ _ _ _ _ _ _ hc q => lshift_int_small hc.1 hc.2.1 hc.2.2 q
theorem unI {f : Value -> Sem Value} {g : Int -> Int}
  (rule : ∀ (i : Int) (t : Tok) (s : Shared) (Q : Value -> Shared -> Prop) (E : Value -> Shared -> Prop),Q (.int (g i) s.toks) { s with toks := s.toks + 1 } -> wpAny (model X.prog X.w) X.A (f (.int i t)) Q E s) :
  UnR X f (rU fun i => .int (g i)) := by
 intro pins s σ H x v Q I rx h
 obtain ⟨i,rfl,q⟩ := h
 obtain ⟨t,rfl⟩ := rx
 exact rule i t s _ _ ⟨.int (g i),H,I.tok _,⟨_,rfl⟩,q⟩
theorem zgt : UnR X (unaryOp .USub) (rU fun i => .int (-i)) := unI fun _ _ _ _ _ q => neg_int q
end
def scal : V -> V -> Bool
 | .non,.non => true | .non,.int _ => true | .int _,.non => true | .non,.bl _ => true | .bl _,.non => true | .non,.str _ => true | .str _,.non => true
 | .int _,.int _ => true | .bl _,.bl _ => true | .str _,.str _ => true | .byt _,.byt _ => true
 | .int _,.str _ => true | .str _,.int _ => true | .bl _,.str _ => true | .str _,.bl _ => true
 | _,_ => false
def rEq : R2 := fun x y H Q => scal x y = true /\ Q (.bl (decide (x = y))) H
def rNe : R2 := fun x y H Q => scal x y = true /\ Q (.bl (!decide (x = y))) H
theorem zod {i j : Int} : decide (V.int i = V.int j) = (i == j) := by
 rw [Bool.eq_iff_iff]
 simp
theorem zqo {i j : Bool} : decide (V.bl i = V.bl j) = (i == j) := by
 rw [Bool.eq_iff_iff]
 simp
theorem zoc {i j : Str} : decide (V.str i = V.str j) = (i == j) := by
 rw [Bool.eq_iff_iff]
 simp
theorem zoe {i j : Array UInt8} : decide (V.byt i = V.byt j) = (i.toList == j.toList) := by
 rw [Bool.eq_iff_iff]
 cases i
 cases j
 simp
section
variable {X : Cx} {a b c : Expr} {ta tb tc : TE} {pos : Pos}
theorem zaG {pins : List (Addr × Obj)} {σ : St} {H : Hp} {s : Shared} {Q : VK} {k k' : Bool} (I : Inv X pins σ H s) (q : Q (.bl k) H) (e : k = k') : EP X pins σ Q (.bool k') s := by
 subst e
 exact ⟨.bl k,H,I,rfl,q⟩
theorem op_eq : OpR X (compareOp .Eq) rEq := by
 intro pins s σ H x y v u Q I rx ry h
 obtain ⟨hs,q⟩ := h
 cases x with
 | non =>
  cases rx
  cases y with
  | non => cases ry; exact PySem.EqNone.eq_none_none (zaG I q (by simp))
  | bl j => cases ry; exact PySem.EqNone.eq_none_bool (zaG I q (by simp))
  | int j => obtain ⟨t',rfl⟩ := ry; exact PySem.EqNone.eq_none_int (zaG I q (by simp))
  | str j => obtain ⟨t',rfl⟩ := ry; exact PySem.EqNone.eq_none_str (zaG I q (by simp))
  | _ => exact absurd (show false = true from hs) Bool.false_ne_true
 | bl i =>
  cases rx
  cases y with
  | non => cases ry; exact PySem.EqNone.eq_bool_none (zaG I q (by simp))
  | bl j => cases ry; exact eq_bool (zaG I q zqo)
  | str j => obtain ⟨t',rfl⟩ := ry; exact PySem.EqMixed.eq_bool_str (zaG I q (by simp))
  | _ => exact absurd (show false = true from hs) Bool.false_ne_true
 | int i =>
  obtain ⟨t,rfl⟩ := rx
  cases y with
  | non => cases ry; exact PySem.EqNone.eq_int_none (zaG I q (by simp))
  | int j => obtain ⟨t',rfl⟩ := ry; exact eq_int (zaG I q zod)
  | str j => obtain ⟨t',rfl⟩ := ry; exact PySem.EqMixed.eq_int_str (zaG I q (by simp))
  | _ => exact absurd (show false = true from hs) Bool.false_ne_true
 | str i =>
  obtain ⟨t,rfl⟩ := rx
  cases y with
  | non => cases ry; exact PySem.EqNone.eq_str_none (zaG I q (by simp))
  | bl j => cases ry; exact PySem.EqMixed.eq_str_bool (zaG I q (by simp))
  | int j => obtain ⟨t',rfl⟩ := ry; exact PySem.EqMixed.eq_str_int (zaG I q (by simp))
  | str j => obtain ⟨t',rfl⟩ := ry; exact eq_str (zaG I q zoc)
  | _ => exact absurd (show false = true from hs) Bool.false_ne_true
 | byt i =>
  obtain ⟨t,rfl⟩ := rx
  cases y with
  | byt j => obtain ⟨t',rfl⟩ := ry; exact PySem.W.eq_bytes (zaG I q zoe)
  | _ => exact absurd (show false = true from hs) Bool.false_ne_true
 | _ => cases y <;> exact absurd (show false = true from hs) Bool.false_ne_true
theorem op_ne : OpR X (compareOp .NotEq) rNe := by
 intro pins s σ H x y v u Q I rx ry h
 obtain ⟨hs,q⟩ := h
 cases x with
 | non =>
  cases rx
  cases y with
  | non => cases ry; exact PySem.EqNone.ne_none_none (zaG I q (by simp))
  | bl j => cases ry; exact PySem.EqNone.ne_none_bool (zaG I q (by simp))
  | int j => obtain ⟨t',rfl⟩ := ry; exact PySem.EqNone.ne_none_int (zaG I q (by simp))
  | str j => obtain ⟨t',rfl⟩ := ry; exact PySem.EqNone.ne_none_str (zaG I q (by simp))
  | _ => exact absurd (show false = true from hs) Bool.false_ne_true
 | bl i =>
  cases rx
  cases y with
  | non => cases ry; exact PySem.EqNone.ne_bool_none (zaG I q (by simp))
  | bl j => cases ry; exact ne_bool (zaG I q (congrArg not zqo))
  | str j => obtain ⟨t',rfl⟩ := ry; exact PySem.EqMixed.ne_bool_str (zaG I q (by simp))
  | _ => exact absurd (show false = true from hs) Bool.false_ne_true
 | int i =>
  obtain ⟨t,rfl⟩ := rx
  cases y with
  | non => cases ry; exact PySem.EqNone.ne_int_none (zaG I q (by simp))
  | int j => obtain ⟨t',rfl⟩ := ry; exact ne_int (zaG I q (congrArg not zod))
  | str j => obtain ⟨t',rfl⟩ := ry; exact PySem.EqMixed.ne_int_str (zaG I q (by simp))
  | _ => exact absurd (show false = true from hs) Bool.false_ne_true
 | str i =>
  obtain ⟨t,rfl⟩ := rx
  cases y with
  | non => cases ry; exact PySem.EqNone.ne_str_none (zaG I q (by simp))
  | bl j => cases ry; exact PySem.EqMixed.ne_str_bool (zaG I q (by simp))
  | int j => obtain ⟨t',rfl⟩ := ry; exact PySem.EqMixed.ne_str_int (zaG I q (by simp))
  | str j => obtain ⟨t',rfl⟩ := ry; exact ne_str (zaG I q (congrArg not zoc))
  | _ => exact absurd (show false = true from hs) Bool.false_ne_true
 | byt i =>
  obtain ⟨t,rfl⟩ := rx
  cases y with
  | byt j => obtain ⟨t',rfl⟩ := ry; exact PySem.W.ne_bytes (zaG I q (congrArg not zoe))
  | _ => exact absurd (show false = true from hs) Bool.false_ne_true
 | _ => cases y <;> exact absurd (show false = true from hs) Bool.false_ne_true
theorem op_lt : OpR X (compareOp .Lt) (rI0 fun i j => .bl (decide (i < j))) := opB0 fun _ _ _ _ _ _ _ q => lt_int q
theorem zrz : OpR X (compareOp .Gt) (rI0 fun i j => .bl (decide (j < i))) := opB0 fun _ _ _ _ _ _ _ q => gt_int q
theorem zrA : OpR X (compareOp .GtE) (rI0 fun i j => .bl (decide (j <= i))) := opB0 fun _ _ _ _ _ _ _ q => ge_int q
theorem zm1 : OpR X (compareOp .Lt) (fun x y H Q => ∃ i j,x = .str i /\ y = .str j /\ Q (.bl (decide (i.cps.toList < j.cps.toList))) H) := by
 intro pins s σ H x y v u Q I rx ry h
 obtain ⟨i,j,rfl,rfl,q⟩ := h
 obtain ⟨t,rfl⟩ := rx
 obtain ⟨t',rfl⟩ := ry
 exact lt_str (zaG I q rfl)
theorem zm2 : OpR X (compareOp .In) (fun x y H Q => ∃ i j,x = .str i /\ y = .str j /\ Q (.bl (!(Builtin.Str.occurrences j i 0 j.length 1).isEmpty)) H) := by
 intro pins s σ H x y v u Q I rx ry h
 obtain ⟨i,j,rfl,rfl,q⟩ := h
 obtain ⟨t,rfl⟩ := rx
 obtain ⟨t',rfl⟩ := ry
 exact in_str (zaG I q rfl)
theorem op_isN : OpR X (compareOp .Is) (fun x y H Q => y = .non /\ Q (.bl (decide (x = .non))) H) := by
 intro pins s σ H x y v u Q I rx ry h
 obtain ⟨rfl,q⟩ := h
 cases ry
 refine is_none_gen (zaG I q ?_)
 cases x <;> first
  | (cases rx; rfl)
  | (obtain ⟨t,rfl⟩ := rx; rfl)
theorem zrx : OpR X (compareOp .IsNot) (fun x y H Q => y = .non /\ Q (.bl (!decide (x = .non))) H) := by
 intro pins s σ H x y v u Q I rx ry h
 obtain ⟨rfl,q⟩ := h
 cases ry
 refine isnot_none_gen (zaG I q ?_)
 cases x <;> first
  | (cases rx; rfl)
  | (obtain ⟨t,rfl⟩ := rx; rfl)
theorem zii : OpR X (compareOp .NotIn) (fun x y H Q => ∃ i j,x = .str i /\ y = .str j /\ Q (.bl (!(!(Builtin.Str.occurrences j i 0 j.length 1).isEmpty))) H) := by
 intro pins s σ H x y v u Q I rx ry h
 obtain ⟨i,j,rfl,rfl,q⟩ := h
 obtain ⟨t,rfl⟩ := rx
 obtain ⟨t',rfl⟩ := ry
 exact notIn_str (zaG I q rfl)
theorem OpR.or {f : Value -> Value -> Sem Value} {r r' : R2} (h : OpR X f r) (h' : OpR X f r') : OpR X f (fun x y H Q => r x y H Q ∨ r' x y H Q) := by
 intro pins s σ H x y v u Q I rx ry q
 rcases q with q | q
 ·exact h pins s σ H x y v u Q I rx ry q
 ·exact h' pins s σ H x y v u Q I rx ry q
theorem zao (b : Expr) {op : CmpOp} (h : autoParam (op ≠ .In) AutoP.a1._auto_1) (h2 : autoParam (op ≠ .NotIn) AutoP.a1._auto_1) : behindInMarks op b = false := by
 have e1 : (op == CmpOp.In) = false := by cases op <;> first | rfl | exact absurd rfl h
 have e2 : (op == CmpOp.NotIn) = false := by cases op <;> first | rfl | exact absurd rfl h2
 cases b <;> simp [behindInMarks,e1,e2]
theorem zrs {op : CmpOp} {r : R2} (ho : OpR X (compareOp op) r) (ha : PE X a ta) (hb : PE X b tb) (hm : behindInMarks op b = false) : PE X (.Compare a [op] [b] pos) (tOp r ta tb) := by
 intro pins s σ H Q I h
 exact wpAny_Compare1 (binT ha hb I h fun v u s2 x y H2 I2 rx ry q => ho pins s2 σ H2 x y v u Q I2 rx ry q) hm
def tTest (t : TE) : TT := fun σ H Q => t σ H fun x H' => ∃ k,x = .bl k /\ Q k H'
theorem zq4 {op : CmpOp} {r : R2} (ho : OpR X (compareOp op) r) (ha : PE X a ta) (hb : PE X b tb) (hm : behindInMarks op b = false) : PT X (.Compare a [op] [b] pos) (tTest (tOp r ta tb)) := by
 intro pins s σ H Q I h
 refine wpAny_isTrue_Compare1 (thn (ha pins s σ H _ I h) fun v s1 ⟨x,H1,I1,r1,q1⟩ => thn (hb pins s1 σ H1 _ I1 q1) fun u s2 ⟨y,H2,I2,r2,q2⟩ =>
  thn (ho pins s2 σ H2 x y v u _ I2 r1 r2 q2) fun c s3 ⟨z,H3,I3,r3,k,e,q3⟩ => ?_) hm
 subst e
 cases r3
 exact wpAny_truthy_bool ⟨H3,I3,q3⟩
theorem zgD : (sizeLine : Nat) < 2 ^ 63 := by rw [sizeLine_eq]; decide
theorem zlr : OpR X (binaryOp .Add) (fun x y H Q => ∃ i j,x = .str i /\ y = .str j /\ i.length + j.length <= sizeLine /\ Q (.str (i ++ j)) H) := by
 intro pins s σ H x y v u Q I rx ry h
 obtain ⟨i,j,rfl,rfl,hz,q⟩ := h
 obtain ⟨t,rfl⟩ := rx
 obtain ⟨t',rfl⟩ := ry
 exact add_str (fun t' tk => ⟨.str (i ++ j),H,I.tok _,⟨_,rfl⟩,q⟩) hz
theorem zbY {x : V} {us : List Value} (r : Vals [x] us) : ∃ u,us = [u] /\ RelV x u := by
 cases r with
 | cons r1 r2 => cases r2; exact ⟨_,rfl,r1⟩
theorem zl9 {x y : V} {us : List Value} (r : Vals [x,y] us) : ∃ u w',us = [u,w'] /\ RelV x u /\ RelV y w' := by
 cases r with
 | cons r1 r2 =>
  cases r2 with
  | cons r3 r4 => cases r4; exact ⟨_,_,rfl,r1,r3⟩
theorem zk7 : CallR X (.builtin "abs") (fun xs H Q => ∃ i,xs = [.int i] /\ Q (.int (if i < 0 then -i else i)) H) := by
 intro pins s σ H xs us Q I r h
 obtain ⟨i,rfl,q⟩ := h
 obtain ⟨u,rfl,t,rfl⟩ := zbY r
 exact call_abs_int fun u tk => ⟨.int (if i < 0 then -i else i),H,I.tok _,⟨_,rfl⟩,q⟩
theorem zja (hc : X.calm = true) : CallR X (.builtin "max") (fun xs H Q => ∃ i j,xs = [.int i,.int j] /\ Q (.int (if j > i then j else i)) H) := by
 intro pins s σ H xs us Q I r h
 obtain ⟨i,j,rfl,q⟩ := h
 obtain ⟨u,w',rfl,⟨t,rfl⟩,⟨t',rfl⟩⟩ := zl9 r
 refine max_two_ints (I.ok.hd hc) fun h' tk k => ⟨_,H,I.kept k,?_,q⟩
 by_cases hj : j > i
 ·rw [if_pos hj,if_pos hj]; exact ⟨_,rfl⟩
 ·rw [if_neg hj,if_neg hj]; exact ⟨_,rfl⟩
theorem zi9 (hc : X.calm = true) : CallR X (.builtin "min") (fun xs H Q => ∃ i j,xs = [.int i,.int j] /\ Q (.int (if j < i then j else i)) H) := by
 intro pins s σ H xs us Q I r h
 obtain ⟨i,j,rfl,q⟩ := h
 obtain ⟨u,w',rfl,⟨t,rfl⟩,⟨t',rfl⟩⟩ := zl9 r
 refine min_two_ints (I.ok.hd hc) fun h' tk k => ⟨_,H,I.kept k,?_,q⟩
 by_cases hj : j < i
 ·rw [if_pos hj,if_pos hj]; exact ⟨_,rfl⟩
 ·rw [if_neg hj,if_neg hj]; exact ⟨_,rfl⟩
theorem zop : CallR X (.type "int") (fun xs H Q => (∃ i,xs = [.int i] /\ Q (.int i) H) ∨ ∃ k,xs = [.bl k] /\ Q (.int (if k then 1 else 0)) H) := by
 intro pins s σ H xs us Q I r h
 rcases h with ⟨i,rfl,q⟩ | ⟨k,rfl,q⟩
 ·obtain ⟨u,rfl,t,rfl⟩ := zbY r
  exact call_int_int ⟨.int i,H,I,⟨_,rfl⟩,q⟩
 ·obtain ⟨u,rfl,r1⟩ := zbY r
  cases r1
  exact call_int_bool ⟨.int (if k then 1 else 0),H,I.tok _,⟨_,rfl⟩,q⟩
theorem zi8 : CallR X (.type "str") (fun xs H Q => ∃ i,xs = [.int i] /\ i.natAbs.log2 < 1920 /\ Q (.str (toString i)) H) := by
 intro pins s σ H xs us Q I r h
 obtain ⟨i,rfl,hz,q⟩ := h
 obtain ⟨u,rfl,t,rfl⟩ := zbY r
 exact PySem.P.str_of_int hz ⟨.str _,H,I.tok _,⟨_,rfl⟩,q⟩
end
structure ObjM (h : Heap) (x dx C : Addr) (mA : Str -> Option Value) : Prop where
 obj : h.get? x = some (PySem.W.instObj C dx)
 ns : h.Ns1 dx mA
 ne : dx ≠ x
theorem znx {h : Heap} {dx : Addr} {mA : Str -> Option Value} (n : h.Ns1 dx mA) : ∃ od,h.get? dx = some od /\ ∀ name,PySem.W.lookIn name od = some (mA name) := by
 obtain ⟨o,es,ep,ho,hd,hk,_,hm⟩ := n
 refine ⟨o,ho,fun name => ?_⟩
 have e := hm name
 unfold nsFind findBy at e
 rw [<- Array.find?_toList] at e
 unfold PySem.W.lookIn
 rw [hd]
 dsimp only
 split
 ·rename_i y q
  rw [q] at e
  exact congrArg some e
 ·rename_i q
  rw [q] at e
  have a : es.toList.any (·.refKey) = false := by
   rw [List.any_eq_false]
   intro y hy
   obtain ⟨z,t,hkey⟩ := hk y (Array.mem_toList_iff.mp hy)
   simp [DictEntry.refKey,hkey]
  have a' : ¬ es.toList.any (·.refKey) = true := by rw [a]; exact Bool.false_ne_true
  rw [if_neg a']
  exact congrArg some e
theorem ObjM.look {h : Heap} {x dx C : Addr} {mA : Str -> Option Value} (I : ObjM h x dx C mA) : ∃ od,PySem.W.InstAt h x (PySem.W.instObj C dx) C (some od) /\ ∀ name,PySem.W.lookIn name od = some (mA name) :=
 let ⟨od,ho,hl⟩ := znx I.ns
 ⟨od,⟨I.obj,rfl,rfl,ho⟩,hl⟩
section
variable {prog : Program} {w : World} {A : Around} {E : Value -> Shared -> Prop} {s : Shared} {K : PySem.W.Frag} {x dx C f : Addr} {mA : Str -> Option Value} {name : Str} {v : Value}
theorem zr8 {expr : Bool} {Q : Value -> Shared -> Prop} (X : K.In s.heap) (I : ObjM s.heap x dx C mA) (hg : PySem.W.plainGet K C name = true) (hh : PySem.W.hasDictIn K C = true)
  (ha : PySem.W.findIn K (.ref C) name = some none) (hv : mA name = some v) (hv' : PySem.W.handedIn v = true) (h : Q v { s with toks := s.toks + 1 }) :
  wpAny (model prog w) A (getAttr (.ref x) name expr) Q E s := by
 obtain ⟨od,J,hl⟩ := I.look
 exact PySem.W.get_value X J (PySem.W.plainGet_of hg).1 (PySem.W.findObj_own hh ha rfl (by rw [hl,hv])) hv' h
theorem zpy {pl : Sem Bool} {Q : Value × List Value -> Shared -> Prop} (X : K.In s.heap) (I : ObjM s.heap x dx C mA) (hg : PySem.W.plainGet K C name = true)
  (hf : PySem.W.findIn K (.ref C) name = some (some (.ref f))) (ht : PySem.W.isFn K (.ref f) = true) (hv : mA name = none) (h : Q (.ref f,[.ref x]) s) :
  wpAny (model prog w) A (getMethod (.ref x) name pl) Q E s := by
 obtain ⟨od,J,hl⟩ := I.look
 exact PySem.W.method_fn X J (PySem.W.plainGet_of hg).1 (PySem.W.plainGet_of hg).2 hf (beq_iff_eq.mp ht) (by show (PySem.W.lookIn name od).map (·.isSome) = some false; rw [hl,hv]; rfl) h
theorem zqK {ns : List Str} {Q : Unit -> Shared -> Prop} (X : K.In s.heap) (I : ObjM s.heap x dx C mA)
  (hs : PySem.W.findIn K (.ref C) "__setattr__" = some (some (.builtin "object.__setattr__"))) (hp : PySem.W.plainOver K C = true) (ht : PySem.W.takerIn K C name = some none) (hh : PySem.W.hasDictIn K C = true)
  (hw : PySem.Within mA ns) (hsz : ns.length <= sizeLine)
  (h : ∀ h',ObjM h' x dx C (fun y => if y = name then some v else mA y) -> Heap.SameBut dx s.heap h' -> Q () { s with heap := h',toks := s.toks + 2 }) :
  wpAny (model prog w) A (setAttr (.ref x) name v) Q E s := by
 obtain ⟨od,J,hl⟩ := I.look
 refine PySem.W.set_plain X J hs (PySem.W.osa_open (s := { s with toks := s.toks + 1 }) (r := none) X J hp ht fun b => ?_)
 obtain ⟨cd,hc,hd'⟩ := PySem.W.any_some hh
 have hx : s.heap.get? x = some ⟨.ref C,some dx,.plain,#[]⟩ := I.obj
 refine wpAny_bind (wpAny_pure (wpAny_bind (wpAny_bind (wpAny_loadPart hx (wpAny_bind (PySem.W.Looks.here (s := { s with toks := s.toks + 1 }) (PySem.W.looks_clsIn X hc) ?_))))))
 rw [hd']
 refine wpAny_pure (a := some dx) (wpAny_bind (wpAny_pure (wpAny_bind ?_)))
 refine wpAny_nsSet1 (s := { s with toks := s.toks + 1 }) I.ns fun h' hn2 hs2 => ?_
 obtain ⟨oD,esD,epD,hoD,hdD,hcD⟩ := hn2.count (PySem.Within.cons name v hw)
 refine wpAny_bind (wpAny_lookBehind hoD (by rw [hdD]; exact pastItsLine_dict (Nat.le_trans hcD (by rw [List.length_cons]; omega))) ?_)
 exact wpAny_pure (h _ ⟨(hs2.2 _ (Ne.symm I.ne)).trans I.obj,hn2,I.ne⟩ hs2)
theorem zps {R : Result -> Shared -> Prop} {vs : List Value} {kw : List (Str × Value)} (X : K.In s.heap) (hm : PySem.W.makesIn K C = true)
  (hi : PySem.W.findIn K (.ref C) "__init__" = some (some (.ref f))) (hf : PySem.W.typeIn K (.ref f) = some (.type "function"))
  (h : codeAny (model prog w) (A.under (.builtin "type.__call__" ⟨.ref C :: vs,kw⟩)) (.call (.ref f) ⟨.ref (s.heap.objs.size + 1) :: vs,kw⟩) (PySem.W.InitBack (s.heap.objs.size + 1) R)
   { s with heap := (s.heap.push PySem.W.emptyDict).push (PySem.W.instObj C s.heap.objs.size) }) :
  codeAny (model prog w) A (.call (.ref C) ⟨vs,kw⟩) R s := by
 obtain ⟨hh,g,d,t,os⟩ := s
 exact PySem.W.make_core (PySem.W.makes_of X hm) (PySem.W.looks_findIn X hi) (fun self => PySem.W.bind_fn X self hf) (.inl rfl) h
end
def zgf (f : Str) (v : V) : List (Str × V) -> List (Str × V)
 | [] => [(f,v)]
 | (g,x) :: r => if g = f then (g,v) :: r else (g,x) :: zgf f v r
theorem zfK (f g : Str) (v : V) : ∀ fs : List (Str × V),(zgf f v fs).lookup g = if g = f then some v else fs.lookup g
 | [] => by
  show List.lookup g [(f,v)] = _
  by_cases h : g = f
  ·have hb : (g == f) = true := beq_iff_eq.mpr h
   simp only [List.lookup,hb,if_pos h]
  ·have hb : (g == f) = false := beq_eq_false_iff_ne.mpr h
   simp only [List.lookup,hb,if_neg h]
 | (k,x) :: r => by
  have ih := zfK f g v r
  rw [show zgf f v ((k,x) :: r) = (if k = f then (k,v) :: r else (k,x) :: zgf f v r) from rfl]
  by_cases hk : k = f
  ·rw [if_pos hk]
   by_cases h : g = k
   ·have hb : (g == k) = true := beq_iff_eq.mpr h
    simp only [List.lookup,hb,if_pos (h.trans hk)]
   ·have hb : (g == k) = false := beq_eq_false_iff_ne.mpr h
    simp only [List.lookup,hb,if_neg (fun e : g = f => h (e.trans hk.symm))]
  ·rw [if_neg hk]
   by_cases h : g = k
   ·have hb : (g == k) = true := beq_iff_eq.mpr h
    simp only [List.lookup,hb,if_neg (fun e : g = f => hk (h.symm.trans e))]
   ·have hb : (g == k) = false := beq_eq_false_iff_ne.mpr h
    simp only [List.lookup,hb]
    exact ih
theorem zfM (f : Str) (v : V) : ∀ fs : List (Str × V),f ∈ (zgf f v fs).map (·.1) /\ ∀ g,g ∈ fs.map (·.1) -> g ∈ (zgf f v fs).map (·.1)
 | [] => ⟨by simp [zgf],fun g h => by simp at h⟩
 | (k,x) :: r => by
  obtain ⟨i1,i2⟩ := zfM f v r
  rw [show zgf f v ((k,x) :: r) = (if k = f then (k,v) :: r else (k,x) :: zgf f v r) from rfl]
  by_cases hk : k = f
  ·rw [if_pos hk]
   subst hk
   exact ⟨by simp,fun g h => by simpa using h⟩
  ·rw [if_neg hk]
   refine ⟨?_,fun g h => ?_⟩
   ·rw [List.map_cons]
    exact List.mem_cons_of_mem _ i1
   ·rw [List.map_cons] at h ⊢
    rcases List.mem_cons.mp h with e | e
    ·exact List.mem_cons.mpr (.inl e)
    ·exact List.mem_cons_of_mem _ (i2 g e)
theorem zfL (f : Str) (v : V) : ∀ fs : List (Str × V),(zgf f v fs).length <= fs.length + 1
 | [] => by simp [zgf]
 | (k,x) :: r => by
  have ih := zfL f v r
  rw [show zgf f v ((k,x) :: r) = (if k = f then (k,v) :: r else (k,x) :: zgf f v r) from rfl]
  by_cases hk : k = f
  ·rw [if_pos hk,List.length_cons,List.length_cons]; omega
  ·rw [if_neg hk,List.length_cons,List.length_cons]; omega
theorem RelO.some_of {v : V} {o : Option Value} (r : RelO (some v) o) : ∃ u,o = some u /\ RelV v u := by
 cases o with
 | none => exact (show False from r).elim
 | some u => exact ⟨u,rfl,r⟩
theorem RelO.none_of {o : Option Value} (r : RelO none o) : o = none := by
 cases o with
 | none => rfl
 | some u => exact (show False from r).elim
theorem znS {v : V} {u : Value} (r : RelV v u) : PySem.W.handedIn u = true := by
 cases v with
 | non => cases (show u = Value.none from r); rfl
 | bl b => cases (show u = Value.bool b from r); rfl
 | int i => obtain ⟨t,e⟩ := (show ∃ t,u = Value.int i t from r); cases e; rfl
 | str x => obtain ⟨t,e⟩ := (show ∃ t,u = Value.str x t from r); cases e; rfl
 | byt b => obtain ⟨t,e⟩ := (show ∃ t,u = Value.bytes b t from r); cases e; rfl
 | flt b => obtain ⟨t,e⟩ := (show ∃ t,u = Value.float b t from r); cases e; rfl
 | ref a => cases (show u = Value.ref a from r); rfl
 | ty n => cases (show u = Value.type n from r); rfl
section
variable {P : Program} {w : World} {H H' : Hp} {h h' : Heap} {a C dx : Addr} {fs fs' : List (Str × V)}
theorem zhL (hok : HOk P w H h) (e : H a = some (.ins C dx fs)) : ∃ mA,ObjM h a dx C mA /\ (∀ f,RelO (fs.lookup f) (mA f)) /\ PySem.Within mA (fs.map (·.1)) /\ fs.length <= 1000 /\ H dx = some (.own a) := by
 obtain ⟨d,z,ne,ob,mA,n,r,q⟩ := (show ObjOk P w H h a (.ins C dx fs) from hok a _ e)
 exact ⟨mA,⟨ob,n,ne⟩,r,q,z,d⟩
end
structure Cls (K : PySem.W.Frag) (C : Addr) : Prop where
 pg : PySem.W.plainGet K C Str.empty = true
 hd : PySem.W.hasDictIn K C = true
 po : PySem.W.plainOver K C = true
 sa : PySem.W.findIn K (.ref C) "__setattr__" = some (some (.builtin "object.__setattr__"))
theorem Cls.get {K : PySem.W.Frag} {C : Addr} (c : Cls K C) (f : Str) : PySem.W.plainGet K C f = true := c.pg
def NoAttr (K : PySem.W.Frag) (C : Addr) (f : Str) : Prop := PySem.W.findIn K (.ref C) f = some none
theorem NoAttr.taker {K : PySem.W.Frag} {C : Addr} {f : Str} (n : NoAttr K C f) : PySem.W.takerIn K C f = some none := by
 unfold PySem.W.takerIn
 rw [show PySem.W.findIn K (.ref C) f = some none from n]
 rfl
structure Meth (K : PySem.W.Frag) (C : Addr) (m : Str) (f : Addr) : Prop where
 at_ : PySem.W.findIn K (.ref C) m = some (some (.ref f))
 fn : PySem.W.isFn K (.ref f) = true
 kp : PySem.W.keepIn K (.ref f) = true
section
variable {X : Cx} {pins : List (Addr × Obj)} {σ : St} {H : Hp} {s : Shared} {a C dx : Addr} {fs : List (Str × V)} {f : Str} {v : V} {A : Around} {E : Value -> Shared -> Prop}
theorem zlP {b : Bool} {Q : Value -> Shared -> Prop} (I : Inv X pins σ H s) (e : H a = some (.ins C dx fs)) (c : Cls X.K C) (n : NoAttr X.K C f) (l : fs.lookup f = some v)
  (h : ∀ u s',Inv X pins σ H s' -> RelV v u -> Q u s') : wpAny (model X.prog X.w) A (getAttr (.ref a) f b) Q E s := by
 obtain ⟨mA,O,r,_,_,_⟩ := zhL I.hok e
 obtain ⟨u,hu,ru⟩ := RelO.some_of (v := v) (o := mA f) (by rw [<- l]; exact r f)
 exact zr8 I.kIn O (c.get f) c.hd n hu (znS ru) (h u _ (I.tok _) ru)
theorem zgI {m : Str} {g : Addr} {pl : Sem Bool} {Q : Value × List Value -> Shared -> Prop} (I : Inv X pins σ H s) (e : H a = some (.ins C dx fs)) (c : Cls X.K C) (k : Meth X.K C m g) (l : fs.lookup m = none)
  (h : Q (.ref g,[.ref a]) s) : wpAny (model X.prog X.w) A (getMethod (.ref a) m pl) Q E s := by
 obtain ⟨mA,O,r,_,_,_⟩ := zhL I.hok e
 have hn : mA m = none := RelO.none_of (by rw [<- l]; exact r m)
 exact zpy I.kIn O (c.get m) k.at_ k.fn hn h
theorem zlh {y : V} {u : Value} {Q : Unit -> Shared -> Prop} (I : Inv X pins σ H s) (e : H a = some (.ins C dx fs)) (c : Cls X.K C) (n : NoAttr X.K C f) (hl : fs.length < 1000) (ry : RelV y u)
  (h : ∀ s',Inv X pins σ (upd H a (.ins C dx (zgf f y fs))) s' -> Q () s') : wpAny (model X.prog X.w) A (setAttr (.ref a) f u) Q E s := by
 obtain ⟨mA,O,r,wi,_,ho⟩ := zhL I.hok e
 have hz : (fs.map (·.1)).length <= sizeLine := by rw [List.length_map,sizeLine_eq]; omega
 refine zqK I.kIn O c.sa c.po n.taker c.hd wi hz fun h' O' sb => h _ ?_
 have hd : ∃ o,h'.get? dx = some o := let ⟨o,_,_,e',_⟩ := O'.ns; ⟨o,e'⟩
 refine I.write (x := a) (e := dx) (by rw [e]; exact True.intro) (.inr ho) (fun b q hb z => (sb.2 b hb).trans z) hd ?_
 refine ⟨by rw [zan O.ne]; exact ho,?_,O.ne,O'.obj,_,O'.ns,fun g => ?_,fun g hg => ?_⟩
 ·have := zfL f y fs; omega
 ·show RelO ((zgf f y fs).lookup g) (if g = f then some u else mA g)
  rw [zfK]
  by_cases q : g = f
  ·rw [if_pos q,if_pos q]; exact ry
  ·rw [if_neg q,if_neg q]; exact r g
 ·by_cases q : g = f
  ·rw [q]; exact (zfM f y fs).1
  ·refine (zfM f y fs).2 g (wi g fun z => hg ?_)
   show (if g = f then some u else mA g) = none
   rw [if_neg q]; exact z
theorem Inv.made (I : Inv X pins σ H s) : Inv X pins σ (upd (upd H s.heap.objs.size (.own (s.heap.objs.size + 1))) (s.heap.objs.size + 1) (.ins C s.heap.objs.size []))
  { s with heap := (s.heap.push PySem.W.emptyDict).push (PySem.W.instObj C s.heap.objs.size) } := by
 have e1 : (s.heap.push PySem.W.emptyDict).get? s.heap.objs.size = some PySem.W.emptyDict := Heap.get?_push_size s.heap rfl
 have e2 : ((s.heap.push PySem.W.emptyDict).push (PySem.W.instObj C s.heap.objs.size)).get? (s.heap.objs.size + 1) = some (PySem.W.instObj C s.heap.objs.size) := by
  have := Heap.get?_push_size (s.heap.push PySem.W.emptyDict) (o := PySem.W.instObj C s.heap.objs.size) rfl
  rwa [Heap.size_push] at this
 have e3 : (s.heap.push PySem.W.emptyDict).Ns s.heap.objs.size (fun _ => none) := ⟨PySem.W.emptyDict,#[],_,e1,rfl,(fun e he => absurd he (by simp)),fun _ => rfl⟩
 have I1 := I.laid (a := s.heap.objs.size) (o := .own (s.heap.objs.size + 1)) (h' := s.heap.push PySem.W.emptyDict) (t' := s.toks) (fun b u q => Heap.get?_push_of_some _ q) (Nat.le_refl _) ⟨_,e1⟩
 refine I1.laid (a := s.heap.objs.size + 1) (o := .ins C s.heap.objs.size []) (t' := s.toks) (fun b u q => Heap.get?_push_of_some _ q) (Nat.le_of_eq (Heap.size_push _ _)) ?_
 have ne : s.heap.objs.size ≠ s.heap.objs.size + 1 := Nat.ne_of_lt (Nat.lt_succ_self _)
 refine ⟨by rw [zan ne,zax],Nat.zero_le _,ne,e2,fun _ => none,(Heap.Ns1.of_empty e3).at fun o q => Heap.get?_push_of_some _ q,fun _ => True.intro,fun y hy => absurd rfl hy⟩
theorem zsi {prog : Program} {w : World} {env : Env} {e : Expr} {f : Str} {pos : Pos} {s : Shared} {Q : Value -> Shared -> Prop} (hb : attributeBase e f env (eval e env) = eval e env)
  (h : wpAny (model prog w) A (eval e env) (fun o s₁ => wpAny (model prog w) A (getAttr o f true) Q E s₁) E s) : wpAny (model prog w) A (eval (.Attribute e f pos) env) Q E s :=
 Attribute_any_ h (by rw [arm_eval_Attribute,hb])
end
def tFld (K : PySem.W.Frag) (ta : TE) (f : Str) : TE := fun σ H Q => ta σ H fun x H1 => ∃ a C dx fs v,x = .ref a /\ H1 a = some (.ins C dx fs) /\ Cls K C /\ NoAttr K C f /\ fs.lookup f = some v /\ Q v H1
def sFld (K : PySem.W.Frag) (ta tv : TE) (f : Str) : TS := fun D σ H => tv σ H fun y H1 => ta σ H1 fun x H2 => ∃ a C dx fs,x = .ref a /\ H2 a = some (.ins C dx fs) /\ Cls K C /\ NoAttr K C f /\ fs.length < 1000 ∧
 D.nx σ (upd H2 a (.ins C dx (zgf f y fs)))
section
variable {X : Cx} {o e value : Expr} {f : Str} {pos pos' tpos : Pos} {ta tv : TE}
theorem pe_fld (he : PE X e ta) (hb : attributeBase e f X.env (eval e X.env) = eval e X.env) : PE X (.Attribute e f pos) (tFld X.K ta f) := by
 intro pins s σ H Q I h
 refine zsi hb (thn (he pins s σ H _ I h) fun u s1 ⟨x,H1,I1,rx,a,C,dx,fs,v,ex,ea,c,n,l,q⟩ => ?_)
 subst ex
 obtain rfl : u = Value.ref a := rx
 exact zlP I1 ea c n l fun u' s2 I2 ru => ⟨v,H1,I2,ru,q⟩
theorem ps_fld (ha : PE X o ta) (hv : PE X value tv) (hs : swapsWith value (some (.Attribute o f pos')) pos.line X.env = pure false) : PS X (.Assign [.Attribute o f pos'] value pos) (sFld X.K ta tv f) := by
 intro pins s σ H D I h
 refine plainObj_wpAny_Assign_Attribute (thn (hv pins s σ H _ I h) fun u s1 ⟨y,H1,I1,ry,q⟩ => thn (ha pins s1 σ H1 _ I1 q) fun ov s2 ⟨x,H2,I2,rx,a,C,dx,fs,ex,ea,c,n,l,q2⟩ => ?_) hs
 subst ex
 obtain rfl : ov = Value.ref a := rx
 exact zlh I2 ea c n l ry fun s3 I3 => ⟨σ,_,I3,q2⟩
end
section
variable {X : Cx} {pins : List (Addr × Obj)} {σ : St} {H : Hp} {s : Shared} {A : Around} {E : Value -> Shared -> Prop} {Q : Value -> Shared -> Prop} {c : Value} {b : Bool}
inductive TyOf (K : PySem.W.Frag) (H : Hp) : V -> Value -> Prop where
 | non : TyOf K H .non (.type "NoneType")
 | bl (x : Bool) : TyOf K H (.bl x) (.type "bool")
 | int (i : Int) : TyOf K H (.int i) (.type "int")
 | str (x : Str) : TyOf K H (.str x) (.type "str")
 | flt (x : UInt64) : TyOf K H (.flt x) (.type "float")
 | lst {a : Addr} {xs : List V} (e : H a = some (.lst xs)) : TyOf K H (.ref a) (.type "list")
 | frz {a : Addr} {o : Obj} {xs : List V} (e : H a = some (.frz o (.lst xs))) : TyOf K H (.ref a) (.type "list")
 | tup {a : Addr} {xs : List V} (e : H a = some (.tup xs)) : TyOf K H (.ref a) (.type "tuple")
 | dK {a : Addr} {kvs : List (Key × V)} (e : H a = some (.dK kvs)) : TyOf K H (.ref a) (.type "dict")
 | dT {a : Addr} {kvs : List (List Key × V)} (e : H a = some (.dT kvs)) : TyOf K H (.ref a) (.type "dict")
 | ins {a C dx : Addr} {fs : List (Str × V)} (e : H a = some (.ins C dx fs)) (cl : Cls K C) (ha : PySem.W.findIn K (.ref C) "__class__" = some (some (.builtin "object.__class__")))
   (hn : PySem.W.specialIn K (.builtin "object.__class__") "__get__" = some (some (.builtin "getset_descriptor.__get__"))) (htk : PySem.W.takesIn K (.builtin "object.__class__") = some true)
   (hm : PySem.W.mroIn K C (.type "object") = some true) : TyOf K H (.ref a) (.ref C)
theorem znL {x : V} {u t : Value} (I : Inv X pins σ H s) (rx : RelV x u) (ty : TyOf X.K H x t) (e : PySem.W.kitOne X.K t c = some b) (h : ∀ tk,Q (.bool b) { s with toks := tk }) :
  wpAny (model X.prog X.w) A (call (.builtin "isinstance") [u,c]) Q E s := by
 cases ty with
 | non => cases (show u = Value.none from rx); exact PySem.W.kia_one PySem.W.kitx_none I.kIn True.intro e (fun z => nomatch z) h
 | bl y => cases (show u = Value.bool y from rx); exact PySem.W.kia_one PySem.W.kitx_bool I.kIn True.intro e (fun z => nomatch z) h
 | int i => obtain ⟨t,q⟩ := (show ∃ t,u = Value.int i t from rx); cases q; exact PySem.W.kia_one PySem.W.kitx_int I.kIn True.intro e (fun z => nomatch z) h
 | str y => obtain ⟨t,q⟩ := (show ∃ t,u = Value.str y t from rx); cases q; exact PySem.W.kia_one PySem.W.kitx_str I.kIn True.intro e (fun z => nomatch z) h
 | flt y => obtain ⟨t,q⟩ := (show ∃ t,u = Value.float y t from rx); cases q; exact PySem.W.kia_one PySem.W.kitx_float I.kIn True.intro e (fun z => nomatch z) h
 | @lst a xs ea =>
  cases (show u = Value.ref a from rx)
  obtain ⟨_,_,n,_,h1⟩ := (show ObjOk X.prog X.w H s.heap a (.lst xs) from I.hok a _ ea)
  exact PySem.W.kia_one PySem.W.kitx_list I.kIn ⟨_,h1,rfl⟩ e (fun z => nomatch z) h
 | @frz a ob xs ea =>
  cases (show u = Value.ref a from rx)
  obtain ⟨_,_,_,n,_,h1⟩ := (show ObjOk X.prog X.w H s.heap a (.frz ob (.lst xs)) from I.hok a _ ea)
  exact PySem.W.kia_one PySem.W.kitx_list I.kIn ⟨_,h1,rfl⟩ e (fun z => nomatch z) h
 | @tup a xs ea =>
  cases (show u = Value.ref a from rx)
  obtain ⟨_,_,_,p,_⟩ := (show ObjOk X.prog X.w H s.heap a (.tup xs) from I.hok a _ ea)
  obtain ⟨o,h1,h2,_⟩ := p
  exact PySem.W.kia_one PySem.W.kitx_tuple I.kIn ⟨o,h1,h2⟩ e (fun z => nomatch z) h
 | @dK a kvs ea =>
  cases (show u = Value.ref a from rx)
  obtain ⟨_,_,vs,_,p⟩ := (show ObjOk X.prog X.w H s.heap a (.dK kvs) from I.hok a _ ea)
  obtain ⟨o,es,ep,h1,h2,_⟩ := p
  exact PySem.W.kia_one PySem.W.kitx_dict I.kIn ⟨o,h1,h2.1⟩ e (fun z => nomatch z) h
 | @dT a kvs ea =>
  cases (show u = Value.ref a from rx)
  obtain ⟨_,_,xs,_,o,es,ep,h1,h2,_⟩ := (show ObjOk X.prog X.w H s.heap a (.dT kvs) from I.hok a _ ea)
  exact PySem.W.kia_one PySem.W.kitx_dict I.kIn ⟨o,h1,h2.1⟩ e (fun z => nomatch z) h
 | @ins a C dx fs ea cl ha hn htk hm =>
  cases (show u = Value.ref a from rx)
  obtain ⟨mA,O,_⟩ := zhL I.hok ea
  obtain ⟨od,J,_⟩ := O.look
  exact PySem.W.kia_one (PySem.W.kitx_own (cl.get _) cl.hd ha hn htk hm) I.kIn J e (fun z => nomatch z) h
end
structure Room (k : Nat) (A : Around) : Prop where
 hd : A.handled = none
 dp : A.depth + 3 * k + 5 < recursionLimit
 un : A.units + 16 * k + 200 < cLine
 gd : A.guards = some []
theorem Room.mono {j k : Nat} {A : Around} (r : Room k A) (h : j <= k) : Room j A := ⟨r.hd,by have := r.dp; omega,by have := r.un; omega,r.gd⟩
theorem Room.deeper {k : Nat} {A : Around} (r : Room (k + 1) A) (env : Env) : Room k (A.deeper env) :=
 ⟨r.hd,by have := r.dp; show A.depth + 1 + 3 * k + 5 < _; omega,by have := r.un; show A.units + 3 + 16 * k + 200 < _; omega,r.gd⟩
theorem zlN {A : Around} {C : Addr} {us : List Value} {kw : List (Str × Value)} : (A.under (.builtin "type.__call__" ⟨.ref C :: us,kw⟩)).depth = A.depth + 1 := by
 first | rfl | simp [Around.under,Code.weight,Code.isCreation,Code.isGuard,Code.isCaller,Code.frames,Code.isFrame,guardIds]
theorem zlM {A : Around} {C : Addr} {us : List Value} {kw : List (Str × Value)} : (A.under (.builtin "type.__call__" ⟨.ref C :: us,kw⟩)).units = A.units + 1 := by
 first | rfl | simp [Around.under,Code.cUnits,Code.frames,Code.isFrame]
theorem Room.make {k : Nat} {A : Around} (r : Room (k + 1) A) (C : Addr) (us : List Value) (kw : List (Str × Value)) : Room k (A.under (.builtin "type.__call__" ⟨.ref C :: us,kw⟩)) :=
 ⟨r.hd,by have := r.dp; rw [zlN]; omega,by have := r.un; rw [zlM]; omega,r.gd⟩
theorem Room.depth {k : Nat} {A : Around} (r : Room k A) : A.depth < recursionLimit := by have := r.dp; omega
theorem Room.units {k : Nat} {A : Around} (r : Room k A) : A.units + 64 < cLine := by have := r.un; omega
def tNil : TA := fun _ H Q => Q [] H
def tCons (ta : TE) (tr : TA) : TA := fun σ H Q => ta σ H fun x H1 => tr σ H1 fun xs H2 => Q (x :: xs) H2
section
variable {X : Cx} {e : Expr} {es : List Expr} {te : TE} {t : TA} {pos : Pos}
theorem zfx : PA X [] tNil := fun _ _ _ _ H Q I h => Calls.spliced_nil ⟨[],H,I,.nil,h⟩
theorem zb2 (ha : PE X e te) (hr : PA X es t) (hs : autoParam (starEach (e :: es) X.env = (false,eval e X.env) :: starEach es X.env) AutoP.a3._auto_1) : PA X (e :: es) (tCons te t) := by
 intro pos pins s σ H Q I h
 rw [hs]
 show wpAny _ _ (spliced ((false,eval e X.env) :: backTo pos (starEach es X.env))) _ _ s
 refine Calls.spliced_cons (thn (ha pins s σ H _ I h) fun u s1 ⟨x,H1,I1,r1,q1⟩ => ?_)
 exact thn (hr pos pins s1 σ H1 _ I1 q1) fun us s2 ⟨xs,H2,I2,r2,q2⟩ => ⟨x :: xs,H2,I2,.cons r1 r2,q2⟩
def tTup (t : TA) : TE := fun σ H Q => t σ H fun xs H1 => xs.length <= sizeLine /\ ∀ p,H1 p = none -> Q (.ref p) (upd H1 p (.tup xs))
def tLst (t : TA) : TE := fun σ H Q => t σ H fun xs H1 => xs.length <= sizeLine /\ ∀ p,H1 p = none -> Q (.ref p) (upd H1 p (.lst xs))
theorem pe_tup {x1} (h : PA X es t) : PE X (.Tuple es x1 pos) (tTup t) := by
 intro pins s σ H Q I hq
 refine wpAny_Tuple_spliced (thn (h pos pins s σ H _ I hq) fun us s1 ⟨xs,H1,I1,r,z,q⟩ => ⟨by rw [<- r.length]; exact z,?_⟩)
 have hf : H1 s1.heap.objs.size = none := I1.hok.fresh (Nat.le_refl _)
 refine ⟨.ref s1.heap.objs.size,upd H1 s1.heap.objs.size (.tup xs),I1.laid (t' := s1.toks) (fun b u e => Heap.get?_push_of_some _ e) (Nat.le_refl _) ?_,rfl,q _ hf⟩
 exact ⟨z,us,r,⟨_,Heap.get?_push_size _ rfl,rfl,_,rfl⟩,_,Heap.get?_push_size _ rfl,rfl⟩
theorem zp1 (h : PA X es t) : PE X (.List es pos) (tLst t) := by
 intro pins s σ H Q I hq
 refine wpAny_List_spliced (thn (h pos pins s σ H _ I hq) fun us s1 ⟨xs,H1,I1,r,z,q⟩ => ⟨by rw [<- r.length]; exact z,?_⟩)
 have hf : H1 s1.heap.objs.size = none := I1.hok.fresh (Nat.le_refl _)
 refine ⟨.ref s1.heap.objs.size,upd H1 s1.heap.objs.size (.lst xs),I1.laid (t' := s1.toks) (fun b u e => Heap.get?_push_of_some _ e) (Nat.le_refl _) ?_,rfl,q _ hf⟩
 exact ⟨z,us,0,r,Heap.get?_push_size _ rfl⟩
end
abbrev Sp := List V -> Hp -> VK -> XK -> Prop
abbrev CXT := List Env -> Hp -> Shared -> XK -> Value -> Shared -> Prop
structure Env0 (P : Program) (w : World) (K : PySem.W.Frag) (mg : Str -> Option Value) (base : Heap) (A : Around) (outer : List Env) (s : Shared) (H : Hp) : Prop where
 frames : A.frames = some outer
 mod : Mod K mg base
 bs : ∀ b o,base.get? b = some o -> s.heap.get? b = some o /\ H b = none
 bsz : base.objs.size <= s.heap.objs.size
 funs : s.heap.FunFrames base outer
 frf : ∀ b ∈ frs outer,H b = none
 hok : HOk P w H s.heap
 bare : AllBare s.gens
def CE (outer : List Env) (P : Program) (w : World) (H : Hp) (s : Shared) (Q : VK) (u : Value) (s' : Shared) : Prop :=
 ∃ v H',s'.os = s.os /\ AllBare s'.gens /\ Un (frs outer) [] H H' s.heap s'.heap /\ HOk P w H' s'.heap /\ RelV v u /\ Q v H'
def CR (CX : CXT) (outer : List Env) (P : Program) (w : World) (H : Hp) (s : Shared) (Q : VK) (E : XK) (r : Result) (s' : Shared) : Prop :=
 match r with
 | .ok (.ret u) => CE outer P w H s Q u s'
 | .ok _ => False
 | .error e => CX outer H s E e s'
structure FnOk (P : Program) (w : World) (K : PySem.W.Frag) (mg : Str -> Option Value) (base : Heap) (CX : CXT) (k : Nat) (f : Addr) (fd : FuncData) (ps : List Str) (sp : Sp) : Prop where
 len : ∀ vs H Q E,sp vs H Q E -> vs.length = ps.length
 run : ∀ (A : Around) (outer : List Env) (s : Shared) (H : Hp) (args : Args) (us : List Value) (vs : List V) (Q : VK) (E : XK),Room k A -> Env0 P w K mg base A outer s H -> BindsTo s fd args (ps.zip us) -> Vals vs us -> sp vs H Q E →
  codeAny (model P w) A (.call (.ref f) args) (CR CX outer P w H s Q E) s
theorem FnOk.imp {P : Program} {w : World} {K : PySem.W.Frag} {mg : Str -> Option Value} {base : Heap} {CX : CXT} {k : Nat} {f : Addr} {fd : FuncData} {ps : List Str} {sp sp' : Sp} (F : FnOk P w K mg base CX k f fd ps sp)
  (h : ∀ vs H Q E,sp' vs H Q E -> sp vs H Q E) : FnOk P w K mg base CX k f fd ps sp' :=
 ⟨fun vs H Q E q => F.len vs H Q E (h _ _ _ _ q),fun A outer s H args us vs Q E hr he hb hv hs => F.run A outer s H args us vs Q E hr he hb hv (h _ _ _ _ hs)⟩
theorem Env0.make {P : Program} {w : World} {K : PySem.W.Frag} {mg : Str -> Option Value} {base : Heap} {A : Around} {outer : List Env} {s : Shared} {H : Hp} (e : Env0 P w K mg base A outer s H) (C : Addr) (us : List Value) (kw : List (Str × Value)) :
  Env0 P w K mg base (A.under (.builtin "type.__call__" ⟨.ref C :: us,kw⟩)) outer s H := ⟨by first | exact e.frames | (simpa [Around.under,Code.envs,Code.isFrame,pushEnvs] using e.frames),e.mod,e.bs,e.bsz,e.funs,e.frf,e.hok,e.bare⟩
section
variable {X : Cx} {pins : List (Addr × Obj)} {σ : St} {H : Hp} {s s' : Shared}
theorem Inv.env0 (I : Inv X pins σ H s) : Env0 X.prog X.w X.K X.mg X.base X.A X.stack s H :=
 ⟨I.ok.frames,I.ok.mod,I.bs,Nat.le_trans I.ok.bsz I.sz,I.stack,I.stkFree,I.hok,I.bare⟩
theorem Inv.after {Q : VK} {u : Value} (I : Inv X pins σ H s) (h : CE X.stack X.prog X.w H s Q u s') : EP X pins σ Q u s' := by
 obtain ⟨v,H',os,bare,un,hok,r,q⟩ := h
 obtain ⟨hh,g,d,t,os'⟩ := s'
 obtain rfl : os' = s.os := os
 exact ⟨v,H',I.call (h' := hh) (g' := g) (d' := d) (t' := t) (ch := []) un hok bare (fun b z => absurd z (by simp)),r,q⟩
end
def tCall (sp : Sp) (dvs : List V) (E : XK) (t : TA) : TE := fun σ H Q => t σ H fun vs H1 => sp (vs ++ dvs) H1 Q E
def tMeth (C : Addr) (m : Str) (sp : Sp) (dvs : List V) (E : XK) (ta : TE) (t : TA) : TE := fun σ H Q => ta σ H fun x H1 => ∃ a dx fs,x = .ref a /\ H1 a = some (.ins C dx fs) /\ fs.lookup m = none ∧
 t σ H1 fun vs H2 => sp (x :: (vs ++ dvs)) H2 Q E
def tMake (C : Addr) (sp : Sp) (dvs : List V) (E : XK) (t : TA) : TE := fun σ H Q => t σ H fun vs H1 => ∀ x dx,H1 x = none -> H1 dx = none -> dx ≠ x →
 sp (.ref x :: (vs ++ dvs)) (upd (upd H1 dx (.own x)) x (.ins C dx [])) (fun v H2 => v = .non /\ Q (.ref x) H2) E
def Binds (K : PySem.W.Frag) (fd : FuncData) (ps : List Str) (ds : List Value) : Prop :=
 ∀ (s : Shared) (us : List Value),K.In s.heap -> (us ++ ds).length = ps.length -> BindsTo s fd ⟨us,[]⟩ (ps.zip (us ++ ds))
theorem Binds.all {K : PySem.W.Frag} {fd : FuncData} {ps : List Str} (h : ∀ us : List Value,us.length = ps.length -> bindArgs fd ⟨us,[]⟩ = pure (ps.zip us)) : Binds K fd ps [] := fun s us _ hl => by
 rw [List.append_nil] at hl ⊢
 exact .of_eq (h us hl)
def zf7 (CX : CXT) (X : Cx) (E : XK) : Prop := ∀ (pins : List (Addr × Obj)) (σ : St) (H : Hp) (s : Shared) (e : Value) (s' : Shared),Inv X pins σ H s -> CX X.stack H s E e s' -> X.xe e s'
section
variable {X : Cx} {CX : CXT} {k : Nat} {f C : Addr} {fd : FuncData} {ps : List Str} {sp : Sp} {dvs : List V} {ds : List Value} {E : XK} {x m : Str} {p pos apos : Pos} {e o : Expr} {es : List Expr} {ta : TE} {t : TA}
theorem zmv {pins : List (Addr × Obj)} {σ : St} {H : Hp} {s : Shared} {Q : VK} {us : List Value} {vs : List V} (F : FnOk X.prog X.w X.K X.mg X.base CX k f fd ps sp) (hr : Room k X.A) (hb : Binds X.K fd ps ds) (hd : Vals dvs ds) (hx : zf7 CX X E)
  (I : Inv X pins σ H s) (r : Vals vs us) (h : sp (vs ++ dvs) H Q E) : wpAny (model X.prog X.w) X.A (call (.ref f) us) (EP X pins σ Q) X.xe s := by
 have r2 : Vals (vs ++ dvs) (us ++ ds) := r.append hd
 have hl : (us ++ ds).length = ps.length := by rw [<- r2.length]; exact F.len _ _ _ _ h
 refine wpAny_call (codeAny_mono (F.run X.A X.stack s H ⟨us,[]⟩ (us ++ ds) (vs ++ dvs) Q E hr I.env0 (hb s us I.kIn hl) r2 h) fun r s' hq => ?_)
 cases r with
 | error e => exact hx pins σ H s e s' I hq
 | ok fl =>
  cases fl with
  | ret u => exact I.after hq
  | next => exact False.elim hq
  | brk => exact False.elim hq
  | cont => exact False.elim hq
theorem zrt (F : FnOk X.prog X.w X.K X.mg X.base CX k f fd ps sp) (hr : Room k X.A) (hg : Gl X x) (hm : X.mg x = some (.ref f)) (hk : PySem.W.keepIn X.K (.ref f) = true) (hb : Binds X.K fd ps ds) (hd : Vals dvs ds) (hx : zf7 CX X E)
  (ha : PA X (e :: es) t) (hdb : autoParam ((x == ("__debug__" : Str)) = false) AutoP.a1._auto_1) (he : autoParam (starEach (e :: es) X.env = (false,eval e X.env) :: starEach es X.env) AutoP.a3._auto_1) (hpl : autoParam ((backTo pos (starEach es X.env)).any (·.1) = false) AutoP.a3._auto_1) :
  PE X (.Call (.Name x p) (e :: es) [] pos) (tCall sp dvs E t) := by
 intro pins s σ H Q I h
 refine wpAny_Call_Name_kw (zny I hg hm ?_ hdb)
 refine PySem.W.callWith_K (h₀ := X.base) I.ok.mod.kin hk (thn (ha pos pins s σ H _ I h) fun us s1 ⟨vs,H1,I1,r,q⟩ => ⟨I1.kIn,?_⟩) he hpl
 exact zmv F hr hb hd hx I1 r q
theorem zro {pl : Sem Bool} (he : PE X o ta) (c : Cls X.K C) (hm : Meth X.K C m f) (F : FnOk X.prog X.w X.K X.mg X.base CX k f fd ps sp) (hr : Room k X.A) (hb : Binds X.K fd ps ds) (hd : Vals dvs ds) (hx : zf7 CX X E) (ha : PA X (e :: es) t)
  (hst : autoParam (starEach (e :: es) X.env = (false,eval e X.env) :: starEach es X.env) AutoP.a3._auto_1) (hpl : autoParam ((backTo pos (starEach es X.env)).any (·.1) = false) AutoP.a3._auto_1)
  (ht : autoParam (eval (.Call (.Attribute o m apos) (e :: es) [] pos) X.env = (do
   let ov <- eval o X.env
   standAt apos.atName
   let (f,first) <- holding [ov] (getMethod ov m pl)
   callWith pos f first (backTo pos (starEach (e :: es) X.env)) (backToKw pos (keywordEach [] X.env)))) AutoP.a3._auto_1) :
  PE X (.Call (.Attribute o m apos) (e :: es) [] pos) (tMeth C m sp dvs E ta t) := by
 intro pins s σ H Q I h
 refine PySem.W.methodCall_KW (pl := pl) (thn (he pins s σ H _ I h) fun u s1 ⟨x,H1,I1,rx,a,dx,fs,ex,ea,l,q⟩ => ?_) ht
 subst ex
 obtain rfl : u = Value.ref a := rx
 refine zgI I1 ea c hm l ?_
 refine PySem.W.callWith_K (first := [.ref a]) (h₀ := X.base) I.ok.mod.kin hm.kp (thn (ha pos pins s1 σ H1 _ I1 q) fun us s2 ⟨vs,H2,I2,r,q2⟩ => ⟨I2.kIn,?_⟩) hst hpl
 exact zmv (us := .ref a :: us) (vs := .ref a :: vs) F hr hb hd hx I2 (.cons rfl r) q2
theorem zo9 {pl : Sem Bool} (he : PE X o ta) (c : Cls X.K C) (hm : Meth X.K C m f) (F : FnOk X.prog X.w X.K X.mg X.base CX k f fd ps sp) (hr : Room k X.A) (hb : Binds X.K fd ps ds) (hd : Vals dvs ds) (hx : zf7 CX X E)
  (ht : autoParam (eval (.Call (.Attribute o m apos) [] [] pos) X.env = (do
   let ov <- eval o X.env
   standAt apos.atName
   let (f,first) <- holding [ov] (getMethod ov m pl)
   callWith pos f first (backTo pos (starEach [] X.env)) (backToKw pos (keywordEach [] X.env)))) AutoP.a3._auto_1) :
  PE X (.Call (.Attribute o m apos) [] [] pos) (tMeth C m sp dvs E ta tNil) := by
 intro pins s σ H Q I h
 refine PySem.W.methodCall_KW (pl := pl) (thn (he pins s σ H _ I h) fun u s1 ⟨x,H1,I1,rx,a,dx,fs,ex,ea,l,q⟩ => ?_) ht
 subst ex
 obtain rfl : u = Value.ref a := rx
 refine zgI I1 ea c hm l ?_
 exact PySem.W.callWith_K0 (first := [.ref a]) I1.kIn hm.kp (zmv (us := [.ref a]) (vs := [.ref a]) F hr hb hd hx I1 (.cons rfl .nil) q)
structure Mk (K : PySem.W.Frag) (C f : Addr) : Prop where
 makes : PySem.W.makesIn K C = true
 init : PySem.W.findIn K (.ref C) "__init__" = some (some (.ref f))
 fn : PySem.W.isFn K (.ref f) = true
 kp : PySem.W.keepIn K (.ref C) = true
theorem zoV {pins : List (Addr × Obj)} {σ : St} {H : Hp} {s : Shared} {Q : VK} {us : List Value} {vs : List V} (M : Mk X.K C f) (F : FnOk X.prog X.w X.K X.mg X.base CX k f fd ps sp) (hr : Room (k + 1) X.A) (hb : Binds X.K fd ps ds) (hd : Vals dvs ds)
  (hx : zf7 CX X E) (I : Inv X pins σ H s) (r : Vals vs us)
  (h : ∀ x dx,H x = none -> H dx = none -> dx ≠ x -> sp (.ref x :: (vs ++ dvs)) (upd (upd H dx (.own x)) x (.ins C dx [])) (fun v H2 => v = .non /\ Q (.ref x) H2) E) :
  wpAny (model X.prog X.w) X.A (call (.ref C) us) (EP X pins σ Q) X.xe s := by
 have hq := h (s.heap.objs.size + 1) s.heap.objs.size (I.hok.fresh (Nat.le_succ _)) (I.hok.fresh (Nat.le_refl _)) (Nat.ne_of_lt (Nat.lt_succ_self _))
 have I2 := Inv.made (C := C) I
 have r2 : Vals (V.ref (s.heap.objs.size + 1) :: (vs ++ dvs)) (Value.ref (s.heap.objs.size + 1) :: (us ++ ds)) := .cons rfl (r.append hd)
 have hl : (Value.ref (s.heap.objs.size + 1) :: us ++ ds).length = ps.length := by
  have e := r2.length
  rw [F.len _ _ _ _ hq] at e
  exact e.symm
 refine wpAny_call (zps (f := f) I.kIn M.makes M.init (beq_iff_eq.mp M.fn) (codeAny_mono (F.run _ X.stack _ _ ⟨Value.ref (s.heap.objs.size + 1) :: us,[]⟩ (Value.ref (s.heap.objs.size + 1) :: (us ++ ds)) _ _ E (hr.make C us [])
  (I2.env0.make C us []) (hb _ (Value.ref (s.heap.objs.size + 1) :: us) I2.kIn hl) r2 hq) fun r s' hq' => ?_))
 cases r with
 | error e => exact hx pins σ _ _ e s' I2 hq'
 | ok fl =>
  cases fl with
  | ret u =>
   obtain ⟨v,H',I3,rv,ev,q3⟩ := I2.after hq'
   subst ev
   exact ⟨rv,⟨V.ref (s.heap.objs.size + 1),H',I3,rfl,q3⟩⟩
  | next => exact False.elim hq'
  | brk => exact False.elim hq'
  | cont => exact False.elim hq'
theorem zrp (M : Mk X.K C f) (F : FnOk X.prog X.w X.K X.mg X.base CX k f fd ps sp) (hr : Room (k + 1) X.A) (hg : Gl X x) (hm : X.mg x = some (.ref C)) (hb : Binds X.K fd ps ds) (hd : Vals dvs ds) (hx : zf7 CX X E)
  (ha : PA X (e :: es) t) (hdb : autoParam ((x == ("__debug__" : Str)) = false) AutoP.a1._auto_1) (he : autoParam (starEach (e :: es) X.env = (false,eval e X.env) :: starEach es X.env) AutoP.a3._auto_1) (hpl : autoParam ((backTo pos (starEach es X.env)).any (·.1) = false) AutoP.a3._auto_1) :
  PE X (.Call (.Name x p) (e :: es) [] pos) (tMake C sp dvs E t) := by
 intro pins s σ H Q I h
 refine wpAny_Call_Name_kw (zny I hg hm ?_ hdb)
 refine PySem.W.callWith_K (h₀ := X.base) I.ok.mod.kin M.kp (thn (ha pos pins s σ H _ I h) fun us s1 ⟨vs,H1,I1,r,q⟩ => ⟨I1.kIn,?_⟩) he hpl
 exact zoV M F hr hb hd hx I1 r q
end
def PK (X : Cx) (kws : List Keyword) (t : TA) : Prop :=
 ∀ (pos : Pos) (pins : List (Addr × Obj)) (s : Shared) (σ : St) (H : Hp) (Q : List V -> Hp -> Prop),Inv X pins σ H s -> t σ H Q -> wpAny (model X.prog X.w) X.A (evalAll ((backToKw pos (keywordEach kws X.env)).map (·.2))) (AP X pins σ Q) X.xe s
section
variable {X : Cx} {CX : CXT} {k : Nat} {f C : Addr} {fd : FuncData} {ps ks : List Str} {sp : Sp} {E : XK} {x m : Str} {p pos apos kpos : Pos} {e o : Expr} {es : List Expr} {kws : List Keyword} {te ta : TE} {t tk : TA} {nm : Option Str}
theorem pk_nil : PK X [] tNil := fun _ _ _ _ H Q I h => wpAny_evalAll_nil ⟨[],H,I,.nil,h⟩
theorem zrg (ha : PE X e te) (hr : PK X kws t) : PK X (⟨nm,e,kpos⟩ :: kws) (tCons te t) := by
 intro pos pins s σ H Q I h
 show wpAny _ _ (evalAll ((do let v <- eval e X.env; standAt pos; pure v) :: (backToKw pos (keywordEach kws X.env)).map (·.2))) _ _ s
 refine wpAny_evalAll_cons (wpAny_bind (thn (ha pins s σ H _ I h) fun u s1 ⟨x,H1,I1,r1,q1⟩ => wpAny_bind (wpAny_standAt (wpAny_pure ?_))))
 exact thn (hr pos pins s1 σ H1 _ I1 q1) fun us s2 ⟨xs,H2,I2,r2,q2⟩ => ⟨x :: xs,H2,I2,.cons r1 r2,q2⟩
variable {g : List Value -> List Value -> List Value} {gV : List V -> List V -> List V}
end
structure FnScope (N P : List Str) (sc : Scope) : Prop where
 kind : sc.kind = .function
 co : sc.isCoroutine = false
 gen : sc.isGenerator = false
 nd : N.Nodup
 pre : N.take P.length = P
 par : ∀ x ∈ P,sc.names.lookup x = some .local ∨ sc.names.lookup x = some .cell
 nofree : ∀ y ∈ sc.names,y.2 ≠ .free
theorem zjg {kindOf : Str -> Option NameKind} {x : Str} : ∀ {binds : List (Str × Value)} {m : Str -> Option Value},(∀ v,(x,v) ∉ binds) -> bindL kindOf binds m x = m x
 | [],_,_ => rfl
 | (n,v) :: r,m,h => by
  unfold bindL
  rw [zjg fun w hw => h w (List.mem_cons_of_mem _ hw)]
  split
  ·have : x ≠ n := by rintro rfl; exact h v List.mem_cons_self
   simp [this]
  ·rfl
theorem zji {kindOf : Str -> Option NameKind} {x : Str} : ∀ {binds : List (Str × Value)} {m : Str -> Option Value},(∀ v,(x,v) ∉ binds) -> bindC kindOf binds m x = m x
 | [],_,_ => rfl
 | (n,v) :: r,m,h => by
  unfold bindC
  rw [zji fun w hw => h w (List.mem_cons_of_mem _ hw)]
  split
  ·rfl
  ·have : x ≠ n := by rintro rfl; exact h v List.mem_cons_self
   simp [this]
theorem zjh {kindOf : Str -> Option NameKind} {x : Str} {v : Value} : ∀ {P : List Str} {vs : List Value} {i : Nat} {m : Str -> Option Value},P.Nodup -> P[i]? = some x -> vs[i]? = some v -> kindOf x = some .local →
  bindL kindOf (P.zip vs) m x = some v
 | [],_,_,_,_,h,_,_ => by simp at h
 | _ :: _,[],_,_,_,_,h,_ => by simp at h
 | p :: P,w :: vs,0,m,nd,h1,h2,hk => by
  simp at h1 h2; subst h1; subst h2
  show bindL kindOf ((p,w) :: P.zip vs) m p = _
  unfold bindL
  rw [zjg fun v hv => (List.nodup_cons.mp nd).1 (List.of_mem_zip hv).1,if_pos hk]
  simp
 | p :: P,w :: vs,i + 1,m,nd,h1,h2,hk => by
  show bindL kindOf ((p,w) :: P.zip vs) m x = _
  unfold bindL
  exact zjh (i := i) (List.nodup_cons.mp nd).2 (by simpa using h1) (by simpa using h2) hk
theorem zjj {kindOf : Str -> Option NameKind} {x : Str} {v : Value} : ∀ {P : List Str} {vs : List Value} {i : Nat} {m : Str -> Option Value},P.Nodup -> P[i]? = some x -> vs[i]? = some v -> kindOf x ≠ some .local →
  bindC kindOf (P.zip vs) m x = some v
 | [],_,_,_,_,h,_,_ => by simp at h
 | _ :: _,[],_,_,_,_,h,_ => by simp at h
 | p :: P,w :: vs,0,m,nd,h1,h2,hk => by
  simp at h1 h2; subst h1; subst h2
  show bindC kindOf ((p,w) :: P.zip vs) m p = _
  unfold bindC
  rw [zji fun v hv => (List.nodup_cons.mp nd).1 (List.of_mem_zip hv).1,if_neg hk]
  simp
 | p :: P,w :: vs,i + 1,m,nd,h1,h2,hk => by
  show bindC kindOf ((p,w) :: P.zip vs) m x = _
  unfold bindC
  exact zjj (i := i) (List.nodup_cons.mp nd).2 (by simpa using h1) (by simpa using h2) hk
def start (N : List Str) (vs : List V) : St := vs.map some ++ List.replicate (N.length - vs.length) none
def zl3 (CX : CXT) (P : Program) (w : World) (K : PySem.W.Frag) (mg : Str -> Option Value) (base : Heap) (N : List Str) (qual : Str) (scope : Scope) (f : Addr) (cd : Value) (A : Around) (outer : List Env) (s : Shared) (H : Hp) (E : XK) : Cx where
 prog := P
 w := w
 K := K
 mg := mg
 base := base
 A := A.deeper (envOfC qual scope s.heap.objs.size f cd)
 N := N
 s₀ := s
 H₀ := H
 env := envOfC qual scope s.heap.objs.size f cd
 outer := outer
 stack := envOfC qual scope s.heap.objs.size f cd :: outer
 ex := []
 calm := true
 fn := fun _ => true
 pn := []
 xe := fun e s' => wpAny (model P w) (A.deeper (envOfC qual scope s.heap.objs.size f cd)) (leaving (envOfC qual scope s.heap.objs.size f cd) e) (fun _ s'' => CX outer H s E e s'') (fun e' s'' => CX outer H s E e' s'') s'
theorem zk6 {sc : Scope} {n : Nat} {x : Str} (h : sc.names.lookup x = some .cell) : ∃ c,(cellsFrom n sc.names []).lookup x = some c := by
 have q := PySem.W.cellsFrom_some sc.names n [] (.inl h)
 exact Option.isSome_iff_exists.mp q
theorem znO {CX : CXT} {P : Program} {w : World} {K : PySem.W.Frag} {mg : Str -> Option Value} {base : Heap} {N ps : List Str} {qual : Str} {scope : Scope} {f : Addr} {cd : Value} {A : Around} {outer : List Env} {s s1 : Shared} {H : Hp} {E : XK} {us : List Value} {vs : List V}
  (S : FnScope N ps scope) (hd : A.handled = none) (e0 : Env0 P w K mg base A outer s H) (hl : vs.length = ps.length) (r : Vals vs us)
  (x : InCallC s s.heap.objs.size (bindL (envOfC qual scope s.heap.objs.size f cd).kindOf (ps.zip us) fun _ => none) (cellsFrom (s.heap.objs.size + 1) scope.names []) (bindC (envOfC qual scope s.heap.objs.size f cd).kindOf (ps.zip us) fun _ => none) s1) :
  Inv (zl3 CX P w K mg base N qual scope f cd A outer s H E) [] (start N vs) H s1 := by
 have hpl : ps.length <= N.length := by have := congrArg List.length S.pre; rw [List.length_take] at this; omega
 obtain ⟨h1,tk,rfl,hk⟩ := x.done
 have noA : ∀ b : Addr,b ∉ (zl3 CX P w K mg base N qual scope f cd A outer s H E).ex := fun b z => absurd (show b ∈ ([] : List Addr) from z) (by simp)
 refine ⟨⟨e0.mod,S.kind,rfl,rfl,Nat.le_refl _,fun y z c h1 h2 => ?_,fun y hy => ?_,fun y c _ h => ?_,fun _ => hd,Around.frames_deeper e0.frames,.inr ⟨rfl,rfl⟩,fun b z => absurd z (noA b),e0.bs,e0.bsz,fun b _ _ => noA b,fun b z => absurd z (noA b),e0.funs,e0.frf⟩,
  rfl,e0.bare,Un.kept hk,⟨_,x.toInCall.ns,fun i y v h1 h2 h3 => ?_⟩,fun y c h => ⟨_,x.cell y c h⟩,e0.hok.fresh (Nat.le_refl _),fun y c h => ?_,fun p hp => absurd (show p ∈ ([] : List (Addr × Obj)) from hp) (by simp),e0.hok.kept hk,?_⟩
 ·exact name_of_addr x.apart (PySem.mem_of_lookup h1) (PySem.mem_of_lookup h2)
 ·have hy : scope.names.lookup y = some .cell ∨ scope.names.lookup y = some .free := hy
  rcases hy with hy | hy
  ·exact zk6 hy
  ·exact absurd rfl (S.nofree _ (PySem.mem_of_lookup hy))
 ·exact Nat.le_of_lt (x.above y c (PySem.mem_of_lookup h))
 ·have hi : i < vs.length := by
   unfold start at h2
   by_cases hi : i < vs.length
   ·exact hi
   ·rw [List.getElem?_append_right (by simpa using hi)] at h2
    rw [List.getElem?_replicate] at h2
    split at h2 <;> cases h2
  have ha : vs[i]? = some v := by
   unfold start at h2
   rw [List.getElem?_append_left (by simpa using hi),List.getElem?_map] at h2
   cases e : vs[i]? with
   | none => rw [e] at h2; cases h2
   | some a => rw [e] at h2; cases h2; rfl
  obtain ⟨u,hu,rv⟩ := r.get ha
  have hp : ps[i]? = some y := by
   rw [<- S.pre,List.getElem?_take_of_lt (by omega)]; exact h1
  have ndP : ps.Nodup := by rw [<- S.pre]; exact S.nd.sublist (List.take_sublist _ _)
  refine ⟨u,rv,?_⟩
  rcases S.par y (List.mem_of_getElem? hp) with k | k
  ·exact .inl ⟨k,zjh ndP hp hu k⟩
  ·obtain ⟨c,e⟩ := zk6 (n := s.heap.objs.size + 1) k
   refine .inr ⟨.inl k,c,e,?_⟩
   have q := x.cell y c e
   rw [zjj ndP hp hu (by show scope.names.lookup y ≠ _; rw [k]; decide)] at q
   exact q
 ·exact e0.hok.fresh (Nat.le_of_lt (x.above y c (PySem.mem_of_lookup h)))
 ·unfold start
  show _ = N.length
  rw [List.length_append,List.length_map,List.length_replicate]
  omega
theorem fn_of {CX : CXT} {P : Program} {w : World} {K : PySem.W.Frag} {mg : Str -> Option Value} {base : Heap} {k : Nat} {f : Addr} {name qual : Str} {params : Arguments} {body : List Stmt} {scope : Scope} {dV kV doc pm cdv ct oc : Value} {an od : Option Addr}
  {osl : Array (Option Value)} {N ps : List Str} {sp : Sp} (lk : K.lookup f = some ⟨oc,od,.func (PySem.W.fnOf name qual params body scope dV kV doc pm an cdv ct),osl⟩) (hcd : PySem.W.codeIn K cdv qual = true) (S : FnScope N ps scope)
  (len : ∀ vs H Q E,sp vs H Q E -> vs.length = ps.length)
  (hbody : ∀ (A : Around) (outer : List Env) (s : Shared) (H : Hp) (vs : List V) (Q : VK) (E : XK),Room k (A.deeper (envOfC qual scope s.heap.objs.size f cdv)) -> sp vs H Q E →
   ∃ t,PSs (zl3 CX P w K mg base N qual scope f cdv A outer s H E) body t /\ t { nx := fun _ H' => Q .non H',rt := Q } (start N vs) H) :
  FnOk P w K mg base CX (k + 1) f (PySem.W.fnOf name qual params body scope dV kV doc pm an cdv ct) ps sp := by
 refine ⟨len,fun A outer s H args us vs Q E hr e0 hb r hsp => ?_⟩
 have hl := len _ _ _ _ hsp
 have KX : K.In s.heap := e0.mod.kin.keeps fun b o e => (e0.bs b o e).1
 have lim : s.heap.NoLimit := e0.mod.nolimit.keeps fun b o e => (e0.bs b o e).1
 have hkind : ∀ y ∈ ps.zip us,scope.names.lookup y.1 = some .local ∨ (scope.names.lookup y.1 = some .cell /\ ((cellsFrom (s.heap.objs.size + 1) scope.names []).lookup y.1).isSome = true) := fun ⟨n,v⟩ hy => by
  rcases S.par n (List.of_mem_zip hy).1 with q | q
  ·exact .inl q
  ·exact .inr ⟨q,PySem.W.cellsFrom_some _ _ _ (.inl q)⟩
 refine codeAny_call_function hr.depth (KX _ _ lk) rfl S.co S.gen rfl (PySem.W.codeRec_of KX hcd) (hb _ _ _ _ ?_)
 refine wpAny_newFunctionEnv_cells S.kind hkind fun env he s1 x => ?_
 subst he
 refine ⟨lim.keeps x.toInCall.keep,codeAny_func ?_⟩
 obtain ⟨t,ht,hq⟩ := hbody A outer s H vs Q E (hr.deeper _) hsp
 have I : Inv (zl3 CX P w K mg base N qual scope f cdv A outer s H E) [] (start N vs) H s1 := znO S hr.hd e0 hl r x
 refine wpAny_mono (ht [] s1 (start N vs) H _ I hq) (fun fl s' hs => ?_) fun e s' hs => hs
 have fin : ∀ {σ' : St} {H' : Hp} {v : V} {u : Value},Inv (zl3 CX P w K mg base N qual scope f cdv A outer s H E) [] σ' H' s' -> RelV v u -> Q v H' -> CE outer P w H s Q u s' :=
  fun {σ' H' v u} J rv q => ⟨v,H',J.os,J.bare,J.base,J.hok,rv,q⟩
 cases fl with
 | ret u =>
  obtain ⟨v,σ',H',J,rv,q⟩ := hs
  exact fin J rv q
 | next =>
  obtain ⟨σ',H',J,q⟩ := hs
  exact fin (v := V.non) (u := Value.none) J rfl q
 | brk =>
  obtain ⟨_,_,_,q⟩ := hs
  exact False.elim q
 | cont =>
  obtain ⟨_,_,_,q⟩ := hs
  exact False.elim q
section
variable {X : Cx} {x : Str} {p pos : Pos} {e : Expr} {es : List Expr} {t : TA} {id T : String} {r : List V -> Hp -> VK -> Prop}
def tCB (r : List V -> Hp -> VK -> Prop) (t : TA) : TE := fun σ H Q => t σ H fun vs H1 => r vs H1 Q
theorem zkD (hc : CallR X (.builtin id) r) (hg : Gl X x) (hm : X.mg x = none) (hv : bootBuiltins x = some (.builtin id)) (ha : PA X (e :: es) t) (hn : autoParam (x ≠ "__name__") AutoP.a1._auto_1) (hdb : autoParam ((x == ("__debug__" : Str)) = false) AutoP.a1._auto_1)
  (he : autoParam (starEach (e :: es) X.env = (false,eval e X.env) :: starEach es X.env) AutoP.a3._auto_1) (hpl : autoParam ((backTo pos (starEach es X.env)).any (·.1) = false) AutoP.a3._auto_1) : PE X (.Call (.Name x p) (e :: es) [] pos) (tCB r t) := by
 intro pins s σ H Q I h
 refine wpAny_Call_Name_kw (zdW I hg hm hv ?_ hn hdb)
 exact PyProof.Rows.callWith_builtin1 (thn (ha pos pins s σ H _ I h) fun us s1 ⟨vs,H1,I1,r1,q1⟩ => hc pins s1 σ H1 vs us Q I1 r1 q1) he hpl
theorem zmS (hc : CallR X (.type T) r) (hg : Gl X x) (hm : X.mg x = none) (hv : bootBuiltins x = some (.type T)) (ha : PA X (e :: es) t) (hn : autoParam (x ≠ "__name__") AutoP.a1._auto_1) (hdb : autoParam ((x == ("__debug__" : Str)) = false) AutoP.a1._auto_1)
  (he : autoParam (starEach (e :: es) X.env = (false,eval e X.env) :: starEach es X.env) AutoP.a3._auto_1) (hpl : autoParam ((backTo pos (starEach es X.env)).any (·.1) = false) AutoP.a3._auto_1) : PE X (.Call (.Name x p) (e :: es) [] pos) (tCB r t) := by
 intro pins s σ H Q I h
 refine wpAny_Call_Name_kw (zdW I hg hm hv ?_ hn hdb)
 exact PyProof.Rows.callWith_type1 (thn (ha pos pins s σ H _ I h) fun us s1 ⟨vs,H1,I1,r1,q1⟩ => hc pins s1 σ H1 vs us Q I1 r1 q1) he hpl
end
end L2
namespace HT
open PySem PyProof.Rows
section
open PySem.SeqAt
open PySem.AutoSeq1 (wpAny_loadPart')
open PySem.MeetsSeq PySem.MeetsSeq2 PySem.MeetsSeq3
end
section
variable {prog : Program} {w : World} {A : Around} {E : Value -> Shared -> Prop} {s : Shared}
theorem cat_tup {t b : Addr} {vs ws : List Value} {Q : Value -> Shared -> Prop} (ht : IsTup s.heap t vs.toArray) (hb : IsTup s.heap b ws.toArray) (hv : vs ≠ [])
  (h1 : ws = [] -> Q (.ref t) s) (h2 : ws ≠ [] -> Q (.ref s.heap.objs.size) { s with heap := s.heap.push { cls := .type "tuple", data := .seq (vs ++ ws).toArray } })
  (hsz : vs.length + ws.length <= sizeLine) : wpAny (model prog w) A (binaryOp .Add (.ref t) (.ref b)) Q E s := by
 obtain ⟨⟨cls,dd,data,sl⟩,ho,hc,n,hd⟩ := id ht
 obtain ⟨⟨cls2,dd2,data2,sl2⟩,ho2,hc2,n2,hd2⟩ := id hb
 simp only at hc hd hc2 hd2
 subst hc hd hc2 hd2
 have e : vs.toArray ++ ws.toArray = (vs ++ ws).toArray := by simp
 by_cases hw : ws = []
 ·exact concat_meets ⟨_,ho,rfl⟩ ⟨_,ho2,rfl⟩ noFill_tuple_add seq_tuple_add PySem.F.slot_tuple_add PySem.F.entry_tuple_add (PySem.F.args_tuple_add_2 _ _)
   (tuple_addW1 t b vs.toArray ws.toArray n n2 dd dd2 sl sl2 (by simpa using hv) (by simp [hw])) ⟨ho,ho2,h1 hw⟩
 ·refine concat_meets ⟨_,ho,rfl⟩ ⟨_,ho2,rfl⟩ noFill_tuple_add seq_tuple_add PySem.F.slot_tuple_add PySem.F.entry_tuple_add (PySem.F.args_tuple_add_2 _ _)
   (tuple_addW2 t b vs.toArray ws.toArray n n2 dd dd2 sl sl2 (by simpa using hv) (by simpa using hw) (by rw [List.size_toArray,List.size_toArray]; exact hsz)) ⟨ho,ho2,?_⟩
  rw [e]
  exact h2 hw
def sIx (n d : Nat) : Option Int -> Nat
 | none => d
 | some v => if v < 0 then (v + (n : Int)).toNat else min v.toNat n
theorem sIx_none (n d : Nat) : sIx n d none = d := rfl
theorem sIx_nat (n d k : Nat) : sIx n d (some (k : Int)) = min k n := by
 show (if (k : Int) < 0 then ((k : Int) + (n : Int)).toNat else min (k : Int).toNat n) = min k n
 rw [if_neg (by omega),Int.toNat_natCast]
theorem sIx_le (n d : Nat) (hd : d <= n) (o : Option Int) : sIx n d o <= n := by
 cases o with
 | none => exact hd
 | some v =>
  show (if v < 0 then (v + (n : Int)).toNat else min v.toNat n) <= n
  by_cases hv : v < 0
  ·rw [if_pos hv]; omega
  ·rw [if_neg hv]; exact Nat.min_le_right _ _
theorem zok (v : Int) (n d : Nat) : (if v < 0 then max (v + (n : Int)) 0 else min v (n : Int)) = ((sIx n d (some v) : Nat) : Int) := by
 show (if v < 0 then max (v + (n : Int)) 0 else min v (n : Int)) = (((if v < 0 then (v + (n : Int)).toNat else min v.toNat n) : Nat) : Int)
 by_cases hv : v < 0
 ·simp only [if_pos hv]; omega
 ·simp only [if_neg hv]; omega
theorem zlZ (lo hi : Option Int) (n : Nat) : Builtin.Slice.sliceAdjust lo hi 1 (n : Int) = (((sIx n 0 lo : Nat) : Int),((sIx n n hi : Nat) : Int)) := by
 have h1 : ¬ ((1 : Int) < 0) := by omega
 unfold Builtin.Slice.sliceAdjust
 simp only [h1,if_false]
 refine Prod.ext ?_ ?_
 ·cases lo with
  | none => rfl
  | some v => exact zok v n 0
 ·cases hi with
  | none => rfl
  | some v => exact zok v n n
theorem zlo (i j : Nat) : Builtin.Slice.slicePlaces (i : Int) (j : Int) 1 = j - i := by
 unfold Builtin.Slice.slicePlaces
 have h1 : (1 : Int) > 0 := by omega
 simp only [h1,if_true,Int.ediv_one]
 split <;> omega
theorem zgw {v : Value} {o : Option Int} {Q : Option Int -> Shared -> Prop} (p : IsPart v o) (h : Q o s) : wpAny (model prog w) A (Builtin.Slice.slicePartIndex v) Q E s := by
 cases p with
 | none => exact slicePart_none h
 | int i t => exact slicePart_int h
theorem zeQ {sl : Addr} {vl vu : Value} {lo hi : Option Int} {n : Nat} {Q : Int × Int × Nat -> Shared -> Prop} (hs : s.heap.IsSliceOf sl vl vu .none) (pl : IsPart vl lo) (pu : IsPart vu hi)
  (h : Q (((sIx n 0 lo : Nat) : Int),1,sIx n n hi - sIx n 0 lo) s) : wpAny (model prog w) A (Builtin.Slice.sliceApplied (.ref sl) (pure (n : Int))) Q E s := by
 obtain ⟨os,hos,hcs,hds⟩ := id hs
 unfold Builtin.Slice.sliceApplied Builtin.Slice.sliceFields
 refine wpAny_bind (wpAny_bind (wpAny_field hos hds (x := vl) rfl (wpAny_bind (wpAny_field hos hds (x := vu) rfl (wpAny_bind (wpAny_field hos hds (x := .none) rfl (wpAny_pure ?_)))))))
 refine wpAny_bind (slicePart_none ?_)
 show wpAny _ _ (if ((1 : Int) == 0) = true then _ else _) _ _ s
 rw [if_neg (by decide)]
 refine wpAny_bind (zgw pl (wpAny_bind (zgw pu (wpAny_bind (wpAny_pure ?_)))))
 show wpAny _ _ (match Builtin.Slice.sliceAdjust lo hi 1 (n : Int) with | (lo,hi) => pure (lo,(1 : Int),Builtin.Slice.slicePlaces lo hi 1)) _ _ s
 rw [zlZ lo hi n]
 show wpAny _ _ (pure (((sIx n 0 lo : Nat) : Int),(1 : Int),Builtin.Slice.slicePlaces ((sIx n 0 lo : Nat) : Int) ((sIx n n hi : Nat) : Int) 1)) _ _ s
 rw [zlo]
 exact wpAny_pure h
theorem zo6 (xs : Array Value) (i k : Nat) : ((List.range k).filterMap fun (m : Nat) => xs[((i : Int) + (m : Int) * 1).toNat]?).toArray = ((xs.toList.drop i).take k).toArray := by
 have e : (fun (m : Nat) => xs[((i : Int) + (m : Int) * 1).toNat]?) = fun m => xs[i + m]? := by
  funext m
  have : ((i : Int) + (m : Int) * 1).toNat = i + m := by omega
  rw [this]
 rw [e]
 have := pick_run xs i k
 rw [List.filterMap_map] at this
 have e2 : ((fun x => xs[x]?) ∘ fun x => i + x) = fun m => xs[i + m]? := rfl
 rw [e2] at this
 rw [this]
theorem getItem_tuple_cut {t sl : Addr} {items : Array Value} {vl vu : Value} {lo hi : Option Int} {Q : Value -> Shared -> Prop} (ht : IsTup s.heap t items) (hs : s.heap.IsSliceOf sl vl vu .none) (pl : IsPart vl lo) (pu : IsPart vu hi)
  (hw : ¬ (sIx items.size 0 lo = 0 /\ sIx items.size items.size hi = items.size))
  (h : Q (.ref s.heap.objs.size) { s with heap := s.heap.push { cls := .type "tuple", data := .seq ((items.toList.drop (sIx items.size 0 lo)).take (sIx items.size items.size hi - sIx items.size 0 lo)).toArray } })
  (hsz : items.size <= sizeLine) : wpAny (model prog w) A (getItem (.ref t) (.ref sl)) Q E s := by
 have htake : sizeOk (.seq ((items.toList.drop (sIx items.size 0 lo)).take (sIx items.size items.size hi - sIx items.size 0 lo)).toArray) := by
  show ((items.toList.drop (sIx items.size 0 lo)).take (sIx items.size items.size hi - sIx items.size 0 lo)).toArray.size <= sizeLine
  rw [List.size_toArray,List.length_take,List.length_drop,Array.length_toList]
  omega
 have hj : sIx items.size items.size hi <= items.size := sIx_le _ _ (Nat.le_refl _) hi
 obtain ⟨os,hos,hcs,hds⟩ := id hs
 have hTs : s.TypeIs (.ref sl) "slice" := ⟨os,hos,hcs⟩
 unfold getItem
 try with_reducible refine wpAny_holding ?_
 first | refine wpAny_bind (wpAny_pure ?_) | skip
 refine wpAny_bind (wpAny_sequenceKey ht.typeIs (by decide) ?_)
 refine wpAny_bind (wpAny_callSpecial?_slot (name := Str.ofString "__getitem__") ht.typeIs PyProof.Rows.slot_tuple_getitem
  (wpAny_call_entry PyProof.Rows.slot_tuple_getitem ht.typeIs entry_tuple_getitem ?_ (args_tuple_getitem _ _)))
 show wpAny _ _ (Builtin.Tuple.tupleItemsOf (.ref t) >>= _) _ _ s
 refine wpAny_bind (tupleItemsOf_ ht ?_)
 refine wpAny_bind (wpAny_typeOf hTs ?_)
 rw [if_pos (by decide)]
 refine wpAny_bind (zeQ hs pl pu ?_)
 have hno : ¬ ((((sIx items.size 0 lo : Nat) : Int) == 0 && (1 : Int) == 1 && (sIx items.size items.size hi - sIx items.size 0 lo) == items.size) = true) := by
  intro q
  rw [Bool.and_eq_true,Bool.and_eq_true] at q
  have q1 : ((sIx items.size 0 lo : Nat) : Int) = 0 := eq_of_beq q.1.1
  have q2 : sIx items.size items.size hi - sIx items.size 0 lo = items.size := eq_of_beq q.2
  exact hw ⟨by omega,by omega⟩
 show wpAny _ _ (if (((sIx items.size 0 lo : Nat) : Int) == 0 && (1 : Int) == 1 && (sIx items.size items.size hi - sIx items.size 0 lo) == items.size) = true then _ else _) _ _ s
 rw [if_neg hno,zo6]
 first
  | exact wpAny_bind (m := Builtin.Tuple.tupleExact _) (wpAny_newObj_type (wpAny_pure ⟨_,rfl,wpAny_pure h⟩) htake)
  | exact wpAny_bind (m := Builtin.Tuple.tupleExact _) (wpAny_newObj_type (wpAny_bind (wpAny_pure (wpAny_pure ⟨_,rfl,wpAny_pure h⟩))) htake)
  | exact wpAny_bind (wpAny_bind (m := Builtin.Tuple.tupleExact _) (wpAny_newObj_type (wpAny_pure (wpAny_pure ⟨_,rfl,wpAny_pure h⟩)) htake))
  | exact wpAny_bind (wpAny_bind (m := Builtin.Tuple.tupleExact _) (wpAny_newObj_type (wpAny_pure ⟨_,rfl,wpAny_pure h⟩) htake))
end
end HT
namespace L2
open PySem PySem.Spec PyProof.Rows
abbrev TO := St -> Hp -> (Option Int -> Hp -> Prop) -> Prop
def PO (X : Cx) (e : Option Expr) (t : TO) : Prop :=
 ∀ (pins : List (Addr × Obj)) (s : Shared) (σ : St) (H : Hp) (Q : Option Int -> Hp -> Prop),Inv X pins σ H s -> t σ H Q →
  wpAny (model X.prog X.w) X.A (evalPart e X.env) (fun u s' => ∃ o H',Inv X pins σ H' s' /\ IsPart u o /\ Q o H') X.xe s
def zqA : TO := fun _ H Q => Q none H
def tPart (t : TE) : TO := fun σ H Q => t σ H fun x H1 => ∃ i,x = .int i /\ Q (some i) H1
section
variable {X : Cx} {e : Expr} {te : TE} {lo hi : Option Expr} {tl th : TO} {pos p2 : Pos}
theorem zrf : PO X none zqA := by
 intro pins s σ H Q I h
 rw [evalPart_none]
 exact wpAny_pure ⟨none,H,I,.none,h⟩
theorem zre (h : PE X e te) : PO X (some e) (tPart te) := by
 intro pins s σ H Q I hw
 rw [evalPart_some]
 refine thn (h pins s σ H _ I hw) fun u s1 ⟨x,H1,I1,r1,q1⟩ => ?_
 obtain ⟨i,rfl,q⟩ := q1
 obtain ⟨t,rfl⟩ := r1
 exact ⟨some i,H1,I1,.int i t,q⟩
def SlR (X : Cx) (r : V -> Option Int -> Option Int -> Hp -> VK -> Prop) : Prop :=
 ∀ (pins : List (Addr × Obj)) (s : Shared) (σ : St) (H : Hp) (x : V) (v vl vu : Value) (lo hi : Option Int) (sl : Addr) (Q : VK),Inv X pins σ H s -> RelV x v -> s.heap.IsSliceOf sl vl vu .none -> IsPart vl lo -> IsPart vu hi -> r x lo hi H Q →
  ∃ T id,typeLookup (.type T) "__getitem__" = pure (some (.builtin id)) /\ s.TypeIs v T /\ wpAny (model X.prog X.w) X.A (getItem v (.ref sl)) (EP X pins σ Q) X.xe s
theorem SlR.or {r r' : V -> Option Int -> Option Int -> Hp -> VK -> Prop} (h : SlR X r) (h' : SlR X r') : SlR X (fun x lo hi H Q => r x lo hi H Q ∨ r' x lo hi H Q) := by
 intro pins s σ H x v vl vu lo hi sl Q I rx hs pl pu q
 rcases q with q | q
 ·exact h pins s σ H x v vl vu lo hi sl Q I rx hs pl pu q
 ·exact h' pins s σ H x v vl vu lo hi sl Q I rx hs pl pu q
def tSl (r : V -> Option Int -> Option Int -> Hp -> VK -> Prop) (te : TE) (tl th : TO) : TE := fun σ H Q => te σ H fun x H1 => tl σ H1 fun l H2 => th σ H2 fun u H3 => r x l u H3 Q
theorem zo8 {r : V -> Option Int -> Option Int -> Hp -> VK -> Prop} (hr : SlR X r) (he : PE X e te) (hl : PO X lo tl) (hu : PO X hi th) : PE X (.Subscript e (.Slice lo hi none p2) pos) (tSl r te tl th) := by
 intro pins s σ H Q I h
 refine Subscript_ (thn (he pins s σ H _ I h) fun v s1 ⟨x,H1,I1,r1,q1⟩ => ?_)
 refine wpAny_Slice (thn (hl pins s1 σ H1 _ I1 q1) fun vl s2 ⟨l,H2,I2,pl,q2⟩ => thn (hu pins s2 σ H2 _ I2 q2) fun vu s3 ⟨u,H3,I3,pu,q3⟩ => ?_)
 rw [evalPart_none]
 refine wpAny_pure ?_
 have I4 : Inv X pins σ H3 { s3 with heap := s3.heap.push { cls := .type "slice", data := .fields #[vl,vu,.none] } } := I3.kept (t' := s3.toks) fun b ob q => Heap.get?_push_of_some _ q
 obtain ⟨T,id,hT,ht,hg⟩ := hr pins { s3 with heap := s3.heap.push { cls := .type "slice", data := .fields #[vl,vu,.none] } } σ H3 x v vl vu l u s3.heap.objs.size Q I4 r1 (Heap.IsSliceOf.new ..) pl pu q3
 show wpAny (model X.prog X.w) X.A (subscriptTail e (.Slice lo hi none p2) v (.ref s3.heap.objs.size)) (EP X pins σ Q) X.xe { s3 with heap := s3.heap.push { cls := .type "slice", data := .fields #[vl,vu,.none] } }
 exact tail_any (ops := [.ref s3.heap.objs.size,v]) ht hT hg (by with_unfolding_all rfl)
def zqp (xs : List V) (lo hi : Option Int) : List V := (xs.drop (HT.sIx xs.length 0 lo)).take (HT.sIx xs.length xs.length hi - HT.sIx xs.length 0 lo)
theorem zf4 (xs : List V) (lo hi : Option Int) : (zqp xs lo hi).length <= xs.length := by
 unfold zqp
 rw [List.length_take,List.length_drop]
 omega
def rSlT (K : PySem.W.Frag) : V -> Option Int -> Option Int -> Hp -> VK -> Prop := fun x lo hi H Q => ∃ a xs,x = .ref a /\ SqT K H a xs ∧
 ¬ (HT.sIx xs.length 0 lo = 0 /\ HT.sIx xs.length xs.length hi = xs.length) /\ ∀ p,H p = none -> Q (.ref p) (upd H p (.tup (zqp xs lo hi)))
theorem sl_tup : SlR X (rSlT X.K) := by
 intro pins s σ H x v vl vu lo hi sl Q I rx hs pl pu h
 obtain ⟨a,xs,rfl,hx,hw,q⟩ := h
 cases rx
 obtain ⟨its,r,ht,hz⟩ := I.tuple hx
 have hlen : its.toArray.size = xs.length := by rw [List.size_toArray]; exact r.length.symm
 refine ⟨"tuple", _,PyProof.Rows.slot_tuple_getitem.lookup,ht.typeIs,?_⟩
 refine HT.getItem_tuple_cut ht hs pl pu (by rw [hlen]; exact hw) ?_ (by rw [hlen]; exact hz)
 rw [hlen]
 refine ⟨.ref s.heap.objs.size,_,I.laid (t' := s.toks) (o := .tup (zqp xs lo hi)) (fun b ob q => Heap.get?_push_of_some _ q) (Nat.le_refl _) ?_,rfl,q _ (I.hok.fresh (Nat.le_refl _))⟩
 exact ⟨Nat.le_trans (zf4 xs lo hi) hz,_,(r.drop (HT.sIx xs.length 0 lo)).take (HT.sIx xs.length xs.length hi - HT.sIx xs.length 0 lo),IsTup.new _ _,_,Heap.get?_push_size _ rfl,rfl⟩
def rCatT (K : PySem.W.Frag) : R2 := fun x y H Q => ∃ a b xs ys,x = .ref a /\ y = .ref b /\ SqT K H a xs /\ SqT K H b ys /\ xs ≠ [] /\ xs.length + ys.length <= sizeLine ∧
 (ys = [] -> Q (.ref a) H) /\ (ys ≠ [] -> ∀ p,H p = none -> Q (.ref p) (upd H p (.tup (xs ++ ys))))
theorem Vals.nil_iff {xs : List V} {us : List Value} (r : Vals xs us) : us = [] ↔ xs = [] := by
 cases r with
 | nil => simp
 | cons _ _ => simp
theorem zrB : OpR X (binaryOp .Add) (rCatT X.K) := by
 intro pins s σ H x y v u Q I rx ry h
 obtain ⟨a,b,xs,ys,rfl,rfl,ha,hb,hx,hz,q1,q2⟩ := h
 cases rx
 cases ry
 obtain ⟨its,r1,p1,_⟩ := I.tuple ha
 obtain ⟨its2,r2,p2,_⟩ := I.tuple hb
 refine HT.cat_tup p1 p2 (fun z => hx (r1.nil_iff.mp z)) (fun z => ⟨.ref a,H,I,rfl,q1 (r2.nil_iff.mp z)⟩) (fun z => ?_) (by rw [<- r1.length,<- r2.length]; exact hz)
 refine ⟨.ref s.heap.objs.size,_,I.laid (t' := s.toks) (o := .tup (xs ++ ys)) (fun b ob q => Heap.get?_push_of_some _ q) (Nat.le_refl _) ?_,rfl,q2 (fun w => z (r2.nil_iff.mpr w)) _ (I.hok.fresh (Nat.le_refl _))⟩
 exact ⟨by rw [List.length_append]; exact hz,_,r1.append r2,IsTup.new _ _,_,Heap.get?_push_size _ rfl,rfl⟩
end
def ixN (n : Nat) (i : Int) : Option Nat := if 0 <= i then (if i < n then some i.toNat else none) else if -(n : Int) <= i then some (i + n).toNat else none
def atI {α : Type} (xs : List α) (i : Int) : Option α := (ixN xs.length i).bind fun j => xs[j]?
theorem znK {n : Nat} {i : Int} {j : Nat} (h : ixN n i = some j) : seqIndex? i n = some j /\ j < n /\ -(n : Int) <= i /\ i < n := by
 unfold ixN at h
 by_cases h0 : 0 <= i
 ·rw [if_pos h0] at h
  by_cases h1 : i < n
  ·rw [if_pos h1] at h
   have e : i.toNat = j := Option.some.inj h
   exact ⟨by rw [seqIndex_of h0 h1,e],by omega,by omega,h1⟩
  ·rw [if_neg h1] at h; cases h
 ·rw [if_neg h0] at h
  by_cases h1 : -(n : Int) <= i
  ·rw [if_pos h1] at h
   have e : (i + n).toNat = j := Option.some.inj h
   exact ⟨by rw [seqIndex_neg (by omega) h1,e],by omega,h1,by omega⟩
  ·rw [if_neg h1] at h; cases h
theorem zj8 {α : Type} {xs : List α} {i : Int} {v : α} (h : atI xs i = some v) : ∃ j,seqIndex? i xs.length = some j /\ xs[j]? = some v /\ j < xs.length /\ -(xs.length : Int) <= i /\ i < xs.length := by
 unfold atI at h
 cases e : ixN xs.length i with
 | none => rw [e] at h; cases h
 | some j =>
  rw [e] at h
  obtain ⟨h1,h2,h3,h4⟩ := znK e
  exact ⟨j,h1,h,h2,h3,h4⟩
def zkb (b : Expr) : Prop := ∀ o i,subscripted b false o i = operate [o,i] (getItem o i)
def IxR (X : Cx) (r : R2) : Prop :=
 ∀ (value slice : Expr) (pins : List (Addr × Obj)) (s : Shared) (σ : St) (H : Hp) (x y : V) (v u : Value) (Q : VK),Inv X pins σ H s -> RelV x v -> RelV y u -> r x y H Q →
  subscripted slice false v u = operate [v,u] (getItem v u) -> wpAny (model X.prog X.w) X.A (subscriptTail value slice v u) (EP X pins σ Q) X.xe s
def MtR (X : Cx) (id : String) (r : V -> List V -> Hp -> VK -> Prop) : Prop :=
 ∀ (pins : List (Addr × Obj)) (s : Shared) (σ : St) (H : Hp) (x : V) (xs : List V) (v : Value) (us : List Value) (Q : VK),Inv X pins σ H s -> RelV x v -> Vals xs us -> r x xs H Q →
  wpAny (model X.prog X.w) X.A (call (.builtin id) (v :: us)) (EP X pins σ Q) X.xe s
section
variable {X : Cx} {a b : Expr} {ta tb : TE} {pos : Pos}
theorem IxR.or {r r' : R2} (h : IxR X r) (h' : IxR X r') : IxR X (fun x y H Q => r x y H Q ∨ r' x y H Q) := by
 intro value slice pins s σ H x y v u Q I rx ry q hs
 rcases q with q | q
 ·exact h value slice pins s σ H x y v u Q I rx ry q hs
 ·exact h' value slice pins s σ H x y v u Q I rx ry q hs
theorem pe_ix {r : R2} (hr : IxR X r) (ha : PE X a ta) (hb : PE X b tb) (hs : zkb b) : PE X (.Subscript a b pos) (tOp r ta tb) := by
 intro pins s σ H Q I h
 exact Subscript_ (binT ha hb I h fun v u s2 x y H2 I2 rx ry q => hr a b pins s2 σ H2 x y v u Q I2 rx ry q (hs _ _))
def rIxL (K : PySem.W.Frag) : R2 := fun x y H Q => ∃ p xs i v,x = .ref p /\ y = .int i /\ SqL K H p xs /\ atI xs i = some v /\ Q v H
def rIxT (K : PySem.W.Frag) : R2 := fun x y H Q => ∃ p xs i v,x = .ref p /\ y = .int i /\ SqT K H p xs /\ atI xs i = some v /\ Q v H
def rIxS : R2 := fun x y H Q => ∃ z i c,x = .str z /\ y = .int i /\ z.length <= sizeLine /\ atI z.cps.toList i = some c /\ Q (.str ⟨#[c]⟩) H
theorem ix_list : IxR X (rIxL X.K) := by
 intro value slice pins s σ H x y v u Q I rx ry h hs
 obtain ⟨p,xs,i,z,rfl,rfl,hq,he,q⟩ := h
 cases rx
 obtain ⟨t,rfl⟩ := ry
 obtain ⟨its,r,pl,hz⟩ := I.list hq
 obtain ⟨j,h1,h2,h3,h4,h5⟩ := zj8 he
 obtain ⟨w,ew,rw'⟩ := r.get h2
 have hl := r.length
 have hn := zgD
 have fin : EP X pins σ Q w s := ⟨z,H,I,rw',q⟩
 by_cases h0 : 0 <= i
 ·have hj : i.toNat = j := by
   rw [seqIndex_of h0 h5] at h1
   exact Option.some.inj h1
  exact item_listR pl.isList h0 (by omega) (by rw [hj]; simpa using ew) fin hs
 ·have hj : (i + (its.toArray.size : Int)).toNat = j := by
   rw [seqIndex_neg (by omega) h4] at h1
   rw [List.size_toArray,<- hl]
   exact Option.some.inj h1
  exact subscriptTail_builtinR (x := w) pl.isList.typeIs slot_list_getitem.lookup
   (wpAny_getItem_list_neg (Q := fun r s' => r = w /\ EP X pins σ Q r s') pl.isList (by omega) (by rw [List.size_toArray] <;> omega) (by omega) (by rw [hj]; simpa using ew) ⟨rfl,fin⟩) hs
theorem ix_tup : IxR X (rIxT X.K) := by
 intro value slice pins s σ H x y v u Q I rx ry h hs
 obtain ⟨p,xs,i,z,rfl,rfl,hq,he,q⟩ := h
 cases rx
 obtain ⟨t,rfl⟩ := ry
 obtain ⟨its,r,pl,hz⟩ := I.tuple hq
 obtain ⟨j,h1,h2,h3,h4,h5⟩ := zj8 he
 obtain ⟨w,ew,rw'⟩ := r.get h2
 have hl := r.length
 have hn := zgD
 have fin : EP X pins σ Q w s := ⟨z,H,I,rw',q⟩
 exact subscriptTail_builtinR (x := w) pl.typeIs slot_tuple_getitem.lookup
  (getItem_tuple (j := j) (Q := fun r s' => r = w /\ EP X pins σ Q r s') pl (by omega) (by omega) (by rw [List.size_toArray,<- hl]; exact h1) (by simpa using ew) ⟨rfl,fin⟩) hs
theorem ix_str : IxR X rIxS := by
 intro value slice pins s σ H x y v u Q I rx ry h hs
 obtain ⟨z,i,c,rfl,rfl,hz,he,q⟩ := h
 obtain ⟨t,rfl⟩ := rx
 obtain ⟨t',rfl⟩ := ry
 obtain ⟨j,h1,h2,h3,h4,h5⟩ := zj8 he
 have hl : z.cps.toList.length = z.length := by simp [Str.length]
 rw [hl] at h1 h4 h5
 have hn := zgD
 exact tail_any (typeIs_str s z t) slot_str_getitem.lookup (getItem_str (c := c) (by
  have e1 : decide (i < -(2 ^ 63 : Int)) = false := decide_eq_false (by omega)
  have e2 : decide (i ≥ 2 ^ 63) = false := decide_eq_false (by omega)
  rw [e1,e2,Bool.or_false]) (by rw [h1]; simpa using h2) ⟨.str ⟨#[c]⟩,H,I.tok _,⟨_,rfl⟩,q⟩) hs
def rIx (K : PySem.W.Frag) : R2 := fun x y H Q => rIxL K x y H Q ∨ rIxT K x y H Q ∨ rIxS x y H Q
theorem ix_seq : IxR X (rIx X.K) := ix_list.or (ix_tup.or ix_str)
theorem zlL (its : List Value) (n j : Nat) (u : Value) : Obj.mapSeq (·.setIfInBounds j u) { cls := .type "list", data := .seq its.toArray n } = { cls := .type "list", data := .seq (its.set j u).toArray n } := by
 simp [Obj.mapSeq]
theorem Inv.lst {pins : List (Addr × Obj)} {σ : St} {H : Hp} {s : Shared} {p : Addr} {xs : List V} (I : Inv X pins σ H s) (h : H p = some (.lst xs)) :
  ∃ (its : List Value) (n : Nat),Vals xs its /\ s.heap.get? p = some { cls := .type "list", data := .seq its.toArray n } /\ xs.length <= sizeLine := by
 obtain ⟨z,its,n,r,e⟩ := I.hok p _ h
 exact ⟨its,n,r,e,z⟩
theorem Inv.lstUpd {pins : List (Addr × Obj)} {σ : St} {H : Hp} {s : Shared} {p : Addr} {xs ys : List V} {its its' : List Value} {n n' : Nat} {f : Obj -> Obj} (I : Inv X pins σ H s) (h : H p = some (.lst xs))
  (ho : s.heap.get? p = some { cls := .type "list", data := .seq its.toArray n }) (hf : f { cls := .type "list", data := .seq its.toArray n } = { cls := .type "list", data := .seq its'.toArray n' }) (r : Vals ys its') (hz : ys.length <= sizeLine) (t : Nat) :
  Inv X pins σ (upd H p (.lst ys)) { s with heap := s.heap.update p f,toks := t } := by
 have e : (s.heap.update p f).get? p = some { cls := .type "list", data := .seq its'.toArray n' } := by
  rw [Heap.get?_update_self f ho (by rw [hf] <;> rfl),hf]
 refine I.write (x := p) (e := p) (by rw [h]; trivial) (.inl rfl) (fun b u hb q => (Heap.get?_update_other _ _ (Ne.symm hb)).trans q) ⟨_,e⟩ ?_
 exact ⟨hz,its',n',r,e⟩
def rSetL : V -> V -> V -> Hp -> (Hp -> Prop) -> Prop := fun o i v H Q => ∃ p xs k j,o = .ref p /\ i = .int k /\ H p = some (.lst xs) /\ ixN xs.length k = some j /\ Q (upd H p (.lst (xs.set j v)))
theorem zoJ : PSet X rSetL := by
 intro pins s σ H o i v ov iv u Q I ro ri rv h
 obtain ⟨p,xs,k,j,rfl,rfl,hp,hj,q⟩ := h
 cases ro
 obtain ⟨t,rfl⟩ := ri
 obtain ⟨its,n,r,ho,hz⟩ := I.lst hp
 obtain ⟨h1,h2,h3,h4⟩ := znK hj
 have hl := r.length
 have hn := zgD
 have I' : Inv X pins σ (upd H p (.lst (xs.set j v))) { s with heap := s.heap.update p (Obj.mapSeq (·.setIfInBounds j u)) } :=
  I.lstUpd hp ho (zlL its n j u) (r.set rv j) (by rw [List.length_set]; exact hz) s.toks
 by_cases h0 : 0 <= k
 ·have hk : k.toNat = j := by
   rw [seqIndex_of h0 h4] at h1
   exact Option.some.inj h1
  exact PySem.W.ki_setAt ho h0 (by omega) (by rw [List.size_toArray,<- hl]; exact h4) (by rw [hk]; exact ⟨_,I',q⟩)
 ·have hk : (k + (its.toArray.size : Int)).toNat = j := by
   rw [seqIndex_neg (by omega) h3] at h1
   rw [List.size_toArray,<- hl]
   exact Option.some.inj h1
  exact PySem.W.ki_setBack ho (by omega) (by rw [List.size_toArray,<- hl]; exact h3) (by omega) (by rw [hk]; exact ⟨_,I',q⟩)
theorem zh2 (lo hi : Option Int) (n : Nat) : (sliceBounds lo hi none n).1 = ((HT.sIx n 0 lo : Nat) : Int) /\ (sliceBounds lo hi none n).2.1 = ((HT.sIx n n hi : Nat) : Int) /\ (sliceBounds lo hi none n).2.2 = 1 := by
 refine ⟨?_,?_,rfl⟩
 ·cases lo with
  | none => simp [sliceBounds,HT.sIx]
  | some i =>
   simp only [sliceBounds,HT.sIx,Option.getD_none,show (1 : Int) > 0 by decide,if_true]
   by_cases h : i < 0
   ·simp only [h,if_true] <;> omega
   ·simp only [h,if_false] <;> omega
 ·cases hi with
  | none => simp [sliceBounds,HT.sIx]
  | some i =>
   simp only [sliceBounds,HT.sIx,Option.getD_none,show (1 : Int) > 0 by decide,if_true]
   by_cases h : i < 0
   ·simp only [h,if_true] <;> omega
   ·simp only [h,if_false] <;> omega
theorem zg7 (its : List Value) (lo hi : Option Int) : slicePick its.toArray lo hi none = ((its.drop (HT.sIx its.length 0 lo)).take (HT.sIx its.length its.length hi - HT.sIx its.length 0 lo)).toArray := by
 obtain ⟨h1,h2,h3⟩ := zh2 lo hi its.toArray.size
 unfold slicePick
 rw [h1,h2,h3]
 simp only [sliceRange_one,pick_run,List.size_toArray] <;> rfl
def rSlL (K : PySem.W.Frag) : V -> Option Int -> Option Int -> Hp -> VK -> Prop := fun x lo hi H Q => ∃ a xs,x = .ref a /\ SqL K H a xs /\ ∀ p,H p = none -> Q (.ref p) (upd H p (.lst (zqp xs lo hi)))
theorem zqJ : SlR X (rSlL X.K) := by
 intro pins s σ H x v vl vu lo hi sl Q I rx hs pl pu h
 obtain ⟨a,xs,rfl,hx,q⟩ := h
 cases rx
 obtain ⟨its,r,ht,hz⟩ := I.list hx
 have hlen := r.length
 refine ⟨"list", _,slot_list_getitem.lookup,ht.isList.typeIs,?_⟩
 refine wpAny_getItem_list_slice ht.isList hs pl pu .none (by simp) ?_ (by rw [List.size_toArray] <;> omega)
 rw [zg7,<- hlen]
 refine ⟨.ref s.heap.objs.size,_,I.laid (t' := s.toks) (o := .lst (zqp xs lo hi)) (fun b ob q => Heap.get?_push_of_some _ q) (Nat.le_refl _) ?_,rfl,q _ (I.hok.fresh (Nat.le_refl _))⟩
 exact ⟨Nat.le_trans (zf4 xs lo hi) hz,_,0,(r.drop (HT.sIx xs.length 0 lo)).take (HT.sIx xs.length xs.length hi - HT.sIx xs.length 0 lo),Heap.get?_push_size _ rfl⟩
def ziY : V -> Bool
 | .non => true
 | .bl _ => true
 | .int _ => true
 | .str _ => true
 | _ => false
def eqV : V -> V -> Bool
 | .non,.non => true
 | .bl a,.bl b => a == b
 | .bl a,.int b => (if a then 1 else 0) == b
 | .int a,.bl b => a == (if b then 1 else 0)
 | .int a,.int b => a == b
 | .str a,.str b => a == b
 | _,_ => false
theorem eqAt_V {A : Around} {s : Shared} {y x : V} {u v : Value} (ry : RelV y u) (rx : RelV x v) (fy : ziY y = true) (fx : ziY x = true) : SeqAt.EqAt A s u v (eqV y x) := by
 cases y with
 | non =>
  cases ry
  cases x with
  | non => cases rx; exact SeqAt.EqAt.same _
  | bl b => cases rx; exact SeqAt.EqAt.none_bool b
  | int b => obtain ⟨t,rfl⟩ := rx; exact SeqAt.EqAt.none_int b t
  | str b => obtain ⟨t,rfl⟩ := rx; exact SeqAt.EqAt.none_str b t
  | _ => exact absurd (show false = true from fx) Bool.false_ne_true
 | bl a =>
  cases ry
  cases x with
  | non => cases rx; exact SeqAt.EqAt.bool_none a
  | bl b => cases rx; exact SeqAt.EqAt.bool_bool a b
  | int b => obtain ⟨t,rfl⟩ := rx; exact SeqAt.EqAt.bool_int a b t
  | str b => obtain ⟨t,rfl⟩ := rx; exact SeqAt.EqAt.bool_str a b t
  | _ => exact absurd (show false = true from fx) Bool.false_ne_true
 | int a =>
  obtain ⟨t',rfl⟩ := ry
  cases x with
  | non => cases rx; exact SeqAt.EqAt.int_none a t'
  | bl b => cases rx; exact SeqAt.EqAt.int_bool a t' b
  | int b => obtain ⟨t,rfl⟩ := rx; exact SeqAt.EqAt.int_int a t' b t
  | str b => obtain ⟨t,rfl⟩ := rx; exact SeqAt.EqAt.int_str a t' b t
  | _ => exact absurd (show false = true from fx) Bool.false_ne_true
 | str a =>
  obtain ⟨t',rfl⟩ := ry
  cases x with
  | non => cases rx; exact SeqAt.EqAt.str_none a t'
  | bl b => cases rx; exact SeqAt.EqAt.str_bool a t' b
  | int b => obtain ⟨t,rfl⟩ := rx; exact SeqAt.EqAt.str_int a t' b t
  | str b => obtain ⟨t,rfl⟩ := rx; exact SeqAt.EqAt.str_str a t' b t
  | _ => exact absurd (show false = true from fx) Bool.false_ne_true
 | _ => exact absurd (show false = true from fy) Bool.false_ne_true
def eqU (x : V) (u : Value) : Bool := match u with
 | .none => eqV .non x
 | .bool b => eqV (.bl b) x
 | .int i _ => eqV (.int i) x
 | .str z _ => eqV (.str z) x
 | _ => false
theorem eqU_of {x y : V} {u : Value} (r : RelV y u) (f : ziY y = true) : eqU x u = eqV y x := by
 cases y with
 | non => cases r; rfl
 | bl b => cases r; rfl
 | int i => obtain ⟨t,rfl⟩ := r; rfl
 | str z => obtain ⟨t,rfl⟩ := r; rfl
 | _ => exact absurd (show false = true from f) Bool.false_ne_true
theorem zkH {A : Around} {s : Shared} {x : V} {v : Value} (rx : RelV x v) (fx : ziY x = true) : ∀ {xs : List V} {us : List Value},Vals xs us -> xs.all ziY = true -> ∀ u ∈ us,SeqAt.EqAt A s u v (eqU x u)
 | _,_,.nil,_ => fun u hu => by cases hu
 | y :: xs,u :: us,.cons r t,f => fun u' hu => by
  rw [List.all_cons,Bool.and_eq_true] at f
  rcases List.mem_cons.mp hu with rfl | hu
  ·rw [eqU_of r f.1]; exact eqAt_V r rx f.1 fx
  ·exact zkH rx fx t f.2 u' hu
theorem zjc : CallR X (.builtin "len") (fun xs H Q => ∃ p ys,xs = [.ref p] /\ (SqL X.K H p ys ∨ SqT X.K H p ys) /\ Q (.int ys.length) H) := by
 intro pins s σ H xs us Q I r h
 obtain ⟨p,ys,rfl,hq,q⟩ := h
 obtain ⟨u,rfl,rx⟩ := zbY r
 cases rx
 have hn := zgD
 rcases hq with hq | hq
 ·obtain ⟨its,r',pl,hz⟩ := I.list hq
  have hlen := r'.length
  exact Calls.call_len_list pl.isList (by simp only [List.size_toArray] <;> omega) ⟨.int ys.length,H,I.tok _,⟨s.toks + 1,by rw [List.size_toArray,hlen]⟩,q⟩
 ·obtain ⟨its,r',pl,hz⟩ := I.tuple hq
  have hlen := r'.length
  exact len_tuple pl (by simp only [List.size_toArray] <;> omega) ⟨.int ys.length,H,I.tok _,⟨s.toks + 1,by rw [List.size_toArray,hlen]⟩,q⟩
theorem zjb : CallR X (.builtin "len") (fun xs H Q => ∃ z,xs = [.str z] /\ z.length <= sizeLine /\ Q (.int z.length) H) := by
 intro pins s σ H xs us Q I r h
 obtain ⟨z,rfl,hz,q⟩ := h
 obtain ⟨u,rfl,t,rfl⟩ := zbY r
 have hn := zgD
 exact len_str (by omega) ⟨.int z.length,H,I.tok _,⟨_,rfl⟩,q⟩
theorem CallR.or {f : Value} {r r' : List V -> Hp -> VK -> Prop} (h : CallR X f r) (h' : CallR X f r') : CallR X f (fun xs H Q => r xs H Q ∨ r' xs H Q) := by
 intro pins s σ H xs us Q I rs q
 rcases q with q | q
 ·exact h pins s σ H xs us Q I rs q
 ·exact h' pins s σ H xs us Q I rs q
theorem zhT : CallR X (.type "tuple") (fun xs H Q => ∃ p ys,xs = [.ref p] /\ ((SqL X.K H p ys /\ ∀ l,H l = none -> Q (.ref l) (upd H l (.tup ys))) ∨ (SqT X.K H p ys /\ Q (.ref p) H))) := by
 intro pins s σ H xs us Q I r h
 obtain ⟨p,ys,rfl,h⟩ := h
 obtain ⟨u,rfl,rx⟩ := zbY r
 cases rx
 rcases h with ⟨hq,q⟩ | ⟨hq,q⟩
 ·obtain ⟨its,r',pl,hz⟩ := I.list hq
  have hlen := r'.length
  refine call_tuple_list pl.isList (fun h' kp => ?_) (by simp only [List.size_toArray] <;> omega)
  have I1 : Inv X pins σ H { s with heap := h' } := I.kept (t' := s.toks) kp
  have I2 : Inv X pins σ (upd H h'.objs.size (.tup ys)) { s with heap := h'.push { cls := .type "tuple", data := .seq its.toArray } } :=
   I1.laid (t' := s.toks) (fun b o e => Heap.get?_push_of_some _ e) (Nat.le_refl _) (show ObjOk X.prog X.w _ _ _ (.tup ys) from ⟨hz,its,r',IsTup.new _ _,_,Heap.get?_push_size _ rfl,rfl⟩)
  exact ⟨.ref h'.objs.size,_,I2,rfl,q _ (I1.hok.fresh (Nat.le_refl _))⟩
 ·obtain ⟨its,r',pl,hz⟩ := I.tuple hq
  exact call_tuple_same pl ⟨.ref p,H,I,rfl,q⟩
def tyV (K : PySem.W.Frag) (T : String) (x : V) (H : Hp) : Prop := match x with
 | .str _ => T = "str"
 | .int _ => T = "int"
 | .ref p => (T = "list" /\ ∃ xs,SqL K H p xs) ∨ (T = "tuple" /\ ∃ o,K.lookup p = some o /\ o.cls = .type "tuple" /\ o.dict = none) ∨
   (T = "dict" /\ ((∃ kvs,H p = some (.dK kvs)) ∨ ∃ kvs,H p = some (.dT kvs))) ∨ (T = "set" /\ ∃ S n,H p = some (.set S n))
 | _ => False
theorem zpR {pins : List (Addr × Obj)} {σ : St} {H : Hp} {s : Shared} {T : String} {x : V} {v : Value} (I : Inv X pins σ H s) (r : RelV x v) (ty : tyV X.K T x H) :
  s.TypeIs v T /\ ∀ a,v = .ref a -> ∃ ob,s.heap.get? a = some ob /\ ob.dict = none := by
 cases x with
 | str z =>
  obtain ⟨t,rfl⟩ := r
  cases (show T = "str" from ty)
  exact ⟨typeIs_str s z t,fun _ e => nomatch e⟩
 | int i =>
  obtain ⟨t,rfl⟩ := r
  cases (show T = "int" from ty)
  exact ⟨typeIs_int s i t,fun _ e => nomatch e⟩
 | ref p =>
  cases r
  rcases ty with ⟨rfl,xs,hq⟩ | ⟨rfl,o,hk,hc,hd⟩ | ⟨rfl,hk⟩ | ⟨rfl,S,n,hk⟩
  ·obtain ⟨its,_,pl,_⟩ := I.list hq
   refine ⟨pl.isList.typeIs,fun a e => ?_⟩
   cases e
   obtain ⟨o,n,e,c,hd,_⟩ := pl
   exact ⟨o,e,hd⟩
  ·refine ⟨⟨o,I.kIn p o hk,hc⟩,fun a e => ?_⟩
   cases e
   exact ⟨o,I.kIn _ o hk,hd⟩
  ·have z : ∃ o,s.heap.get? p = some o /\ o.ExactDict := by
    rcases hk with ⟨kvs,hk⟩ | ⟨kvs,hk⟩
    ·obtain ⟨_,_,_,_,o,_,_,e,ex,_⟩ := I.hok p _ hk
     exact ⟨o,e,ex⟩
    ·obtain ⟨_,_,_,_,o,_,_,e,ex,_⟩ := I.hok p _ hk
     exact ⟨o,e,ex⟩
   obtain ⟨o,e,ex⟩ := z
   refine ⟨⟨o,e,ex.1⟩,fun a e2 => ?_⟩
   cases e2
   exact ⟨o,e,ex.2.1⟩
  ·obtain ⟨o,_,_,_,e,ex,_⟩ := I.hok p _ hk
   refine ⟨⟨o,e,ex.1⟩,fun a e2 => ?_⟩
   cases e2
   exact ⟨o,e,ex.2.1⟩
 | _ => exact False.elim ty
def tBM0 (K : PySem.W.Frag) (T : String) (r : V -> List V -> Hp -> VK -> Prop) (to : TE) : TE := fun σ H Q => to σ H fun x H1 => tyV K T x H1 /\ r x [] H1 Q
def tBM (K : PySem.W.Frag) (T : String) (r : V -> List V -> Hp -> VK -> Prop) (to : TE) (t : TA) : TE := fun σ H Q => to σ H fun x H1 => tyV K T x H1 /\ t σ H1 fun xs H2 => r x xs H2 Q
variable {o e : Expr} {es : List Expr} {to : TE} {t : TA} {name : Str} {apos cpos : Pos} {T id : String} {r : V -> List V -> Hp -> VK -> Prop}
theorem pe_bm0 (pa : PlainAttrs T) (slot : Slot T name id) (hty : typeOf (.builtin id) = pure (.type "method_descriptor")) (hm : MtR X id r) (ho : PE X o to)
  (hbase : autoParam (attributeBase o name X.env (eval o X.env) = eval o X.env) AutoP.a3._auto_1) (hline : autoParam ((apos.endLine == cpos.line) = true) AutoP.a3._auto_1) : PE X (.Call (.Attribute o name apos) [] [] cpos) (tBM0 X.K T r to) := by
 intro pins s σ H Q I h
 refine wpAny_Call_method0_late hbase hline (thn (ho pins s σ H _ I h) fun v s1 ⟨x,H1,I1,r1,ty,q1⟩ => ?_)
 obtain ⟨h1,h2⟩ := zpR I1 r1 ty
 exact ⟨T,id,pa,slot,hty,h1,h2,Calls.callWith_builtin rfl (PySem.evalArgs_none (hm pins s1 σ H1 x [] v [] Q I1 r1 .nil q1))⟩
theorem pe_bm (pa : PlainAttrs T) (slot : Slot T name id) (hty : typeOf (.builtin id) = pure (.type "method_descriptor")) (hm : MtR X id r) (ho : PE X o to) (ha : PA X (e :: es) t)
  (hbase : autoParam (attributeBase o name X.env (eval o X.env) = eval o X.env) AutoP.a3._auto_1)
  (hfew : autoParam (((backTo cpos (starEach (e :: es) X.env)).all (fun x => !x.1) && (backToKw cpos (keywordEach [] X.env)).all (fun x => x.1.isSome)
   && decide ((e :: es).length + ([] : List Keyword).length + (if ([] : List Keyword).isEmpty then 0 else 1) < 30)) = true) AutoP.a3._auto_1)
  (hline : autoParam ((apos.endLine == cpos.line) = true) AutoP.a3._auto_1) (hs : autoParam (starEach (e :: es) X.env = (false,eval e X.env) :: starEach es X.env) AutoP.a3._auto_1) (hplain : autoParam ((backTo cpos (starEach es X.env)).any (·.1) = false) AutoP.a3._auto_1) :
  PE X (.Call (.Attribute o name apos) (e :: es) [] cpos) (tBM X.K T r to t) := by
 intro pins s σ H Q I h
 refine wpAny_Call_method_late hbase hfew hline rfl (thn (ho pins s σ H _ I h) fun v s1 ⟨x,H1,I1,r1,ty,q1⟩ => ?_)
 obtain ⟨h1,h2⟩ := zpR I1 r1 ty
 refine ⟨T,id,pa,slot,hty,h1,h2,?_⟩
 have hA := ha cpos pins s1 σ H1 _ I1 q1
 rw [hs] at hA ⊢
 refine Calls.callWith_builtin (by show (false || (backTo cpos (starEach es X.env)).any (·.1)) = false; rw [hplain] <;> rfl) (Calls.evalArgs_plain ?_)
 exact thn hA fun us s2 ⟨vs,H2,I2,r2,q2⟩ => hm pins s2 σ H2 x vs v us Q I2 r1 r2 q2
end
def MtM (X : Cx) (id : String) (r : V -> List V -> Hp -> VK -> Prop) : Prop :=
 ∀ (pins : List (Addr × Obj)) (s : Shared) (σ : St) (H : Hp) (x : V) (xs : List V) (v : Value) (us : List Value) (Q : VK),Inv X pins σ H s -> RelV x v -> Vals xs us -> r x xs H Q →
  wpAny (model X.prog X.w) X.A (call (.builtin id) (v :: us)) (EP X pins σ Q) X.xe s
theorem Vals.one : ∀ {x : V} {us : List Value},Vals [x] us -> ∃ u,us = [u] /\ RelV x u
 | _,_,.cons r .nil => ⟨_,rfl,r⟩
theorem Vals.eraseIdx : ∀ {xs : List V} {us : List Value} (i : Nat),Vals xs us -> Vals (xs.eraseIdx i) (us.eraseIdx i)
 | _,_,_,.nil => .nil
 | _,_,0,.cons _ t => t
 | _,_,i + 1,.cons r t => .cons r (Vals.eraseIdx i t)
theorem ziz {α : Type} : ∀ (l : List α) (i : Nat),(l.eraseIdx i).length <= l.length
 | [],_ => Nat.le_refl _
 | _ :: _,0 => Nat.le_succ _
 | _ :: r,i + 1 => Nat.succ_le_succ (ziz r i)
section
variable {X : Cx} {pins : List (Addr × Obj)} {σ : St} {H : Hp} {s : Shared} {l b : Addr} {xs ys zs : List V}
theorem Inv.lset {its its' : List Value} {n : Nat} {f : Array Value -> Array Value} {t' : Nat} (I : Inv X pins σ H s) (hH : H l = some (.lst xs))
  (e : s.heap.get? l = some { cls := .type "list", data := .seq its.toArray n }) (hf : f its.toArray = its'.toArray) (hv : Vals ys its') (hz : ys.length <= sizeLine) :
  Inv X pins σ (upd H l (.lst ys)) { s with heap := s.heap.update l (Obj.mapSeq f),toks := t' } := by
 have q := PySem.IsL.update e f
 rw [hf] at q
 refine I.write (x := l) (e := l) (by rw [hH]; exact trivial) (.inl rfl) (fun b' u hb hu => (Heap.get?_update_other s.heap (Obj.mapSeq f) (Ne.symm hb)).trans hu) ⟨_,q⟩ ?_
 exact ⟨hz,its',_,hv,q⟩
theorem Inv.lnew {its : List Value} {t' : Nat} (I : Inv X pins σ H s) (hv : Vals ys its) (hz : ys.length <= sizeLine) :
  Inv X pins σ (upd H s.heap.objs.size (.lst ys)) { s with heap := s.heap.push { cls := .type "list", data := .seq its.toArray },toks := t' } :=
 I.laid (fun _ _ q => Heap.get?_push_of_some _ q) (Nat.le_refl _) ⟨hz,its,0,hv,Heap.get?_push_size _ rfl⟩
theorem Inv.fresh (I : Inv X pins σ H s) : H s.heap.objs.size = none := I.hok.fresh (Nat.le_refl _)
theorem Inv.lstM (I : Inv X pins σ H s) (hH : H l = some (.lst xs)) : xs.length <= sizeLine /\ ∃ (its : List Value) (n : Nat),Vals xs its /\ xs.length = its.length /\ s.heap.get? l = some { cls := .type "list", data := .seq its.toArray n } := by
 obtain ⟨z,its,n,r,e⟩ := I.hok l _ hH
 exact ⟨z,its,n,r,r.length,e⟩
end
section
variable {X : Cx}
def zmE : V -> List V -> Hp -> VK -> Prop := fun x vs H Q => ∃ l xs y,x = .ref l /\ vs = [y] /\ H l = some (.lst xs) /\ xs.length < sizeLine /\ Q .non (upd H l (.lst (xs ++ [y])))
theorem zfH : MtM X "list.append" zmE := by
 intro pins s σ H x vs v us Q I rx rv h
 obtain ⟨l,xs,y,rfl,rfl,hH,hz,q⟩ := h
 cases rx
 obtain ⟨u,rfl,ru⟩ := rv.one
 obtain ⟨z,its,n,r,hl,e⟩ := I.lstM hH
 refine call_meets F.slot_list_append ⟨_,e,rfl⟩ F.entry_list_append (F.args_list_append_2 _ _) (PySem.list_append l its.toArray n u (by rw [List.size_toArray]; omega)) ⟨e,?_⟩
 refine ⟨.non,_,I.lset (its' := its ++ [u]) hH e (by simp) (r.append (.cons ru .nil)) ?_,rfl,q⟩
 rw [List.length_append,List.length_singleton]
 omega
def zpW : V -> List V -> Hp -> VK -> Prop := fun x vs H Q => ∃ l xs i k y,x = .ref l /\ vs = [.int i] /\ H l = some (.lst xs) /\ -(2 ^ 63) <= i /\ i < 2 ^ 63 /\ seqIndex? i xs.length = some k /\ xs[k]? = some y /\ Q y (upd H l (.lst (xs.eraseIdx k)))
theorem zpo : MtM X "list.pop" zpW := by
 intro pins s σ H x vs v us Q I rx rv h
 obtain ⟨l,xs,i,k,y,rfl,rfl,hH,h1,h2,hk,hy,q⟩ := h
 cases rx
 obtain ⟨u,rfl,ru⟩ := rv.one
 obtain ⟨t,rfl⟩ := ru
 obtain ⟨z,its,n,r,hl,e⟩ := I.lstM hH
 obtain ⟨w,hw,rw'⟩ := r.get hy
 refine call_meets F.slot_list_pop ⟨_,e,rfl⟩ F.entry_list_pop (F.args_list_pop_2 _ _)
  (MeetsSeq.list_pop_at l its.toArray n i t k w (fitsIndex_both h1 h2) (by rw [List.size_toArray,<- hl]; exact hk) (by rw [<- Array.getElem?_toList]; exact hw) (by rw [List.size_toArray]; omega)) ⟨e,?_⟩
 refine ⟨y,_,I.lset (its' := its.eraseIdx k) hH e ?_ (r.eraseIdx k) ?_,rw',q⟩
 ·show its.toArray.eraseIdxIfInBounds k = (its.eraseIdx k).toArray
  rw [List.eraseIdxIfInBounds_toArray]
 ·have := ziz xs k
  omega
end
end L2
namespace Att
open PySem PySem.W PySem.Calls PyProof.Rows
theorem zfR {P : Params} {h : Heap} : ∀ (ns : List Int) (vs : List Value),WellAll P h vs (ns.map WData.int) -> IntsAre vs ns := by
 intro ns
 induction ns with
 | nil =>
  intro vs w
  rw [List.map_nil] at w
  cases w
  exact .nil
 | cons n ns ih =>
  intro vs w
  rw [List.map_cons] at w
  cases w with
  | cons a b =>
   cases a
   exact .cons _ _ (ih _ b)
theorem zmp {l : OpenLaw} {n : Nat} (hn : l.most = some n) {P : Params} {h : Heap} {args : List WData} {vals : List Value}
  (hpre : l.row.toRowW.claim.pre args = true) (hwl : WellAll P h vals args) :
  ∃ a vs ns,vals = [Value.ref a] /\ args = [WData.list (ns.map WData.int)] /\ h.get? a = some { cls := .type "list", data := .seq vs.toArray } /\ IntsAre vs ns /\ ns.length <= n := by
 have hsh : WShape.hasAll [] args [.list .int] = true := (pre_splitW hpre).1
 have hc : l.pre.holds [] { args := args } = true := (pre_splitW hpre).2
 obtain ⟨d,r,rfl,h1,h2⟩ := hasAllW_cons hsh
 obtain rfl := hasAllW_nil h2
 obtain ⟨xs,rfl,h3⟩ := hasW_list h1
 obtain ⟨ns,rfl⟩ := items_int h3
 have hlen : ns.length <= n := by
  unfold OpenLaw.pre at hc
  have h4 : (WTm.not (.lt (.lit (.int (n : Int))) (.len (.arg 0)))).holds [] { args := [.list (ns.map .int)] } = true := by
   have h4 := (holds_andW hc).1
   rw [hn] at h4
   exact h4
  have h5 := condW_of h4 (w_not (w_lt w_lit (w_len_list (w_arg rfl))))
  rw [List.length_map] at h5
  refine Nat.le_of_not_lt fun q => ?_
  have q' : (n : Int) < ((ns.length : Nat) : Int) := by omega
  first
   | (rw [decide_eq_true q'] at h5; exact absurd h5 (by decide))
   | (simp at h5; omega)
 cases hwl with
 | cons w1 w2 =>
  cases w2
  cases w1 with
  | list ho hall => exact ⟨_,_,ns,rfl,rfl,ho,zfR ns _ hall,hlen⟩
theorem zmK (l : OpenLaw) (args : List WData) : l.row.toRowW.claim.post args (.bool true) args = true :=
 postW_of (r := l.row.toRowW) (X := (true == true))
  (show WShape.has [] (.bool true) .bool = true by first | rfl | decide | simp [WShape.has,WShape.arms,WShape.armsAll])
  (show (WTm.eq .res (.lit (.bool true))).value [] { args := args,res := some (.bool true),after := args } = some (.bool (true == true)) from w_eq_bool (w_res rfl) w_lit) rfl
theorem attach_call {l : OpenLaw} {n : Nat} {q : Program} {loose : List Str} {XP : (Str -> Option Value) -> Heap -> Prop} {YP : World -> Heap -> Prop} {d : DefRec}
  (hn : l.most = some n) (hdf : d.params.defaults = [])
  (call : ∀ (w : World) (s₀ s₁ : Shared) (mg mb : Str -> Option Value) (fa : Addr) (o : Obj) (pm cd doc : Value) (a : Addr) (vs : List Value) (ns : List Int),
   Ground q loose [] XP w s₀ mg mb s₁.heap -> YP w s₁.heap →
   s₁.heap.get? fa = some o -> o.data = .func (docDef d.name d.params d.body d.scope pm cd doc) -> s₁.heap.CodeRec cd d.name -> mg d.name = some (.ref fa) →
   s₁.heap.get? a = some { cls := .type "list", data := .seq vs.toArray } -> IntsAre vs ns -> ns.length <= n -> s₁.gens = #[] →
   codeAny (model l.prog w) callerA (.call (.ref fa) ⟨[.ref a],[]⟩) (fun r s' => r = .ok (.ret (.bool true)) /\ OldK s₁.heap s'.heap /\ s'.os = s₁.os /\ AllBare s'.gens) s₁) :
  WalkO q loose XP YP l.row.toRowW d [] (fun f vs => PySem.call f vs) := by
 intro w s₀ s₁ mg mb G Y fa o pm cd doc dV kV ho hd hcd hD hmg hg args vals as hpre hlay hrd hwl hlo
 obtain rfl : dV = .none := Dflts.none hD hdf
 obtain rfl : kV = .none := Dflts.noKw hD
 obtain ⟨a,vs,ns,rfl,rfl,hobj,hints,hlen⟩ := zmp hn hpre hwl
 refine enter_call (codeAny_mono (call w s₀ s₁ mg mb fa o pm cd doc a vs ns G Y ho (fd_plain hd) hcd hmg hobj hints hlen hg) fun r s' hq => ?_)
 obtain ⟨rfl,h2,h3,h4⟩ := hq
 exact ⟨.inl ⟨.bool true,.bool true,[],rfl,fun _ => rfl,.bool true,zmK l _,fun _ => ⟨List.Pairwise.nil,fun _ hm => (nomatch hm)⟩⟩,h2,h3,h4⟩
section
variable {prog : Program} {w : World} {A : Around} {E : Value -> Shared -> Prop} {s : Shared} {K : Frag}
end
end Att
namespace L2
open PySem PySem.Spec PyProof.Rows
theorem zfj : ∀ {vs : List Value} {ns : List Int},IntsAre vs ns -> Vals (ns.map V.int) vs
 | _,_,.nil => .nil
 | _,_,.cons n t h => .cons ⟨t,rfl⟩ (zfj h)
def Only (H : Hp) : Prop := ∀ b,H b = none ∨ ∃ o xs,H b = some (.frz o (.lst xs))
theorem zpu {P : Program} {w : World} {K : PySem.W.Frag} {mg mb : Str -> Option Value} {CX : CXT} {k : Nat} {fa a : Addr} {fd : FuncData} {x : Str} {sp : Sp} {s₁ : Shared} {vs : List Value} {ns : List Int}
  (KX : K.In s₁.heap) (hns : s₁.heap.Ns mainGlobals mg) (hb : s₁.heap.Ns builtinsNs mb) (hbb : ∀ x : Str,x ≠ "__name__" -> mb x = bootBuiltins x) (hlim : s₁.heap.NoLimit) (hg : s₁.gens = #[])
  (ha : s₁.heap.get? a = some { cls := .type "list", data := .seq vs.toArray }) (hi : IntsAre vs ns) (hl : ns.length <= sizeLine) (hr : Room k callerA)
  (F : ∀ base : Heap,K.In base -> base.Ns mainGlobals mg -> FnOk P w K mg base CX k fa fd [x] sp) (hbind : ∀ (s : Shared) (u : Value),BindsTo s fd ⟨[u],[]⟩ [(x,u)])
  (hsp : ∀ H : Hp,Only H -> SqL K H a (ns.map V.int) -> sp [.ref a] H (fun v _ => v = .bl true) fun _ _ _ => False)
  (hCX : ∀ H e s',CX [] H s₁ (fun _ _ _ => False) e s' -> False) :
  codeAny (model P w) callerA (.call (.ref fa) ⟨[.ref a],[]⟩) (fun r s' => r = .ok (.ret (.bool true)) /\ OldK s₁.heap s'.heap /\ s'.os = s₁.os /\ AllBare s'.gens) s₁ := by
 have rv := zfj hi
 have lenV := hi.length
 have core : ∀ H : Hp,Only H -> SqL K H a (ns.map V.int) -> HOk P w H s₁.heap -> (∀ b,H b ≠ none -> b = a) -> (H a ≠ none -> K.lookup a = none) →
   codeAny (model P w) callerA (.call (.ref fa) ⟨[.ref a],[]⟩) (fun r s' => r = .ok (.ret (.bool true)) /\ OldK s₁.heap s'.heap /\ s'.os = s₁.os /\ AllBare s'.gens) s₁ := by
  intro H hO hS hok hA hK
  have base_of : ∀ {b : Addr} {o : Obj},s₁.heap.get? b = some o -> H b = none -> (zpx s₁.heap H).get? b = some o := fun e n => zpw e n
  have noA : ∀ {b : Addr} {o : Obj} {es : Array DictEntry} {ep : Nat},s₁.heap.get? b = some o -> o.data = .dict es ep -> H b = none := fun {b o es ep} e d => by
   cases q : H b with
   | none => rfl
   | some u =>
    have e' : b = a := hA b (by rw [q]; simp)
    subst e'
    rw [ha] at e; cases e
    have d' : Data.seq vs.toArray _ = Data.dict es ep := d
    cases d'
  have nsK : ∀ {b : Addr} {m : Str -> Option Value},s₁.heap.Ns b m -> (zpx s₁.heap H).Ns b m := fun {b m} ⟨o,es,ep,e,d,r⟩ => ⟨o,es,ep,base_of e (noA e d),d,r⟩
  have hKb : K.In (zpx s₁.heap H) := fun b o e => base_of (KX b o e) (by
   cases q : H b with
   | none => rfl
   | some u =>
    have e' : b = a := hA b (by rw [q]; simp)
    subst e'
    rw [hK (by rw [q]; simp)] at e; cases e)
  have hM : Mod K mg (zpx s₁.heap H) := ⟨hKb,nsK hns,⟨mb,nsK hb,hbb⟩,let ⟨mc,h1,h2⟩ := hlim; ⟨mc,nsK h1,h2⟩⟩
  have e0 : Env0 P w K mg (zpx s₁.heap H) callerA [] s₁ H := ⟨rfl,hM,fun b o e => zrF e,Nat.le_of_eq (znR _ _),trivial,fun b hb => absurd (show b ∈ ([] : List Addr) from hb) (by simp),hok,.of_eq hg⟩
  refine codeAny_mono ((F _ hKb (nsK hns)).run callerA [] s₁ H ⟨[.ref a],[]⟩ [.ref a] [.ref a] _ _ hr e0 (hbind s₁ (.ref a)) (.cons rfl .nil) (hsp H hO hS)) fun r s' h => ?_
  cases r with
  | error e => exact (hCX H e s' h).elim
  | ok fl =>
   cases fl with
   | next => exact False.elim h
   | brk => exact False.elim h
   | cont => exact False.elim h
   | ret u =>
    obtain ⟨v,H',os,bare,un,hok',r',q⟩ := h
    have q' : v = .bl true := q
    subst q'
    obtain rfl : u = Value.bool true := r'
    refine ⟨rfl,OldK.of_keep fun b o e => ?_,os,bare⟩
    cases q : H b with
    | none => exact un.keep b o e q (by intro z; exact absurd (show b ∈ ([] : List Addr) from z) (by simp)) (by simp)
    | some u =>
     rcases hO b with z | ⟨ob,xs,z⟩
     ·rw [q] at z; cases z
     ·have z2 := un.frzs b ob _ z
      obtain ⟨e1,_⟩ := hok b _ z
      obtain ⟨e2,_⟩ := hok' b _ z2
      rw [e] at e1; cases e1
      exact e2
 cases hk : K.lookup a with
 | some o =>
  have e := KX a o hk
  rw [ha] at e
  cases e
  refine core (fun _ => none) (fun _ => .inl rfl) (.inr ⟨_,vs.toArray,_,hk,rfl,rfl,rfl,by rw [List.size_toArray,lenV]; exact hl,by simpa using rv⟩) (fun b u z => by have z' : (none : Option HO) = some u := z; cases z') (fun b z => absurd rfl z) fun z => absurd rfl z
 | none =>
  refine core (fun b => if b = a then some (.frz { cls := .type "list", data := .seq vs.toArray } (.lst (ns.map V.int))) else none) (fun b => ?_) (.inl (.inr ⟨{ cls := .type "list", data := .seq vs.toArray },if_pos rfl⟩)) (fun b u z => ?_) (fun b z => ?_) fun _ => hk
  ·by_cases hb : b = a
   ·exact .inr ⟨_,_,if_pos hb⟩
   ·exact .inl (if_neg hb)
  ·by_cases hb : b = a
   ·have z' := (if_pos hb).symm.trans z
    cases z'
    subst hb
    exact ⟨ha,by rw [List.length_map]; exact hl,vs,_,rv,ha⟩
   ·have z' := (if_neg hb).symm.trans z
    cases z'
  ·by_cases hb : b = a
   ·exact hb
   ·exact absurd (if_neg hb) z
theorem zqv {l : PySem.W.OpenLaw} {n k : Nat} {q : Program} {loose : List Str} {XP : (Str -> Option Value) -> Heap -> Prop} {YP : World -> Heap -> Prop} {d : DefRec} {K : Params -> PySem.W.Frag} {CX : World -> CXT} {sp : World -> Sp} {x : Str}
  (hn : l.most = some n) (hn2 : n <= sizeLine) (hdf : d.params.defaults = []) (hr : Room k callerA)
  (hY : ∀ (w : World) (h : Heap),YP w h -> (K w.params).In h)
  (F : ∀ (w : World) (mg : Str -> Option Value) (fa : Addr) (h : Heap),(K w.params).In h -> h.Ns mainGlobals mg -> mg d.name = some (.ref fa) →
   ∃ fd : FuncData,(∀ (s : Shared) (u : Value),BindsTo s fd ⟨[u],[]⟩ [(x,u)]) ∧
    ∀ base : Heap,(K w.params).In base -> base.Ns mainGlobals mg -> FnOk l.prog w (K w.params) mg base (CX w) k fa fd [x] (sp w))
  (hsp : ∀ (w : World) (H : Hp) (a : Addr) (ns : List Int),ns.length <= n -> Only H -> SqL (K w.params) H a (ns.map V.int) -> sp w [.ref a] H (fun v _ => v = .bl true) fun _ _ _ => False)
  (hCX : ∀ (w : World) (H : Hp) (s : Shared) (e : Value) (s' : Shared),CX w [] H s (fun _ _ _ => False) e s' -> False) :
  PySem.W.WalkO q loose XP YP l.row.toRowW d [] (fun f vs => PySem.call f vs) := by
 refine Att.attach_call hn hdf fun w s₀ s₁ mg mb fa o pm cd doc a vs ns G Y ho hd hcd hmg hobj hints hlen hg => ?_
 have KX := hY w _ Y
 obtain ⟨fd,hb,hF⟩ := F w mg fa _ KX G.T.g hmg
 exact zpu KX G.T.g G.T.b G.T.builtins G.T.nolimit hg hobj hints (Nat.le_trans hlen hn2) hr hF hb (fun H hO hS => hsp w H a ns hlen hO hS) fun H e s' => hCX w H s₁ e s'
theorem walk_ofK {l : PySem.W.OpenLaw} {n k : Nat} {q : Program} {loose : List Str} {XP : (Str -> Option Value) -> Heap -> Prop} {YP : World -> Heap -> Prop} {d : DefRec} {K : Params -> PySem.W.Frag} {CX : CXT} {sp : PySem.W.Frag -> Sp} {x : Str}
  (hn : l.most = some n) (hn2 : n <= sizeLine) (hdf : d.params.defaults = []) (hr : Room k callerA)
  (hY : ∀ (w : World) (h : Heap),YP w h -> (K w.params).In h)
  (F : ∀ (w : World) (mg : Str -> Option Value) (fa : Addr) (h : Heap),(K w.params).In h -> h.Ns mainGlobals mg -> mg d.name = some (.ref fa) →
   ∃ fd : FuncData,(∀ (s : Shared) (u : Value),BindsTo s fd ⟨[u],[]⟩ [(x,u)]) ∧
    ∀ base : Heap,(K w.params).In base -> base.Ns mainGlobals mg -> FnOk l.prog w (K w.params) mg base CX k fa fd [x] (sp (K w.params)))
  (hsp : ∀ (K : PySem.W.Frag) (H : Hp) (a : Addr) (ns : List Int),ns.length <= n -> Only H -> SqL K H a (ns.map V.int) -> sp K [.ref a] H (fun v _ => v = .bl true) fun _ _ _ => False)
  (hCX : ∀ (H : Hp) (s : Shared) (e : Value) (s' : Shared),CX [] H s (fun _ _ _ => False) e s' -> False) :
  PySem.W.WalkO q loose XP YP l.row.toRowW d [] (fun f vs => PySem.call f vs) :=
 zqv (K := K) (CX := fun _ => CX) (sp := fun w => sp (K w.params)) hn hn2 hdf hr hY F (fun w H a ns h1 h2 h3 => hsp (K w.params) H a ns h1 h2 h3) fun _ H s e s' => hCX H s e s'
end L2
namespace L2
open PySem PySem.Spec PyProof.Rows
def zbN (s : Stmt) (j : Nat) : Stmt := match s with
 | .ClassDef _ _ _ body _ _ _ _ _ _ _ => body.getD j (.Pass ⟨0,0,0,0⟩)
 | _ => .Pass ⟨0,0,0,0⟩
def zes (s : Stmt) : Arguments := match s with
 | .FunctionDef _ a _ _ _ _ _ _ _ _ => a
 | _ => { posonlyargs := [],args := [],vararg := none,kwonlyargs := [],kw_defaults := [],kwarg := none,defaults := [] }
def zbu (s : Stmt) : List Stmt := match s with
 | .FunctionDef _ _ b _ _ _ _ _ _ _ => b
 | _ => []
def zai (s : Stmt) : Scope := match s with
 | .FunctionDef _ _ _ _ _ _ sc _ _ _ => sc
 | _ => { kind := .function,names := [],isGenerator := false,isCoroutine := false }
abbrev CX0 : CXT := fun _ _ _ _ _ _ => False
abbrev E0 : XK := fun _ _ _ => False
theorem zpf {X : Cx} : zf7 CX0 X E0 := fun _ _ _ _ _ _ _ h => h.elim
structure Fun (K : PySem.W.Frag) (x qual : Str) (st : Stmt) (f : Addr) (fd : FuncData) : Prop where
 ex : ∃ (oc : Value) (od : Option Addr) (kV doc pm : Value) (an : Option Addr) (cdv ct : Value) (osl : Array (Option Value)),
  fd = PySem.W.fnOf x qual (zes st) (zbu st) (zai st) .none kV doc pm an cdv ct /\ K.lookup f = some ⟨oc,od,.func fd,osl⟩ /\ PySem.W.codeIn K cdv qual = true
 kp : PySem.W.keepIn K (.ref f) = true
section
variable {P : Program} {w : World} {K : PySem.W.Frag} {mg : Str -> Option Value} {base : Heap}
theorem Fun.ok {x qual : Str} {st : Stmt} {f : Addr} {fd : FuncData} {N ps : List Str} {k : Nat} {sp : Sp} (F : Fun K x qual st f fd) (S : FnScope N ps (zai st)) (len : ∀ vs H Q E,sp vs H Q E -> vs.length = ps.length)
  (hbody : ∀ (cdv : Value) (A : Around) (outer : List Env) (s : Shared) (H : Hp) (vs : List V) (Q : VK) (E : XK),Room k (A.deeper (envOfC qual (zai st) s.heap.objs.size f cdv)) -> sp vs H Q E →
   ∃ t,PSs (zl3 CX0 P w K mg base N qual (zai st) f cdv A outer s H E).nox (zbu st) t /\ t { nx := fun _ H' => Q .non H',rt := Q } (start N vs) H) : FnOk P w K mg base CX0 (k + 1) f fd ps sp := by
 obtain ⟨oc,od,kV,doc,pm,an,cdv,ct,osl,rfl,lk,hcd⟩ := F.ex
 refine fn_of lk hcd S len fun A outer s H vs Q E hr hsp => ?_
 obtain ⟨t,h,q⟩ := hbody cdv A outer s H vs Q E hr hsp
 exact ⟨t,h.nox,q⟩
theorem Fun.binds {x qual : Str} {st : Stmt} {f : Addr} {fd : FuncData} {ps : List Str} (F : Fun K x qual st f fd)
  (h : ∀ (kV doc pm : Value) (an : Option Addr) (cdv ct : Value) (us : List Value),us.length = ps.length -> bindArgs (PySem.W.fnOf x qual (zes st) (zbu st) (zai st) .none kV doc pm an cdv ct) ⟨us,[]⟩ = pure (ps.zip us)) : Binds K fd ps [] := by
 obtain ⟨oc,od,kV,doc,pm,an,cdv,ct,osl,rfl,lk,hcd⟩ := F.ex
 exact .all (h kV doc pm an cdv ct)
end
theorem zjY {A : Around} {k : Nat} (hr : Room k A) : A.units + 1 < cLine := Nat.lt_of_le_of_lt (Nat.add_le_add_left (by decide : 1 <= 64) _) hr.units
def Same (H H' : Hp) : Prop := ∀ b o,H b = some o -> H' b = some o
theorem Same.refl (H : Hp) : Same H H := fun _ _ h => h
end L2
set_option autoImplicit false
namespace MD
open PySem PySem.Spec PyProof.Rows L2
def Kof (n : Nat) (h : Heap) : PySem.W.Frag := (List.range n).filterMap fun a => (h.get? a).map fun o => (a,o)
abbrev FnT := Option (Str × Str × Arguments × List Stmt × Scope)
def zma (v : Value) : Bool := match v with
 | .none => true
 | _ => false
def fnV (K : PySem.W.Frag) (f : Addr) : FnT × Bool := match K.lookup f with
 | some ⟨_,_,.func ⟨x,q,ps,.stmts b,sc,gl,[],dv,_,_,_,_,cd,_,bl⟩,_⟩ => (some (x,q,ps,b,sc),Nat.beq gl mainGlobals && Nat.beq bl builtinsNs && zma dv && PySem.W.codeIn K cd q)
 | _ => (none,false)
def viewOf (keep : List Nat) (p : Program) : Program := { p with main := { p.main with body := keep.filterMap fun i => p.main.body[i]? } }
end MD
set_option autoImplicit false
namespace K33
open PySem PyProof.Rows L2 MD
def top (i : Nat) : Stmt := PySem.Challenge.pw_shorthead_k33_whole_letters_read.main.body.getD i (.Pass ⟨0,0,0,0⟩)
abbrev zfc : Stmt := top 1
abbrev zdG : Stmt := top 2
abbrev zcU : Stmt := top 3
abbrev zdD : Stmt := top 4
abbrev zhe : Stmt := top 6
abbrev zdC : Stmt := top 7
abbrev zhl : Stmt := top 8
abbrev zdN : Stmt := top 10
abbrev zdM : Stmt := top 11
abbrev zhc : Stmt := top 12
abbrev zfb : Stmt := top 13
abbrev ze3 : Stmt := top 15
abbrev zhb : Stmt := top 16
abbrev zhd : Stmt := top 17
abbrev zhg : Stmt := top 18
abbrev zcQ : Stmt := top 19
abbrev zhk : Stmt := top 24
abbrev zcS : Stmt := top 25
abbrev zcl : Stmt := top 26
abbrev zch : Stmt := top 27
abbrev zdF : Stmt := top 28
abbrev zhf : Stmt := top 29
abbrev zcR : Stmt := top 31
abbrev zcg : Stmt := zbN (top 32) 0
abbrev zce : Stmt := zbN (top 32) 1
abbrev zbz : Stmt := zbN (top 32) 2
abbrev zcT : Stmt := zbN (top 32) 3
abbrev zcf : Stmt := zbN (top 32) 4
abbrev zbU : Stmt := zbN (top 32) 5
abbrev zby : Stmt := zbN (top 32) 6
abbrev zbv : Stmt := zbN (top 32) 7
abbrev zbV : Stmt := zbN (top 32) 8
abbrev zbi : Stmt := zbN (top 32) 9
abbrev zcd : Stmt := zbN (top 32) 10
abbrev zhj : Stmt := top 34
abbrev ze7 : Stmt := top 35
abbrev zkt : Stmt := top 36
abbrev zdI : Stmt := top 37
abbrev ze8 : Stmt := top 38
abbrev zdJ : Stmt := top 39
abbrev zhh : Stmt := top 40
abbrev ze9 : Stmt := top 41
abbrev ze5 : Stmt := top 42
abbrev ze6 : Stmt := top 43
abbrev zcj : Stmt := top 44
abbrev zfa : Stmt := top 45
abbrev zdH : Stmt := top 46
abbrev zdL : Stmt := top 47
abbrev zci : Stmt := top 48
abbrev zcV : Stmt := top 49
abbrev zcW : Stmt := top 50
abbrev ze4 : Stmt := top 51
abbrev zdK : Stmt := top 52
abbrev zbA : Stmt := top 53
abbrev zhi : Stmt := top 54
abbrev zqQ : Stmt := top 55
def nms : List Str := (["are_bits", "number_of", "numbers_of", "width_for", "rest_of", "windowed", "around", "breadths", "expected", "turned", "check_of", "width_of", "widths", "size_of", "opened", "value_told", "form_at", "sort_width", "check_width", "letter_size", "sort_told", "parted", "those_kept", "_law_box", "_law_next", "_law_of", "_law_value", "_law_kind", "_law_shape", "_law_way"] : List (Str)) ++ (["_law_form", "_law_road", "_law_pact", "_law_any_head", "_law_bits", "_law_width", "_law_check", "_law_width_of", "_law_pieces", "_law_letter", "_law_take", "_law_same", "_law_number_for", "_law_due", "law", "Reader", "ValueError", "sum", "enumerate", "max", "range", "tuple", "list", "isinstance", "str", "min", "len", "dict", "int", "all"] : List (Str)) ++ (["zip", "sorted", "abs", "bool"] : List (Str))
def nmsE : List (Option (Option Value)) := ([some (some (.ref 21)),some (some (.ref 28)),some (some (.ref 35)),some (some (.ref 42)),some (some (.ref 49)),some (some (.ref 56)),some (some (.ref 63)),some (some (.ref 68)),some (some (.ref 75)),some (some (.ref 82)),some (some (.ref 87)),some (some (.ref 94)),some (some (.ref 99)),some (some (.ref 106)),some (some (.ref 113)),some (some (.ref 120)),some (some (.ref 152)),some (some (.ref 159)),some (some (.ref 166)),some (some (.ref 173)),some (some (.ref 180)),some (some (.ref 187)),some (some (.ref 192)),some (some (.ref 288)),some (some (.ref 295)),some (some (.ref 302)),some (some (.ref 309)),some (some (.ref 314)),some (some (.ref 321)),some (some (.ref 328))] : List (Option (Option Value))) ++ ([some (some (.ref 333)),some (some (.ref 340)),some (some (.ref 345)),some (some (.ref 350)),some (some (.ref 357)),some (some (.ref 364)),some (some (.ref 371)),some (some (.ref 378)),some (some (.ref 385)),some (some (.ref 392)),some (some (.ref 397)),some (some (.ref 402)),some (some (.ref 409)),some (some (.ref 416)),some (some (.ref 423)),some (some (.ref 277)),some none,some none,some none,some none,some none,some none,some none,some none,some none,some none,some none,some none,some none,some none] : List (Option (Option Value))) ++ ([some none,some none,some none,some none] : List (Option (Option Value)))
def fnd : List (Addr × Str) := [(277, "__setattr__"),(277, "held"),(277, "highest"),(277, "pact"),(277, "__init__"),(277, "read"),(277, "forget"),(277, "top"),(277, "kept"),(277, "least"),(277, "is_late"),(277, "nearest"),(277, "is_far"),(277, "head_told"),(277, "rise")]
def fndE : List (Option (Option Value)) := [some (some (.builtin "object.__setattr__")),some none,some none,some none,some (some (.ref 206)),some (some (.ref 213)),some (some (.ref 220)),some (some (.ref 227)),some (some (.ref 234)),some (some (.ref 241)),some (some (.ref 248)),some (some (.ref 253)),some (some (.ref 260)),some (some (.ref 267)),some (some (.ref 274))]
def fnsa : List Addr := [21,28,35,42,49,56,63,68,75,82]
def fnsb : List Addr := [87,94,99,106,113,120,152,159,166,173]
def fnsc : List Addr := [180,187,192,206,213,220,227,234,241,248]
def fnsd : List Addr := [253,260,267,274,288,295,302,309,314,321]
def fnse : List Addr := [328,333,340,345,350,357,364,371,378,385]
def fnsf : List Addr := [392,397,402,409,416,423]
def fns : List Addr := fnsa ++ fnsb ++ fnsc ++ fnsd ++ fnse ++ fnsf
def fnE (x q : Str) (st : Stmt) : FnT × Bool := (some (x,q,zes st,zbu st,zai st),true)
def fnsaE : List (FnT × Bool) := [fnE "are_bits" "are_bits" zfc,fnE "number_of" "number_of" zdG,fnE "numbers_of" "numbers_of" zcU,fnE "width_for" "width_for" zdD,fnE "rest_of" "rest_of" zhe,fnE "windowed" "windowed" zdC,fnE "around" "around" zhl,fnE "breadths" "breadths" zdN,fnE "expected" "expected" zdM,fnE "turned" "turned" zhc]
def fnsbE : List (FnT × Bool) := [fnE "check_of" "check_of" zfb,fnE "width_of" "width_of" ze3,fnE "widths" "widths" zhb,fnE "size_of" "size_of" zhd,fnE "opened" "opened" zhg,fnE "value_told" "value_told" zcQ,fnE "form_at" "form_at" zhk,fnE "sort_width" "sort_width" zcS,fnE "check_width" "check_width" zcl,fnE "letter_size" "letter_size" zch]
def fnscE : List (FnT × Bool) := [fnE "sort_told" "sort_told" zdF,fnE "parted" "parted" zhf,fnE "those_kept" "those_kept" zcR,fnE "__init__" "Reader.__init__" zcg,fnE "read" "Reader.read" zce,fnE "forget" "Reader.forget" zbz,fnE "top" "Reader.top" zcT,fnE "kept" "Reader.kept" zcf,fnE "least" "Reader.least" zbU,fnE "is_late" "Reader.is_late" zby]
def fnsdE : List (FnT × Bool) := [fnE "nearest" "Reader.nearest" zbv,fnE "is_far" "Reader.is_far" zbV,fnE "head_told" "Reader.head_told" zbi,fnE "rise" "Reader.rise" zcd,fnE "_law_box" "_law_box" zhj,fnE "_law_next" "_law_next" ze7,fnE "_law_of" "_law_of" zkt,fnE "_law_value" "_law_value" zdI,fnE "_law_kind" "_law_kind" ze8,fnE "_law_shape" "_law_shape" zdJ]
def fnseE : List (FnT × Bool) := [fnE "_law_way" "_law_way" zhh,fnE "_law_form" "_law_form" ze9,fnE "_law_road" "_law_road" ze5,fnE "_law_pact" "_law_pact" ze6,fnE "_law_any_head" "_law_any_head" zcj,fnE "_law_bits" "_law_bits" zfa,fnE "_law_width" "_law_width" zdH,fnE "_law_check" "_law_check" zdL,fnE "_law_width_of" "_law_width_of" zci,fnE "_law_pieces" "_law_pieces" zcV]
def fnsfE : List (FnT × Bool) := [fnE "_law_letter" "_law_letter" zcW,fnE "_law_take" "_law_take" ze4,fnE "_law_same" "_law_same" zdK,fnE "_law_number_for" "_law_number_for" zbA,fnE "_law_due" "_law_due" zhi,fnE "law" "law" zqQ]
def fnsE : List (FnT × Bool) := fnsaE ++ fnsbE ++ fnscE ++ fnsdE ++ fnseE ++ fnsfE
def bls (K : PySem.W.Frag) : List Bool := [PySem.W.plainGet K 277 Str.empty && PySem.W.hasDictIn K 277 && PySem.W.plainOver K 277 && PySem.W.makesIn K 277 && PySem.W.keepIn K (.ref 277),PySem.W.isFn K (.ref 206),PySem.W.isFn K (.ref 213),PySem.W.isFn K (.ref 220),PySem.W.isFn K (.ref 227),PySem.W.isFn K (.ref 234),PySem.W.isFn K (.ref 241),PySem.W.isFn K (.ref 248),PySem.W.isFn K (.ref 253),PySem.W.isFn K (.ref 260),PySem.W.isFn K (.ref 267),PySem.W.isFn K (.ref 274)]
def blsE : List Bool := List.replicate 12 true
def obs (K : PySem.W.Frag) : List (Option (Option Value)) × List (Option (Option Value)) × List (FnT × Bool) × List Bool := (nms.map (PySem.W.nsIn K mainGlobals),fnd.map (fun p => PySem.W.findIn K (.ref p.1) p.2),fns.map (fnV K),bls K)
def expd : List (Option (Option Value)) × List (Option (Option Value)) × List (FnT × Bool) × List Bool := (nmsE,fndE,fnsE,blsE)
abbrev pw : Program := PySem.Challenge.pw_shorthead_k33_whole_letters_read
def vw : Program := viewOf (([1,2,3,4,6,7,8,10,11,12,13,15,16,17,18,19,21,22,24,25,26,27,28,29,31,32,34,35,36,37] : List (Nat)) ++ ([38,39,40,41,42,43,44,45,46,47,48,49,50,51,52,53,54,55] : List (Nat))) pw
def xt (s : Shared) : Bool := PySem.W.xlAt vw [] s && PySem.W.recOk (PySem.W.RowW.records PySem.Challenge.rw_shorthead_k33_whole_letters_read.row.toRowW) s
def zO (s : Shared) := PySem.W.openSeen vw [] (importedModules pw.main.body) xt true s
def zG := PySem.W.openGood vw []
def zE (w : World) := PySem.W.openEnds treeTable pw w 4942
def hl0 (w : World) := (zE w).map fun s => (zO s).1.defs.take 24
def hr0 (_ : World) := some (zG.1.defs.take 24)
def hl1 (w : World) := (zE w).map fun s => (zO s).1.defs.drop 24
def hr1 (_ : World) := some (zG.1.defs.drop 24)
def hl2 (w : World) := (zE w).map fun s => (zO s).1.ownsOk
def hr2 (_ : World) := some (zG.1.ownsOk)
def hl3 (w : World) := (zE w).map fun s => (zO s).1.names
def hr3 (_ : World) := some (zG.1.names)
def hl4 (w : World) := (zE w).map fun s => ((zO s).1.globalsOk,(zO s).1.builtinsOk,(zO s).1.noLimit,(zO s).1.gens)
def hr4 (_ : World) := some ((zG.1.globalsOk,zG.1.builtinsOk,zG.1.noLimit,zG.1.gens))
def hl5 (w : World) := (zE w).map fun s => (zO s).2.1
def hr5 (_ : World) := some (zG.2.1)
def hl6 (w : World) := (zE w).map fun s => (zO s).2.2.1
def hr6 (_ : World) := some (zG.2.2.1)
def hl7 (w : World) := (zE w).map fun s => (zO s).2.2.2
def hr7 (_ : World) := some (zG.2.2.2)
def hl8 (w : World) := (zE w).map fun s => nms.map (PySem.W.nsIn (Kof 424 s.heap) mainGlobals)
def hr8 (_ : World) := some (nmsE)
def hl9 (w : World) := (zE w).map fun s => (fnd.map (fun p => PySem.W.findIn (Kof 424 s.heap) (.ref p.1) p.2),bls (Kof 424 s.heap))
def hr9 (_ : World) := some ((fndE,blsE))
def hl10 (w : World) := (zE w).map fun s => fnsa.map (fnV (Kof 424 s.heap))
def hr10 (_ : World) := some (fnsaE)
def hl11 (w : World) := (zE w).map fun s => fnsb.map (fnV (Kof 424 s.heap))
def hr11 (_ : World) := some (fnsbE)
def hl12 (w : World) := (zE w).map fun s => fnsc.map (fnV (Kof 424 s.heap))
def hr12 (_ : World) := some (fnscE)
def hl13 (w : World) := (zE w).map fun s => fnsd.map (fnV (Kof 424 s.heap))
def hr13 (_ : World) := some (fnsdE)
def hl14 (w : World) := (zE w).map fun s => fnse.map (fnV (Kof 424 s.heap))
def hr14 (_ : World) := some (fnseE)
def hl15 (w : World) := (zE w).map fun s => fnsf.map (fnV (Kof 424 s.heap))
def hr15 (_ : World) := some (fnsfE)
end K33
namespace PySem.W.Fast
lay_quick K33.hl0 K33.hr0 K33.hl1 K33.hr1 K33.hl2 K33.hr2 K33.hl3 K33.hr3 K33.hl4 K33.hr4 K33.hl5 K33.hr5 K33.hl6 K33.hr6 K33.hl7 K33.hr7 K33.hl8 K33.hr8 K33.hl9 K33.hr9 K33.hl10 K33.hr10 K33.hl11 K33.hr11 K33.hl12 K33.hr12 K33.hl13 K33.hr13 K33.hl14 K33.hr14 K33.hl15 K33.hr15
end PySem.W.Fast
namespace K33
open PySem PyProof.Rows L2 MD PySem.W.Fast
theorem hlq0 (w : World) : tw8906442719225455409 w = tw13579576736294351600 w := by kernel_rfl
theorem hlq1 (w : World) : tw5964565275028813438 w = tw7340330696294009100 w := by kernel_rfl
theorem hlq2 (w : World) : tw12984249959616762439 w = tw12236673436263557351 w := by kernel_rfl
theorem hlq3 (w : World) : tw10158137017806330943 w = tw14285939940830779792 w := by kernel_rfl
theorem hlq4 (w : World) : tw15350317014937126798 w = tw14428848710779028423 w := by kernel_rfl
theorem hlq5 (w : World) : tw16553575333030085743 w = tw1130043941692636184 w := by kernel_rfl
theorem hlq6 (w : World) : tw18267126493157099889 w = tw2010425307037491383 w := by kernel_rfl
theorem hlq7 (w : World) : tw5070562073093850109 w = tw4482225144939263046 w := by kernel_rfl
theorem hlq8 (w : World) : tw6133285556252145950 w = tw18170423527857718090 w := by kernel_rfl
theorem hlq9 (w : World) : tw15843322658081326358 w = tw4764106959777395024 w := by kernel_rfl
theorem hlq10 (w : World) : tw4109183084622561649 w = tw6229690640934280125 w := by kernel_rfl
theorem hlq11 (w : World) : tw9057165500133497263 w = tw14170293226956033696 w := by kernel_rfl
theorem hlq12 (w : World) : tw1065343074297741782 w = tw4810977709648543274 w := by kernel_rfl
theorem hlq13 (w : World) : tw6185069075116149017 w = tw9136859329053624148 w := by kernel_rfl
theorem hlq14 (w : World) : tw13087940232859340222 w = tw7517175058224116131 w := by kernel_rfl
theorem hlq15 (w : World) : tw2191764210971071068 w = tw5490901614204980448 w := by kernel_rfl
end K33
namespace L2
open PySem PySem.Spec PyProof.Rows
section
variable {X : Cx}
theorem zlq : OpR X (binaryOp .Mult) (fun x y H Q => ∃ z n,x = .str z /\ y = .int n /\ MulOk z n /\ Q (.str (Txt.mul z n)) H) := by
 intro pins s σ H x y v u Q I rx ry h
 obtain ⟨z,n,rfl,rfl,hz,q⟩ := h
 obtain ⟨t,rfl⟩ := rx
 obtain ⟨t',rfl⟩ := ry
 exact SB.mul hz fun t' tk => ⟨.str _,H,I.tok _,⟨_,rfl⟩,q⟩
theorem zjd : CallR X (.type "int") (fun xs H Q => ∃ z n,xs = [.str z] /\ PySem.intText? z = some n /\ z.length <= 640 /\ Q (.int n) H) := by
 intro pins s σ H xs us Q I r h
 obtain ⟨z,n,rfl,hn,hl,q⟩ := h
 obtain ⟨u,rfl,t,rfl⟩ := zbY r
 exact PySem.W.KIN.call_text hn hl ⟨.int n,H,I.tok _,⟨_,rfl⟩,q⟩
theorem zhu : OpR X (binaryOp .FloorDiv) (rI (fun _ j => 0 < j /\ j < 2 ^ 64) fun i j => .int (i / j)) := opI fun i j _ _ _ _ _ hc q => by
 have h1 : (0 : Int) < j := hc.1
 have h2 : j < 2 ^ 64 := hc.2
 refine floordiv_int (by omega) (by rw [Int.fdiv_eq_ediv_of_nonneg i (by omega)]; exact q) (.inl (PyProof.noPylong_of_log2 ?_))
 have h3 : j.natAbs < 2 ^ 64 := by omega
 have h4 : j.natAbs.log2 < 64 := (Nat.log2_lt (by omega)).mpr h3
 omega
end
def clSub : List (Str × Addr) -> List (Str × Addr) -> Prop
 | [],_ => True
 | (n,a) :: r,cells => cells.lookup n = some a /\ clSub r cells
theorem clSub.at : ∀ {cl cells : List (Str × Addr)} {x : Str} {c : Addr},clSub cl cells -> cl.lookup x = some c -> cells.lookup x = some c
 | [],_,_,_,_,e => by simp at e
 | (n,a) :: r,cells,x,c,h,e => by
  rw [List.lookup_cons] at e
  cases hx : x == n with
  | true =>
   rw [hx] at e
   cases e
   have q : x = n := by simpa using hx
   rw [q]
   exact h.1
  | false =>
   rw [hx] at e
   exact clSub.at h.2 e
structure CompOk (X : Cx) (N0 : List Str) (scope : Scope) (xs : List Str) (cl : List (Str × Addr)) : Prop where
 clos : closureFor scope X.env = pure cl
 kind : scope.kind = .function
 nocell : (scope.names.all fun y => decide (y.2 ≠ .cell)) = true
 locs : (scope.names.all fun y => decide (y.2 ≠ .local) || (decide (scope.names.lookup y.1 = some .local) && decide (y.1 ∉ N0))) = true
 sub : clSub cl X.env.cells
 has : (scope.names.all fun y => decide (y.2 ≠ .free) || ((cl.lookup y.1).isSome && (decide (X.env.kindOf y.1 = some .cell) || decide (X.env.kindOf y.1 = some .free)))) = true
 hid : N0 = X.N ∨ (N0.length = X.N.length /\ ((N0.zip X.N).all fun p => decide (p.1 = p.2) || (scope.names.lookup p.1).isNone) = true)
def Cx.comp (X : Cx) (N0 : List Str) (scope : Scope) (xs : List Str) (cl : List (Str × Addr)) (C : Addr) (s : Shared) (H : Hp) (fp : List Addr) : Cx :=
 { X with N := N0 ++ xs,s₀ := s,H₀ := H,env := compEnvC scope cl C X.env,outer := X.stack,stack := X.stack,ex := fp,fn := fun _ => false,pn := [] }
theorem zb5 {env : Env} : ∀ {names : List (Str × NameKind)} {x : Str} {k : NameKind},
  (names.map fun (n,k) => if (k == NameKind.free && env.scope.kind == .function && env.kindOf n == some .cell) then (n,NameKind.cell) else (n,k)).lookup x = some k →
  ∃ k',names.lookup x = some k' /\ (x,k') ∈ names /\ (k' = k ∨ (k' = .free /\ k = .cell))
 | [],_,_,h => by simp at h
 | (n,q) :: r,x,k,h => by
  rw [List.map_cons] at h
  cases hx : x == n with
  | true =>
   have e : x = n := by simpa using hx
   subst e
   refine ⟨q,by simp [List.lookup_cons],List.mem_cons_self,?_⟩
   dsimp only at h
   split at h
   ·rename_i hc
    simp [List.lookup_cons] at h
    have : q = .free := by
     simp at hc
     exact hc.1.1
    exact .inr ⟨this,h.symm⟩
   ·simp [List.lookup_cons] at h
    exact .inl h
  | false =>
   have h' : (r.map fun (n,k) => if (k == NameKind.free && env.scope.kind == .function && env.kindOf n == some .cell) then (n,NameKind.cell) else (n,k)).lookup x = some k := by
    dsimp only at h
    split at h <;> (simp only [List.lookup_cons,hx] at h; exact h)
   obtain ⟨k',e1,e2,e3⟩ := zb5 h'
   exact ⟨k',by simp only [List.lookup_cons,hx]; exact e1,List.mem_cons_of_mem _ e2,e3⟩
section
variable {X : Cx} {N0 : List Str} {scope : Scope} {xs : List Str} {cl : List (Str × Addr)}
theorem CompOk.nc (S : CompOk X N0 scope xs cl) : ∀ y ∈ scope.names,y.2 ≠ .cell := fun y hy => of_decide_eq_true (List.all_eq_true.mp S.nocell y hy)
theorem CompOk.lo (S : CompOk X N0 scope xs cl) {y : Str × NameKind} (hy : y ∈ scope.names) (h : y.2 = .local) : scope.names.lookup y.1 = some .local /\ y.1 ∉ N0 := by
 have q := List.all_eq_true.mp S.locs y hy
 rw [Bool.or_eq_true,Bool.and_eq_true,decide_eq_true_eq,decide_eq_true_eq,decide_eq_true_eq] at q
 rcases q with q | q
 ·exact absurd h q
 ·exact q
theorem CompOk.fr (S : CompOk X N0 scope xs cl) {y : Str × NameKind} (hy : y ∈ scope.names) (h : y.2 = .free) : (∃ c,cl.lookup y.1 = some c) /\ (X.env.kindOf y.1 = some .cell ∨ X.env.kindOf y.1 = some .free) := by
 have q := List.all_eq_true.mp S.has y hy
 rw [Bool.or_eq_true,Bool.and_eq_true,Bool.or_eq_true,decide_eq_true_eq,decide_eq_true_eq,decide_eq_true_eq] at q
 rcases q with q | q
 ·exact absurd h q
 ·exact ⟨Option.isSome_iff_exists.mp q.1,q.2⟩
theorem CompOk.vis (S : CompOk X N0 scope xs cl) {x : Str} (h : Vis (relabel scope X.env) x) (hx : x ∈ N0) : ∃ c,cl.lookup x = some c /\ (X.env.kindOf x = some .cell ∨ X.env.kindOf x = some .free) := by
 have go : ∀ k,(relabel scope X.env).names.lookup x = some k -> (k = .local ∨ k = .cell ∨ k = .free) -> ∃ c,cl.lookup x = some c /\ (X.env.kindOf x = some .cell ∨ X.env.kindOf x = some .free) := fun k e hk => by
  obtain ⟨k',_,e2,e3⟩ := zb5 e
  have hf : k' = .free := by
   rcases e3 with e3 | e3
   ·subst e3
    rcases hk with rfl | rfl | rfl
    ·exact absurd hx (S.lo e2 rfl).2
    ·exact absurd rfl (S.nc _ e2)
    ·rfl
   ·exact e3.1
  obtain ⟨⟨c,q⟩,r⟩ := S.fr e2 hf
  exact ⟨c,q,r⟩
 rcases h with h | h | h
 ·exact go _ h (.inl rfl)
 ·exact go _ h (.inr (.inl rfl))
 ·exact go _ h (.inr (.inr rfl))
theorem CompOk.len (S : CompOk X N0 scope xs cl) : N0.length = X.N.length := S.hid.elim (fun h => by rw [h]) fun h => h.1
theorem CompOk.same (S : CompOk X N0 scope xs cl) {i : Nat} {x : Str} (e : N0[i]? = some x) (h : Vis (relabel scope X.env) x) : X.N[i]? = some x := by
 rcases S.hid with q | ⟨q1,q2⟩
 ·rw [<- q]; exact e
 ·have hi : i < N0.length := (List.getElem?_eq_some_iff.mp e).1
  have hx : ∃ k',scope.names.lookup x = some k' := by
   rcases h with h | h | h <;> (obtain ⟨k',z,_⟩ := zb5 h; exact ⟨k',z⟩)
  obtain ⟨k',hk⟩ := hx
  have ey := List.getElem?_eq_getElem (show i < X.N.length by omega)
  have hm : (x,X.N[i]'(by omega)) ∈ N0.zip X.N := List.mem_of_getElem? (i := i) (by rw [List.getElem?_zip_eq_some]; exact ⟨e,ey⟩)
  have := List.all_eq_true.mp q2 _ hm
  rw [hk] at this
  simp at this
  rw [ey,<- this]
theorem CompOk.hasC (S : CompOk X N0 scope xs cl) {x : Str} (h : (relabel scope X.env).names.lookup x = some .cell ∨ (relabel scope X.env).names.lookup x = some .free) : ∃ c,cl.lookup x = some c := by
 have go : ∀ k,(relabel scope X.env).names.lookup x = some k -> (k = .cell ∨ k = .free) -> ∃ c,cl.lookup x = some c := fun k e hk => by
  obtain ⟨k',_,e2,e3⟩ := zb5 e
  have hf : k' = .free := by
   rcases e3 with e3 | e3
   ·subst e3
    rcases hk with rfl | rfl
    ·exact absurd rfl (S.nc _ e2)
    ·rfl
   ·exact e3.1
  exact (S.fr e2 hf).1
 rcases h with h | h
 ·exact go _ h (.inl rfl)
 ·exact go _ h (.inr rfl)
end
section
variable {X : Cx} {N0 : List Str} {scope : Scope} {xs : List Str} {cl : List (Str × Addr)} {pins : List (Addr × Obj)} {σ : St} {H2 : Hp} {s2 : Shared} {fp : List Addr} {C : Addr}
theorem zsf (I2 : Inv X pins σ H2 s2) (S : CompOk X N0 scope xs cl) (f2 : ∀ b ∈ fp,zd8 X pins H2 b) (hfp : ∀ b ∈ fp,b < s2.heap.objs.size) (hC : s2.heap.objs.size <= C) : (X.comp N0 scope xs cl C s2 H2 fp).Ok where
 mod := I2.ok.mod
 kind := S.kind
 glob := I2.ok.glob
 blt := I2.ok.blt
 above := hC
 inj := fun x y c h1 h2 => I2.ok.inj x y c (S.sub.at h1) (S.sub.at h2)
 has := fun x h => S.hasC h
 cab := fun _ _ h => nomatch h
 hd := I2.ok.hd
 frames := I2.ok.frames
 stk := .inl rfl
 exf := fun b hb => ⟨Nat.ne_of_lt (Nat.lt_of_lt_of_le (hfp b hb) hC),fun x c e => (f2 b hb).2.2.2.2.1 x c (S.sub.at e)⟩
 bs := I2.bs
 bsz := Nat.le_trans I2.ok.bsz I2.sz
 noex := fun b o e hb => by
  rcases (f2 b hb).2.2.2.1 with z | z
  ·exact I2.ok.noex b o e z
  ·exact absurd (Nat.lt_of_lt_of_le (Heap.lt_size e) (Nat.le_trans I2.ok.bsz z)) (Nat.lt_irrefl _)
 exfs := fun b hb z => by
  rcases List.mem_cons.mp (I2.stkSub b z) with q | q
  ·exact (f2 b hb).2.1 q
  ·exact (f2 b hb).2.2.1 q
 funs := I2.stack
 frf := I2.stkFree
theorem zi6 {H' : Hp} {h' : Heap} (I2 : Inv X pins σ H2 s2) (f2 : ∀ b ∈ fp,zd8 X pins H2 b) (u : Un (frs X.stack) fp H2 H' s2.heap h') {x : Str} {c : Addr} {v : Option Value} (e : X.env.cells.lookup x = some c) (z : s2.heap.IsCell c v) : h'.IsCell c v := by
 obtain ⟨o,ho,hd⟩ := z
 obtain ⟨sl,q⟩ := u.any ho (I2.freeC x c e) fun hb => (f2 c hb).2.2.2.2.1 x c e rfl
 exact ⟨_,q,hd⟩
theorem zk4 {H' : Hp} {h' : Heap} {m' : Str -> Option Value} (I2 : Inv X pins σ H2 s2) (S : CompOk X N0 scope xs cl) (f2 : ∀ b ∈ fp,zd8 X pins H2 b) (u : Un (frs X.stack) fp H2 H' s2.heap h')
  (i : Nat) (x : Str) (v : V) (e1 : (N0 ++ xs)[i]? = some x) (e2 : (σ ++ List.replicate xs.length none)[i]? = some (some v)) (e3 : Vis (relabel scope X.env) x) :
  ∃ w,RelV v w /\ Look (compEnvC scope cl C X.env) h' m' x w := by
 have hl := I2.len
 have hl0 := S.len
 by_cases hi : i < σ.length
 ·rw [List.getElem?_append_left (by omega)] at e1
  rw [List.getElem?_append_left hi] at e2
  obtain ⟨c,hc,hk⟩ := S.vis e3 (List.mem_of_getElem? e1)
  obtain ⟨m,_,hloc⟩ := I2.loc
  have hv : Vis X.env.scope x := .inr hk
  obtain ⟨w,r,l⟩ := hloc i x v (S.same e1 e3) e2 hv
  have hcx := S.sub.at hc
  refine ⟨w,r,.inr ⟨?_,c,hc,?_⟩⟩
  ·rcases e3 with e3 | e3 | e3
   ·obtain ⟨k',_,m2,m3⟩ := zb5 e3
    rcases m3 with m3 | m3
    ·exact absurd (List.mem_of_getElem? e1) (S.lo m2 m3).2
    ·exact nomatch m3.2
   ·exact .inl e3
   ·exact .inr e3
  ·rcases l with ⟨q,_⟩ | ⟨_,c',q,z⟩
   ·rcases hk with hk | hk
    ·rw [q] at hk; cases hk
    ·rw [q] at hk; cases hk
   ·rw [hcx] at q
    cases q
    exact zi6 I2 f2 u hcx z
 ·rw [List.getElem?_append_right (by omega),List.getElem?_replicate] at e2
  split at e2 <;> cases e2
theorem zc4 {pins' : List (Addr × Obj)} {σ' : St} {H' : Hp} {s' : Shared} (I2 : Inv X pins σ H2 s2) (S : CompOk X N0 scope xs cl) (f2 : ∀ b ∈ fp,zd8 X pins H2 b) (J : Inv (X.comp N0 scope xs cl C s2 H2 fp) pins' σ' H' s') :
  Inv (X.comp N0 scope xs cl C s2 H2 fp) pins' (σ ++ List.replicate xs.length none) H' s' :=
 ⟨J.ok,J.os,J.bare,J.base,let ⟨m,hn,_⟩ := J.loc; ⟨m,hn,fun i x v e1 e2 e3 => zk4 I2 S f2 J.base i x v e1 e2 e3⟩,J.cell,J.free,J.freeC,J.pin,J.hok,by
  rw [List.length_append,List.length_replicate]
  show σ.length + xs.length = (N0 ++ xs).length
  rw [List.length_append,I2.len,S.len]⟩
theorem zgR {D : Addr} {oD : Obj} {s3 : Shared} {m' : Str -> Option Value} (I2 : Inv X pins σ H2 s2) (S : CompOk X N0 scope xs cl) (f2 : ∀ b ∈ fp,zd8 X pins H2 b) (hfp : ∀ b ∈ fp,b < s2.heap.objs.size) (hC : s2.heap.objs.size <= C) (hD : s2.heap.objs.size <= D) (hDC : D ≠ C)
  (k : ∀ b o,s2.heap.get? b = some o -> s3.heap.get? b = some o) (ho : s3.os = s2.os) (hb : AllBare s3.gens) (hn : s3.heap.Ns C m') (hd : s3.heap.get? D = some oD) (hcell : ∀ v,oD.data ≠ .cell v) :
  Inv (X.comp N0 scope xs cl C s2 H2 fp) [(D,oD)] (σ ++ List.replicate xs.length none) H2 s3 :=
 have u : Un (frs X.stack) fp H2 H2 s2.heap s3.heap := Un.kept k
 ⟨zsf I2 S f2 hfp hC,ho,hb,u,⟨m',hn,fun i x v e1 e2 e3 => zk4 I2 S f2 u i x v e1 e2 e3⟩,
  fun x c e => by
   obtain ⟨v,z⟩ := I2.cell x c (S.sub.at e)
   exact ⟨v,zi6 I2 f2 u (S.sub.at e) z⟩,
  I2.hok.fresh hC,fun x c e => I2.freeC x c (S.sub.at e),
  fun p hp => by
   have e : p = (D,oD) := List.mem_singleton.mp (show p ∈ [(D,oD)] from hp)
   subst e
   refine ⟨hd,I2.hok.fresh hD,hDC,fun z => ?_,hcell⟩
   obtain ⟨_,o,q,_⟩ := I2.stack.mem z
   exact absurd (Nat.lt_of_lt_of_le (Heap.lt_size q) hD) (Nat.lt_irrefl _),
  I2.hok.kept k,by
   rw [List.length_append,List.length_replicate]
   show σ.length + xs.length = (N0 ++ xs).length
   rw [List.length_append,I2.len,S.len]⟩
theorem zdX {P : Program} {w : World} {H : Hp} {h : Heap} {a : Addr} {o : HO} (x : HOk P w H h) (hn : H a = none) (new : ObjOk P w (upd H a o) h a o) : HOk P w (upd H a o) h := fun b u e => by
 by_cases hb : b = a
 ·subst hb
  rw [zax] at e
  cases e
  exact new
 ·rw [zan hb] at e
  exact (x b u e).stay (fun _ _ _ q => q) (fun c q => by rw [zan (zay q hn)]; exact q) fun c ys q => by rw [zan (zay q hn)]; exact q
theorem zpK {pins' : List (Addr × Obj)} {σ' : St} {H' : Hp} {s' : Shared} {D : Addr} {ys : List V} {its : List Value} {n : Nat} (I2 : Inv X pins σ H2 s2) (f2 : ∀ b ∈ fp,zd8 X pins H2 b) (hD : s2.heap.objs.size <= D)
  (J : Inv (X.comp N0 scope xs cl C s2 H2 fp) pins' σ' H' s') (hn : H' D = none) (e : s'.heap.get? D = some { cls := .type "list", data := .seq its.toArray n }) (r : Vals ys its) (hz : ys.length <= sizeLine) :
  Inv X pins σ (upd H' D (.lst ys)) s' := by
 have u : Un (frs X.stack) fp H2 H' s2.heap s'.heap := J.base
 have neD : ∀ b o,s2.heap.get? b = some o -> b ≠ D := fun b o q => Nat.ne_of_lt (Nat.lt_of_lt_of_le (Heap.lt_size q) hD)
 have neT : ∀ b o,H2 b = some o -> b ≠ D := fun b o q => Nat.ne_of_lt (Nat.lt_of_lt_of_le (I2.hok.lt q) hD)
 refine I2.call' (ch := fp) J.os ⟨u.keep,u.slot,fun b o q m hx => ?_,u.there,fun b zs q => ?_,fun b o zs q => ?_,fun b ps q => ?_⟩ (zdX J.hok hn ⟨hz,its,n,r,e⟩) J.bare fun b hb => ?_
 ·rw [zan (neD b o q)]
  exact u.free b o q m hx
 ·rw [zan (neT b _ q)]
  exact u.tups b zs q
 ·rw [zan (neT b _ q)]
  exact u.frzs b o zs q
 ·rw [zan (neT b _ q)]
  exact u.tbls b ps q
 ·obtain ⟨_,z1,_,z2,z3,z4⟩ := f2 b hb
  exact ⟨z2,z1,z3,z4⟩
end
def PIf (X : Cx) (ifs : List Expr) (t : TT) : Prop :=
 ∀ (pins : List (Addr × Obj)) (s : Shared) (σ : St) (H : Hp) (Q : Bool -> Hp -> Prop),Inv X pins σ H s -> t σ H Q →
  wpAny (model X.prog X.w) X.A (forIn ifs true fun c r => if r = true then do let ok <- isTrue c X.env (eval c X.env); pure (ForInStep.yield ok) else pure (ForInStep.yield r)) (TP X pins σ Q) X.xe s
def tYes : TT := fun _ H Q => Q true H
theorem zri {X : Cx} : PIf X [] tYes := fun _ _ _ H _ I h => wpAny_tests_nil ⟨H,I,h⟩
theorem zrh {X : Cx} {c : Expr} {t : TT} (h : PT X c t) : PIf X [c] t := fun pins s σ H Q I hq => wpAny_tests_one (h pins s σ H Q I hq)
def tComp (n : Nat) (wi : TI) (g : TG) (tf : TT) (te : TE) (fin : List V -> Hp -> Prop) : St -> Hp -> Prop := fun σ H => wi σ H fun J H1 => ∃ W : Nat -> Nat -> List V -> Hp -> Prop,(∃ m,W 0 m [] H1) /\ ∀ i m ys H,W i m ys H →
 ys.length <= sizeLine /\ ((J.stop i H /\ fin ys H) ∨ (J.go i H /\ ∃ (Y : V -> Hp -> Prop) (Z : Hp -> Prop),(∀ y H4,Y y H4 -> ys.length < sizeLine /\ ∃ m',m' < m /\ W (i + 1) m' (ys ++ [y]) H4) /\ (∀ H3,Z H3 -> ∃ m',m' < m /\ W (i + 1) m' ys H3) ∧
  ∀ x H',J.yld i H x H' -> g x (σ ++ List.replicate n none) H' fun σ2 H2 => tf σ2 H2 fun b H3 => if b = true then te σ2 H3 Y else Z H3))
theorem zlU {prog : Program} {w : World} {A : Around} {R : Result -> Shared -> Prop} {s : Shared} {elt target iter : Expr} {ifs : List Expr} {scope : Scope} {pos : Pos} {it acc : Value} {env : Env} (I : Nat -> Shared -> Prop)
  (turn : ∀ n s,I n s -> wpAny (model prog w) A (pyNext it) (fun r s₁ => match r with
   | none => R (.ok .next) s₁
   | some v => wpAny (model prog w) A (letOwnedTupleGo target it v) (fun _ t₁ => wpAny (model prog w) A (assign target env v) (fun _ s₂ =>
     wpAny (model prog w) A (forIn ifs true fun c r => if r = true then do let ok <- isTrue c env (eval c env); pure (ForInStep.yield ok) else pure (ForInStep.yield r)) (fun ok s₃ =>
      if ok = true then wpAny (model prog w) A (eval elt env) (fun x s₄ => wpAny (model prog w) A (call (.builtin "list.append") [acc,x]) (fun _ s₅ => ∃ m,m < n /\ I m s₅) (fun _ _ => False) s₄) (fun _ _ => False) s₃
      else ∃ m,m < n /\ I m s₃) (fun _ _ => False) s₂) (fun _ _ => False) t₁) (fun _ _ => False) s₁) (fun _ _ => False) s)
  (n : Nat) (h : I n s) : codeAny (model prog w) A (.compLoop (.ListComp elt [⟨target,iter,ifs,0⟩] scope pos) 0 it acc env) R s := by
 refine codeAny_loop rfl I (fun n s hI => ?_) n h
 show wpAny _ A (Sem.onRaise (compTurn _ 0 it acc env) fun x => do noteFrame x env; theTreesLotGoes x) _ _ s
 refine wpAny_noted ?_
 rw [compTurn_list]
 refine wpAny_bind (wpAny_standAt (wpAny_bind (wpAny_mono (turn n s hI) (fun r s₁ h₁ => ?_) fun _ _ z => z.elim)))
 cases r with
 | none => exact wpAny_pure h₁
 | some v =>
  refine wpAny_bind (wpAny_mono h₁ (fun _ t₁ k₁ => ?_) fun _ _ z => z.elim)
  refine wpAny_bind (wpAny_mono k₁ (fun _ s₂ h₂ => wpAny_bind (wpAny_mono h₂ (fun ok s₃ h₃ => ?_) fun _ _ z => z.elim)) fun _ _ z => z.elim)
  cases ok with
  | false => exact wpAny_pure ⟨rfl,h₃⟩
  | true =>
   refine wpAny_bind (wpAny_bind (wpAny_mono h₃ (fun x s₄ h₄ => ?_) fun _ _ z => z.elim))
   exact wpAny_bind (wpAny_mono h₄ (fun _ s₅ h₅ => wpAny_pure (wpAny_pure ⟨rfl,h₅⟩)) fun _ _ z => z.elim)
section
variable {X : Cx} {N0 : List Str} {tg elt iter : Expr} {ifs : List Expr} {scope : Scope} {xs : List Str} {cl : List (Str × Addr)} {pos : Pos} {wi : TI} {g : TG} {tf : TT} {te : TE}
theorem zgS {pins : List (Addr × Obj)} {σ : St} {H2 : Hp} {s2 : Shared} {it : Addr} {fp : List Addr} {tn : Nat -> Heap -> Prop} {J : It} {W : Nat -> Nat -> List V -> Hp -> Prop} {m0 : Nat} {fin : List V -> Hp -> Prop} {RR : Value -> Addr -> Result -> Shared -> Prop}
  (hc : X.calm = true) (hx : X.xe = fun _ _ => False) (S : CompOk X N0 scope xs cl)
  (hg : ∀ C s H fp,PG (X.comp N0 scope xs cl C s H fp) tg g) (hf : ∀ C s H fp,PIf (X.comp N0 scope xs cl C s H fp) ifs tf) (he : ∀ C s H fp,PE (X.comp N0 scope xs cl C s H fp) elt te)
  (I2 : Inv X pins σ H2 s2) (T : Turn X.prog X.w X.K tg J fp it tn) (st2 : tn 0 s2.heap) (f2 : ∀ b ∈ fp,zd8 X pins H2 b) (w0 : W 0 m0 [] H2)
  (turn : ∀ i m ys H,W i m ys H -> ys.length <= sizeLine /\ ((J.stop i H /\ fin ys H) ∨ (J.go i H /\ ∃ (Y : V -> Hp -> Prop) (Z : Hp -> Prop),(∀ y H4,Y y H4 -> ys.length < sizeLine /\ ∃ m',m' < m /\ W (i + 1) m' (ys ++ [y]) H4) /\ (∀ H3,Z H3 -> ∃ m',m' < m /\ W (i + 1) m' ys H3) ∧
   ∀ x H',J.yld i H x H' -> g x (σ ++ List.replicate xs.length none) H' fun σ2 H2 => tf σ2 H2 fun b H3 => if b = true then te σ2 H3 Y else Z H3)))
  (hRR : ∀ (D C : Addr) (s' : Shared) (ys : List V) (H' : Hp) (m' : Str -> Option Value),Inv X pins σ (upd H' D (.lst ys)) s' -> H' D = none -> s'.heap.Ns C m' -> zd8 X pins (upd H' D (.lst ys)) C -> fin ys H' -> RR (.ref D) C (.ok .next) s') :
  wpAny (model X.prog X.w) X.A (newList []) (fun acc s₃ => wpAny (model X.prog X.w) X.A (newFunctionEnv scope X.env.globals cl [] X.env.qual none .none (some X.env)) (fun cenv s₄ =>
   codeAny (model X.prog X.w) X.A (.compStart (.ListComp elt [⟨tg,iter,ifs,0⟩] scope pos) 0 (.ref it) acc { cenv with scope := relabel scope X.env }) (RR acc cenv.locals) s₄) X.xe s₃) X.xe s2 := by
 refine wpAny_newObj_type (wpAny_newFunctionEnv S.nc (by intro y hy; simp at hy) (fun h₁ hns₁ hsb₁ => ?_) S.kind)
 dsimp only at hns₁ hsb₁ ⊢
 generalize hG : s2.heap.push { cls := .type "list", dict := none,data := .seq ([] : List Value).toArray } = G at hns₁ hsb₁ ⊢
 have szG : G.objs.size = s2.heap.objs.size + 1 := by rw [<- hG,Heap.size_push]
 have hDC : s2.heap.objs.size ≠ G.objs.size := by rw [szG]; exact Nat.ne_of_lt (Nat.lt_succ_self _)
 have hC : s2.heap.objs.size <= G.objs.size := by rw [szG]; exact Nat.le_succ _
 have hfp : ∀ b ∈ fp,b < s2.heap.objs.size := fun b hb => let ⟨_,e,_⟩ := T.obj 0 _ st2 b hb; Heap.lt_size e
 have old : ∀ b o,s2.heap.get? b = some o -> h₁.get? b = some o := fun b o e =>
  hsb₁.extBut b o (Nat.ne_of_lt (Nat.lt_of_lt_of_le (Heap.lt_size e) hC)) (Heap.get?_push_of_some _ (hG ▸ Heap.get?_push_of_some _ e))
 have hacc : h₁.get? s2.heap.objs.size = some { cls := .type "list", data := .seq ([] : List Value).toArray 0 } := hsb₁.extBut _ _ hDC (Heap.get?_push_of_some _ (hG ▸ Heap.get?_push_size _ rfl))
 have hst₁ : tn 0 h₁ := T.keep 0 _ _ st2 fun b _ o e => old b o e
 have I3 : ∀ tk,Inv (X.comp N0 scope xs cl G.objs.size s2 H2 fp) [(s2.heap.objs.size,{ cls := .type "list", data := .seq ([] : List Value).toArray 0 })] (σ ++ List.replicate xs.length none) H2 { s2 with heap := h₁,toks := tk } := fun tk =>
  zgR I2 S f2 hfp hC (Nat.le_refl _) hDC old rfl I2.bare hns₁ hacc fun _ z => nomatch z
 have stat : ∀ {H' : Hp} {o : Obj},(∀ b ∈ fp,H' b = none) -> ∀ b ∈ fp,zd8 (X.comp N0 scope xs cl G.objs.size s2 H2 fp) [(s2.heap.objs.size,o)] H' b := fun {H' o} hn b hb => by
  refine ⟨hn b hb,Nat.ne_of_lt (Nat.lt_of_lt_of_le (hfp b hb) hC),fun z => ?_,.inl hb,fun x c e => (f2 b hb).2.2.2.2.1 x c (S.sub.at e),fun p hp => ?_⟩
  ·rcases List.mem_cons.mp (I2.stkSub b z) with q | q
   ·exact (f2 b hb).2.1 q
   ·exact (f2 b hb).2.2.1 q
  ·have e : p = (s2.heap.objs.size,o) := List.mem_singleton.mp (show p ∈ [(s2.heap.objs.size,o)] from hp)
   subst e
   exact Nat.ne_of_gt (hfp b hb)
 have loop : ∀ tk,codeAny (model X.prog X.w) X.A (.compLoop (.ListComp elt [⟨tg,iter,ifs,0⟩] scope pos) 0 (.ref it) (.ref s2.heap.objs.size) (compEnvC scope cl G.objs.size X.env)) (RR (.ref s2.heap.objs.size) G.objs.size) { s2 with heap := h₁,toks := tk } := by
  intro tk
  refine zlU (fun n s' => ∃ i ys its k H',Inv (X.comp N0 scope xs cl G.objs.size s2 H2 fp) [(s2.heap.objs.size,{ cls := .type "list", data := .seq (its : List Value).toArray k })] (σ ++ List.replicate xs.length none) H' s' /\ tn i s'.heap /\ (∀ b ∈ fp,H' b = none) /\ Vals ys its /\ W i n ys H')
   ?_ m0 ⟨0,[],[],0,H2,I3 tk,hst₁,fun b hb => (f2 b hb).1,.nil,w0⟩
  rintro n s' ⟨i,ys,its,k,H',I',st',fr',rv,w'⟩
  obtain ⟨hlen,way⟩ := turn i n ys H' w'
  rcases way with ⟨stop,qf⟩ | ⟨go,Y,Z,hY,hZ,step⟩
  ·refine thn (T.done (X.comp N0 scope xs cl G.objs.size s2 H2 fp) rfl rfl rfl hc i _ s' _ H' (fun _ _ => False) I' (stat fr') st' stop) fun r s1 ⟨hr,I1⟩ => ?_
   subst hr
   obtain ⟨e,n1,_⟩ := I1.pin _ (List.mem_singleton.mpr rfl)
   obtain ⟨m1,hn1,_⟩ := I1.loc
   refine hRR _ _ s1 ys H' m1 (zpK I2 f2 (Nat.le_refl _) I1 n1 e rv hlen) n1 hn1 ?_ qf
   refine I2.fpOk hC ?_
   rw [zan hDC.symm]
   exact I1.free
  ·refine thn (T.item (X.comp N0 scope xs cl G.objs.size s2 H2 fp) rfl rfl rfl hc i _ s' _ H' (fun _ _ => False) I' (stat fr') st' go) fun r s1 ⟨u,hr,h1⟩ => ?_
   subst hr
   refine thn h1 fun _ s5 ⟨x,H5,I5,r5,y5,st5,fr5⟩ => ?_
   have I5' := I5.pinned (stat fr5) (T.obj _ _ st5)
   have hxe : (X.comp N0 scope xs cl G.objs.size s2 H2 fp).xe = fun _ _ => False := hx
   have q6 := hg _ s2 H2 fp _ s5 _ H5 x u _ I5' r5 (step x H5 y5)
   rw [hxe] at q6
   refine thn q6 fun _ s6 ⟨σ6,H6,I6,q6⟩ => ?_
   have q7 := hf _ s2 H2 fp _ s6 σ6 H6 _ I6 q6
   rw [hxe] at q7
   refine thn q7 fun b s7 ⟨H7,I7,q7⟩ => ?_
   have kept : ∀ {σ' : St} {H' : Hp} {s' : Shared},Inv (X.comp N0 scope xs cl G.objs.size s2 H2 fp) ([(s2.heap.objs.size,{ cls := .type "list", data := .seq its.toArray k })] ++ zbK fp s5.heap) σ' H' s' -> tn (i + 1) s'.heap /\ ∀ b ∈ fp,H' b = none := fun {σ' H' s'} Z => by
    refine ⟨T.keep _ _ _ st5 fun b hb o e => (Z.pin (b,o) (List.mem_append_right _ (List.mem_append_right _ (zbF hb e)))).1,fun b hb => ?_⟩
    obtain ⟨o,e,d⟩ := T.obj _ _ st5 b hb
    exact (Z.pin (b,o) (List.mem_append_right _ (List.mem_append_right _ (zbF hb e)))).2.1
   cases b with
   | false =>
    rw [if_neg Bool.false_ne_true]
    rw [if_neg Bool.false_ne_true] at q7
    obtain ⟨m',hm,w7⟩ := hZ _ q7
    exact ⟨m',hm,i + 1,ys,its,k,H7,zc4 I2 S f2 I7.unpinned,(kept I7).1,(kept I7).2,rv,w7⟩
   | true =>
    rw [if_pos rfl]
    rw [if_pos rfl] at q7
    have q8 := he _ s2 H2 fp _ s7 σ6 H7 _ I7 q7
    rw [hxe] at q8
    refine thn q8 fun y s8 ⟨yv,H8,I8,r8,qY⟩ => ?_
    obtain ⟨hz,m',hm,w8⟩ := hY _ _ qY
    obtain ⟨eD,nD,neC,nfD,_⟩ := I8.pin (s2.heap.objs.size,{ cls := .type "list", data := .seq its.toArray k }) (List.mem_append_right _ (List.mem_append_left _ (List.mem_singleton.mpr rfl)))
    have hl := rv.length
    refine call_meets F.slot_list_append ⟨_,eD,rfl⟩ F.entry_list_append (F.args_list_append_2 _ _) (PySem.list_append s2.heap.objs.size its.toArray k y (by rw [List.size_toArray]; omega)) ⟨eD,?_⟩
    have eN := PySem.IsL.update eD (fun (a : Array Value) => a.push y)
    have eA : its.toArray.push y = (its ++ [y]).toArray := by simp
    rw [eA] at eN
    have drop : Inv (X.comp N0 scope xs cl G.objs.size s2 H2 fp) (zbK fp s5.heap) σ6 H8 s8 := I8.pins_of fun p hp => I8.pin p (List.mem_append_right _ (List.mem_append_right _ hp))
    have I9 : Inv (X.comp N0 scope xs cl G.objs.size s2 H2 fp) (zbK fp s5.heap) σ6 H8 { s8 with heap := s8.heap.update s2.heap.objs.size (Obj.mapSeq fun (a : Array Value) => a.push y) } := by
     refine drop.turned (it := s2.heap.objs.size) (t' := s8.toks) (fun b o hb q => (Heap.get?_update_other s8.heap _ (Ne.symm hb)).trans q) nD neC (.inr (Nat.le_refl _)) (fun x c e z => ?_) fun p hp z => ?_
     ·obtain ⟨v,q⟩ := I2.cell x c (S.sub.at e)
      exact absurd (q.lt) (by rw [z]; exact Nat.lt_irrefl _)
     ·have hp' : p ∈ zbK fp s5.heap := hp
      exact absurd (hfp _ (zfC hp').1) (by rw [z]; exact Nat.lt_irrefl _)
    have I10 : Inv (X.comp N0 scope xs cl G.objs.size s2 H2 fp) ([(s2.heap.objs.size,{ cls := .type "list", data := .seq (its ++ [y]).toArray _ })] ++ zbK fp s5.heap) σ6 H8 { s8 with heap := s8.heap.update s2.heap.objs.size (Obj.mapSeq fun (a : Array Value) => a.push y) } := I9.pins_of fun p hp => by
     rcases List.mem_append.mp hp with z | z
     ·have e := List.mem_singleton.mp z
      subst e
      exact ⟨eN,nD,neC,nfD,fun _ z => nomatch z⟩
     ·exact I9.pin p (List.mem_append_right _ z)
    have kp : tn (i + 1) (s8.heap.update s2.heap.objs.size (Obj.mapSeq fun (a : Array Value) => a.push y)) /\ ∀ b ∈ fp,H8 b = none := by
     refine ⟨T.keep _ _ _ (kept I8).1 fun b hb o e => (Heap.get?_update_other s8.heap _ (Nat.ne_of_gt (hfp b hb))).trans e,(kept I8).2⟩
    exact ⟨m',hm,i + 1,ys ++ [yv],its ++ [y],_,H8,zc4 I2 S f2 I10.unpinned,kp.1,kp.2,rv.append (.cons r8 .nil),w8⟩
 exact codeAny_compStart_list (loop _) (T.self _ 0 _ _ _ hst₁ (loop _))
theorem zf5 {pins : List (Addr × Obj)} {σ : St} {H : Hp} {s : Shared} {h' : Heap} {C : Addr} (I : Inv X pins σ H s) (f : zd8 X pins H C) (k : Heap.SameBut C s.heap h') : Inv X pins σ H { s with heap := h' } := by
 obtain ⟨n,nl,nf,ab,nc,np⟩ := f
 exact I.turned (it := C) (t' := s.toks) (fun b o hb e => k.extBut b o hb e) n nl ab nc np
theorem zrr (hc : X.calm = true) (hx : X.xe = fun _ _ => False) (S : CompOk X N0 scope xs cl) (hi : PI X tg iter wi)
  (hg : ∀ C s H fp,PG (X.comp N0 scope xs cl C s H fp) tg g) (hf : ∀ C s H fp,PIf (X.comp N0 scope xs cl C s H fp) ifs tf) (he : ∀ C s H fp,PE (X.comp N0 scope xs cl C s H fp) elt te)
  (hs : autoParam (∀ x,foldedSetIterable iter X.env x = pure x) AutoP.a2._auto_1) :
  PE X (.ListComp elt [⟨tg,iter,ifs,0⟩] scope pos) (fun σ H Q => tComp xs.length wi g tf te (fun ys H' => ∀ p,H' p = none -> Q (.ref p) (upd H' p (.lst ys))) σ H) := by
 intro pins s σ H Q I h
 rw [eval_ListComp]
 refine wpAny_comprehension_free (use := none) rfl hs S.clos S.kind (fun y hy hl => (S.lo hy hl).1) ?_
 refine thn (hi pins s σ H _ I h) fun xv s1 h1 => thn h1 fun itv s2 h2 => ?_
 obtain ⟨it,fp,tn,J,H2,rfl,I2,T,st2,f2,W,⟨m0,w0⟩,turn⟩ := h2
 refine zgS (RR := fun acc C => compPost (model X.prog X.w) X.A X.xe none (EP X pins σ Q) acc C) hc hx S hg hf he I2 T st2 f2 w0 turn ?_
 intro D C s' ys H' m' I' nD hn fC fin
 exact ⟨m',hn,fun h' k => ⟨.ref D,_,zf5 I' fC k,rfl,fin D nD⟩⟩
end
section
variable {g : TG} {tf : TT} {te : TE} {fin : List V -> Hp -> Prop} {n : Nat} {σ : St} {H : Hp}
theorem zoj {J : It} {k : Nat} (Pv : Nat -> List V -> Hp -> Prop) (hk : k <= 1000000) (h0 : Pv 0 [] H) (hz : ∀ i ys H,Pv i ys H -> ys.length <= i)
  (hgo : ∀ i ys H,i < k -> Pv i ys H -> J.go i H /\ ∀ x H',J.yld i H x H' -> g x (σ ++ List.replicate n none) H' fun σ2 H2 => tf σ2 H2 fun b H3 => if b = true then te σ2 H3 (fun y H4 => Pv (i + 1) (ys ++ [y]) H4) else Pv (i + 1) ys H3)
  (hst : ∀ ys H,Pv k ys H -> J.stop k H /\ fin ys H) :
  ∃ W : Nat -> Nat -> List V -> Hp -> Prop,(∃ m,W 0 m [] H) /\ ∀ i m ys H,W i m ys H -> ys.length <= sizeLine /\ ((J.stop i H /\ fin ys H) ∨ (J.go i H /\ ∃ (Y : V -> Hp -> Prop) (Z : Hp -> Prop),(∀ y H4,Y y H4 -> ys.length < sizeLine /\ ∃ m',m' < m /\ W (i + 1) m' (ys ++ [y]) H4) ∧
   (∀ H3,Z H3 -> ∃ m',m' < m /\ W (i + 1) m' ys H3) /\ ∀ x H',J.yld i H x H' -> g x (σ ++ List.replicate n none) H' fun σ2 H2 => tf σ2 H2 fun b H3 => if b = true then te σ2 H3 Y else Z H3)) := by
 have hl : sizeLine = 16777216 := sizeLine_eq
 refine ⟨fun i m ys H => m = k - i /\ i <= k /\ Pv i ys H,⟨k,by simp,Nat.zero_le _,h0⟩,?_⟩
 rintro i m ys H ⟨rfl,hi,p⟩
 have z := hz i ys H p
 refine ⟨by omega,?_⟩
 by_cases hlt : i < k
 ·obtain ⟨g1,g2⟩ := hgo i ys H hlt p
  exact .inr ⟨g1,fun y H4 => Pv (i + 1) (ys ++ [y]) H4,fun H3 => Pv (i + 1) ys H3,fun y H4 q => ⟨by omega,k - (i + 1),by omega,rfl,hlt,q⟩,fun H3 q => ⟨k - (i + 1),by omega,rfl,hlt,q⟩,g2⟩
 ·have e : i = k := by omega
  subst e
  exact .inl (hst ys H p)
end
theorem zl8 {ns : List Int} {its : List Value} (r : Vals (ns.map V.int) its) {i : Nat} {v : Value} (e : its.toArray[i]? = some v) : ∃ t,v = .int (ns.getD i 0) t := by
 have e' : its[i]? = some v := by simpa using e
 have hi : i < ns.length := by
  have h1 := r.length
  have h2 := (List.getElem?_eq_some_iff.mp e').1
  rw [List.length_map] at h1
  omega
 obtain ⟨u,q,t,z⟩ := r.get (i := i) (x := .int (ns[i])) (by simp [hi])
 rw [e'] at q
 cases q
 exact ⟨t,by rw [z]; simp [hi]⟩
theorem znU {ns : List Int} {i : Nat} (h : i < ns.length) : ns.getD i 0 = ns[i] := by simp [h]
theorem zpN {bs : List Bool} {its : List Value} (r : Vals (bs.map V.bl) its) {i : Nat} {v : Value} (e : its.toArray[i]? = some v) : v = .bool (bs.getD i true) := by
 have e' : its[i]? = some v := by simpa using e
 have hi : i < bs.length := by
  have h1 := r.length
  have h2 := (List.getElem?_eq_some_iff.mp e').1
  rw [List.length_map] at h1
  omega
 obtain ⟨u,q,z⟩ := r.get (i := i) (x := .bl (bs[i])) (by simp [hi])
 rw [e'] at q
 cases q
 rw [show v = Value.bool bs[i] from z]
 simp [hi]
theorem zgz : ∀ (bs : List Bool),((List.range bs.length).all fun i => bs.getD i true) = bs.all id
 | [] => rfl
 | b :: r => by
  rw [List.length_cons,List.range_succ_eq_map,List.all_cons,List.all_map,List.all_cons]
  have e : ((fun i => (b :: r).getD i true) ∘ Nat.succ) = fun i => r.getD i true := by
   funext i
   simp
  rw [e,zgz r]
  simp
section
variable {X : Cx}
theorem zoq (hc : X.calm = true) : CallR X (.builtin "all") (fun xs H Q => ∃ (l : Addr) (bs : List Bool),xs = [.ref l] /\ SqL X.K H l (bs.map V.bl) /\ Q (.bl (bs.all id)) H) := by
 intro pins s σ H xs us Q I r h
 obtain ⟨l,bs,rfl,hq,q⟩ := h
 obtain ⟨u,rfl,rx⟩ := zbY r
 cases rx
 obtain ⟨its,r',pl,hz⟩ := I.list hq
 have hl := pl.isList
 have hlt : l < s.heap.objs.size := by obtain ⟨_,e,_⟩ := hl; exact Heap.lt_size e
 have hlen : bs.length = its.length := by rw [<- r'.length,List.length_map]
 refine call_all_walk (wpAny_pyIter_list hl ?_)
 refine ⟨s.heap.objs.size,_,_,its.toArray.size,_,_,fun i => bs.getD i true,rfl,Walks.list (A := X.A.in1) (I.ok.hd hc) _ l (Nat.ne_of_lt hlt) its.toArray,⟨⟨_,Heap.get?_push_size _ rfl,rfl,rfl⟩,hl.push _⟩,fun i v s' Q' E' hP hQ => ?_,fun h' tk hk => ?_⟩
 ·rw [zpN r' hP]
  exact wpAny_truthy_bool hQ
 ·rw [List.size_toArray,<- hlen,zgz]
  exact ⟨.bl (bs.all id),H,I.kept fun b o e => hk b o (fun z => Nat.ne_of_lt (Heap.lt_size e) (List.mem_singleton.mp z)) (Heap.get?_push_of_some _ e),rfl,q⟩
end
def Itf (f : Nat -> V) (n : Nat) : It := ⟨fun i _ => i < n,fun i H x H' => H' = H /\ x = f i,fun i _ => i = n⟩
theorem zhY {P : Program} {w : World} {K : PySem.W.Frag} {tg : Expr} {it : Addr} {n : Nat} {Pq : Nat -> Value -> Prop} {St : Nat -> Heap -> Prop} {f : Nat -> V} {nm : String}
  (W : ∀ A : Around,A.handled = none -> Walks P w A it [it] [it] n Pq St) (ho : ∀ i h,St i h -> ∃ o vs,h.get? it = some o /\ o.cls = .type nm /\ o.data = .fields vs)
  (hfr : ∀ i h h',St i h -> (∀ b ∈ [it],∀ o,h.get? b = some o -> h'.get? b = some o) -> St i h') (hn : ["enumerate", "zip", "dict_itemiterator", "dict_reverseitemiterator", "odict_iterator", "itertools.zip_longest", "itertools.pairwise"].contains nm = false)
  (hP : ∀ i v,i < n -> Pq i v -> RelV (f i) v) (hself : ∀ (A : Around) (i : Nat) (s : Shared) (Q : Value -> Shared -> Prop) (E : Value -> Shared -> Prop),St i s.heap -> Q (.ref it) s -> wpAny (model P w) A (pyIter (.ref it)) Q E s) : Turn P w K tg (Itf f n) [it] it St where
 mem := by simp
 obj := fun i h st b hb => by
  have e : b = it := by simpa using hb
  subst e
  obtain ⟨o,vs,e,c,d⟩ := ho i h st
  exact ⟨o,e,fun v z => by rw [d] at z; cases z⟩
 keep := fun i h h' st k => hfr i h h' st k
 item := by
  intro X hP' hw hK hc i pins s σ H E I hf st hg
  subst hP' hw hK
  obtain ⟨f0,f1,f2,f3,f4,f5⟩ := hf it (by simp)
  refine (W X.A (I.ok.hd hc)).item i s _ _ hg st fun v h' tk hv st' kk => ?_
  have I1 : Inv X pins σ H { s with heap := h',toks := tk } := I.turned (fun b o hb e => kk b o (by simpa using hb) e) f0 f1 f3 f4 f5
  obtain ⟨o,vs,e,c,d⟩ := ho _ _ st'
  exact ⟨v,rfl,znT (s := { s with heap := h',toks := tk }) e c d hn ⟨f i,H,I1,hP i v hg hv,⟨rfl,rfl⟩,st',fun b hb => (hf b hb).1⟩⟩
 done := by
  intro X hP' hw hK hc i pins s σ H E I hf st hg
  subst hP' hw hK
  obtain ⟨f0,f1,f2,f3,f4,f5⟩ := hf it (by simp)
  have e : i = n := hg
  subst e
  exact (W X.A (I.ok.hd hc)).done s _ _ st fun h' tk kk => ⟨rfl,I.turned (fun b o hb e => kk b o (by simpa using hb) e) f0 f1 f3 f4 f5⟩
 self := hself
def sgn (z : Str) (i : Nat) : V := .str ⟨#[z.cps.getD i 0]⟩
def iTxt (tl : TE) : TI := fun σ H R => tl σ H fun x H1 => ∃ z,x = .str z /\ R (Itf (sgn z) z.cps.size) H1
theorem zdd {h : Heap} {it : Addr} {nm : String} {x : Str} {t : Tok} {i : Nat} (st : h.IsStrIter it nm x t i) : ∃ o vs,h.get? it = some o /\ o.cls = .type nm /\ o.data = .fields vs := by
 obtain ⟨o,e,c,d⟩ := st
 exact ⟨o,_,e,c,d⟩
theorem zex {h h' : Heap} {it : Addr} {nm : String} {x : Str} {t : Tok} {i : Nat} (st : h.IsStrIter it nm x t i) (k : ∀ b ∈ [it],∀ o,h.get? b = some o -> h'.get? b = some o) : h'.IsStrIter it nm x t i := let ⟨o,ho,r⟩ := st; ⟨o,k it (by simp) o ho,r⟩
theorem zjq {z : Str} {i : Nat} {v : Value} (h : SignAt z i v) : RelV (sgn z i) v := by
 obtain ⟨c,u,e,rfl⟩ := h
 refine ⟨u,?_⟩
 have : z.cps.getD i 0 = c := by simp [Array.getD_eq_getD_getElem?,e]
 rw [this]
theorem pi_txt {X : Cx} {tg : Expr} {l : Expr} {tl : TE} (hl : PE X l tl) : PI X tg l (iTxt tl) := by
 intro pins s σ H R I h
 refine thn (hl pins s σ H _ I h) fun v s1 ⟨x,H1,I1,r1,q1⟩ => ?_
 obtain ⟨z,e,q⟩ := q1
 subst e
 obtain ⟨t,rfl⟩ := r1
 have fp : ∀ b ∈ [s1.heap.objs.size],zd8 X pins H1 b := fun b hb => by
  have e : b = s1.heap.objs.size := by simpa using hb
  subst e
  exact I1.fpOk (Nat.le_refl _) (I1.hok.fresh (Nat.le_refl _))
 cases ha : z.cps.all (· < 128)
 ·refine wpAny_pyIter_wide ha ?_
  exact ⟨s1.heap.objs.size,[s1.heap.objs.size],_,_,H1,rfl,I1.kept (t' := s1.toks) fun b o e => Heap.get?_push_of_some _ e,zhY (nm := "str_iterator") (St := fun i h => h.IsStrIter s1.heap.objs.size "str_iterator" z t i) (fun A hA => Walks.strWide hA _ z t) (fun i h st => zdd st) (fun i h h' st k => zex st k) (by decide) (fun i v _ hv => zjq hv) (fun A i s Q E st q => wpAny_pyIter_striter_wide st q),⟨_,Heap.get?_push_size _ rfl,rfl,rfl⟩,fp,q⟩
 ·refine wpAny_pyIter_ascii ha ?_
  exact ⟨s1.heap.objs.size,[s1.heap.objs.size],_,_,H1,rfl,I1.kept (t' := s1.toks) fun b o e => Heap.get?_push_of_some _ e,zhY (nm := "str_ascii_iterator") (St := fun i h => h.IsStrIter s1.heap.objs.size "str_ascii_iterator" z t i) (fun A hA => Walks.strAscii hA _ z t) (fun i h st => zdd st) (fun i h h' st k => zex st k) (by decide) (fun i v _ hv => zjq hv) (fun A i s Q E st q => wpAny_pyIter_striter_ascii st q),⟨_,Heap.get?_push_size _ rfl,rfl,rfl⟩,fp,q⟩
variable {X : Cx}
theorem sl_txt : SlR X (fun x lo hi H Q => ∃ z,x = .str z /\ z.length <= sizeLine /\ Q (.str (Txt.slice z lo hi)) H) := by
 intro pins s σ H x v vl vu lo hi sl Q I rx hs pl pu q
 obtain ⟨z,rfl,hz,q⟩ := q
 obtain ⟨t,rfl⟩ := rx
 obtain ⟨o,e,c,d⟩ := hs
 have hp : ∀ {v : Value} {o : Option Int},IsPart v o -> ∃ p : Option (Int × Tok),v = partValue p /\ p.map (·.1) = o := by
  intro v o h
  cases h with
  | none => exact ⟨none,rfl,rfl⟩
  | int i t => exact ⟨some (i,t),rfl,rfl⟩
 obtain ⟨l,rfl,hl⟩ := hp pl
 obtain ⟨u,rfl,hu⟩ := hp pu
 subst hl hu
 refine ⟨"str", _,F.slot_str_getitem.lookup,typeIs_str _ _ _,wpAny_getItem_str_slice (l := l) (u := u) (st := none) ⟨o,e,c,d⟩ rfl ?_⟩
 exact post_val_or_str ⟨Nat.le_trans (Txt.slice_le z _ _) hz,fun t' k => ⟨.str (Txt.slice z (l.map (·.1)) (u.map (·.1))),H,I.tok _,⟨t',rfl⟩,q⟩⟩
theorem zlf {z : Str} {acc : Array Value} (h : ItemsOf (SignAt z) acc z.cps.size) : Vals ((List.range z.cps.size).map (sgn z)) acc.toList := by
 obtain ⟨h1,h2⟩ := h
 have gen : ∀ (n k : Nat) (ls : List Value),ls.length = n -> (∀ j v,ls[j]? = some v -> SignAt z (k + j) v) -> Vals ((List.range' k n).map (sgn z)) ls := by
  intro n
  induction n with
  | zero => intro k ls hl _; have : ls = [] := List.length_eq_zero_iff.mp hl; subst this; exact .nil
  | succ n ih =>
   intro k ls hl hh
   cases ls with
   | nil => cases hl
   | cons v ls =>
    rw [List.range'_succ,List.map_cons]
    refine .cons (zjq (by simpa using hh 0 v rfl)) (ih (k + 1) ls (by simpa using hl) fun j v e => ?_)
    have := hh (j + 1) v (by simpa using e)
    rwa [show k + (j + 1) = k + 1 + j by omega] at this
 rw [List.range_eq_range']
 refine gen _ 0 _ (by simpa using h1) fun j v e => ?_
 rw [Nat.zero_add]
 exact h2 j v (by simpa using e)
theorem zgp (hc : X.calm = true) : CallR X (.type "tuple") (fun xs H Q => ∃ z,xs = [.str z] /\ z.cps.size <= sizeLine /\ ∀ l,H l = none -> Q (.ref l) (upd H l (.tup ((List.range z.cps.size).map (sgn z))))) := by
 intro pins s σ H xs us Q I r h
 obtain ⟨z,rfl,hz,q⟩ := h
 obtain ⟨u,rfl,t,rfl⟩ := zbY r
 refine call_tuple_str (I.ok.hd hc) z t (fun h' tk acc kp it => ?_) hz
 have hv := zlf it
 have I1 : Inv X pins σ H { s with heap := h',toks := tk } := I.kept kp
 have I2 : Inv X pins σ (upd H h'.objs.size (.tup ((List.range z.cps.size).map (sgn z)))) { s with heap := h'.push { cls := .type "tuple", data := .seq acc },toks := tk } :=
  I1.laid (t' := tk) (fun b o e => Heap.get?_push_of_some _ e) (Nat.le_refl _) (show ObjOk X.prog X.w _ _ _ (.tup _) from ⟨by simpa using hz,acc.toList,hv,by simpa using IsTup.new h' acc,_,Heap.get?_push_size _ rfl,rfl⟩)
 exact ⟨.ref h'.objs.size,_,I2,rfl,q _ (I1.hok.fresh (Nat.le_refl _))⟩
variable {X : Cx}
variable {X : Cx} {K : PySem.W.Frag}
end L2
namespace PySem
open Sem (wp)
open Builtin
namespace F
end F
end PySem
namespace L2
open PySem PySem.Spec PyProof.Rows
end L2
namespace PySem
open Sem (wp)
open Builtin Builtin.Str
namespace F
end F
end PySem
namespace PySem
open Sem (wp)
open Builtin Builtin.Str
end PySem
namespace L2
open PySem PySem.Spec PyProof.Rows
theorem Inv.turn2 {X : Cx} {pins : List (Addr × Obj)} {σ : St} {H : Hp} {s : Shared} {h' : Heap} {t' : Nat} {a b : Addr} (I : Inv X pins σ H s) (fa : zd8 X pins H a) (fb : zd8 X pins H b)
  (k : ∀ c o,c ≠ a -> c ≠ b -> s.heap.get? c = some o -> h'.get? c = some o) : Inv X pins σ H { s with heap := h',toks := t' } := by
 obtain ⟨a0,a1,a2,a3,a4,a5⟩ := fa
 obtain ⟨b0,b1,b2,b3,b4,b5⟩ := fb
 have na : ∀ c u,H c = some u -> c ≠ a := fun c u e z => by rw [z,a0] at e; cases e
 have nb : ∀ c u,H c = some u -> c ≠ b := fun c u e z => by rw [z,b0] at e; cases e
 refine I.step (g' := s.gens) (d' := s.drawn) (ch := [a,b]) (fun c hc => ?_) (fun c o _ _ hc e _ => k c o (fun z => hc (by simp [z])) (fun z => hc (by simp [z])) e) (fun c o _ _ hc e _ => ⟨o.slots,k c o (fun z => hc (by simp [z])) (fun z => hc (by simp [z])) e⟩)
  (fun _ _ _ _ n => n) (fun c o hc e => ⟨o,k c o (fun z => hc (by simp [z])) (fun z => hc (by simp [z])) e⟩) (fun _ _ e => e) (fun _ _ _ e => e) (fun c ps e => ⟨#[],by rw [e]; simp⟩) (fun m hm => ?_) (fun c u e => ?_) I.bare
 ·have e : c = a ∨ c = b := by simpa using hc
  rcases e with rfl | rfl
  ·exact ⟨a3,a1,a4,a5⟩
  ·exact ⟨b3,b1,b4,b5⟩
 ·obtain ⟨o,es,ep,ho,r⟩ := hm
  exact ⟨o,es,ep,k _ o (Ne.symm a1) (Ne.symm b1) ho,r⟩
 ·refine (I.hok c u e).stay (fun d v hd q => ?_) (fun _ q => q) fun _ _ q => q
  rcases hd with z | z
  ·rw [z] at q ⊢
   exact k c v (na c u e) (nb c u e) q
  ·exact k d v (na d _ z) (nb d _ z) q
theorem Inv.turn2l {X : Cx} {pins : List (Addr × Obj)} {σ : St} {H : Hp} {s : Shared} {h' : Heap} {t' : Nat} {a b T : Addr} {o' : HO} (I : Inv X pins σ H s) (fa : zd8 X pins H a) (fb : zd8 X pins H b)
  (k : ∀ c o,c ≠ a -> c ≠ b -> s.heap.get? c = some o -> h'.get? c = some o) (hT : s.heap.objs.size <= T) (new : ObjOk X.prog X.w (upd H T o') h' T o') : Inv X pins σ (upd H T o') { s with heap := h',toks := t' } := by
 have J : Inv X pins σ H { s with heap := h',toks := t' } := I.turn2 fa fb k
 have hn : H T = none := I.hok.fresh hT
 obtain ⟨a0,a1,a2,a3,a4,a5⟩ := fa
 obtain ⟨b0,b1,b2,b3,b4,b5⟩ := fb
 have nT : ∀ c o,s.heap.get? c = some o -> c ≠ T := fun c o q => Nat.ne_of_lt (Nat.lt_of_lt_of_le (Heap.lt_size q) hT)
 refine I.step (g' := s.gens) (d' := s.drawn) (ch := [a,b]) (fun c hc => ?_) (fun c o _ _ hc e _ => k c o (fun z => hc (by simp [z])) (fun z => hc (by simp [z])) e) (fun c o _ _ hc e _ => ⟨o.slots,k c o (fun z => hc (by simp [z])) (fun z => hc (by simp [z])) e⟩)
  (fun c o _ q n => by rw [zan (nT c o q)]; exact n) (fun c o hc e => ⟨o,k c o (fun z => hc (by simp [z])) (fun z => hc (by simp [z])) e⟩) (fun c xs e => by rw [zan (zay e hn)]; exact e) (fun c u xs e => by rw [zan (zay e hn)]; exact e)
  (fun c ps e => ⟨#[],by rw [zan (zay e hn),e]; simp⟩) (fun m hm => ?_) (zdX J.hok hn new) I.bare
 ·have e : c = a ∨ c = b := by simpa using hc
  rcases e with rfl | rfl
  ·exact ⟨a3,a1,a4,a5⟩
  ·exact ⟨b3,b1,b4,b5⟩
 ·obtain ⟨o,es,ep,ho,r⟩ := hm
  exact ⟨o,es,ep,k _ o (Ne.symm a1) (Ne.symm b1) ho,r⟩
end L2
namespace PySem
open Sem (wp)
open Builtin
section
variable {prog : Program} {w : World} {A : Around} {E : Value -> Shared -> Prop} {s : Shared}
theorem zfF {it l : Addr} {i : Nat} {items : Array Value} {x : Value} {Q : Value -> Shared -> Prop} (hit : s.heap.IsTupleIter it l i) (hl : s.heap.IsTuple l items) (hx : items[i]? = some x)
  (hQ : ∀ h',h'.IsTupleIter it l (i + 1) -> Heap.SameBut it s.heap h' -> Q x { s with heap := h' }) : wpAny (model prog w) A (SmallTypes.nextOf (.ref it)) Q E s := by
 obtain ⟨o,ho,hc,hd⟩ := id hit
 obtain ⟨ol,hol,_,nl,hdl⟩ := hl
 have e0 : ¬ ((Value.ref l == Value.none) = true) := Bool.false_ne_true
 unfold SmallTypes.nextOf
 refine wpAny_bind (wpAny_callSpecial?_slot (name := Str.ofString "__next__") hit.typeIs F.slot_tuple_iterator_next (wpAny_call_entry F.slot_tuple_iterator_next hit.typeIs F.entry_tuple_iterator_next ?_ (F.args_tuple_iterator_next_1 _)))
 refine wpAny_bind (m := field (.ref it) 0) (wpAny_field ho hd (x := .ref l) rfl ?_)
 show wpAny _ _ (if (Value.ref l == Value.none) = true then _ else _) _ _ s
 rw [if_neg e0]
 refine wpAny_bind (m := field (.ref it) 1) (wpAny_field ho hd (x := .int i 0) rfl ?_)
 refine wpAny_bind (m := seqItems? (.ref l)) (wpAny_seqItems hol hdl ?_)
 simp only [Int.toNat_natCast,hx]
 refine wpAny_bind (wpAny_setField ho hd (by simp) (wpAny_pure ⟨x,rfl,wpAny_pure (hQ _ ⟨_,Heap.get?_update_self _ ho (Obj.isFreed_of_fields (Obj.data_mapFields hd _)),(Obj.cls_mapFields ..).trans hc,?_⟩ (Heap.SameBut.update ..))⟩))
 rw [Obj.data_mapFields hd]
 simp [rawInt]
theorem zgl {it l : Addr} {i : Nat} {items : Array Value} {Q : Value -> Shared -> Prop} (hh : A.handled = none) (hit : s.heap.IsTupleIter it l i) (hl : s.heap.IsTuple l items) (hx : items[i]? = none)
  (hE : ∀ h' e,Heap.ExtBut it s.heap h' -> (∃ o,h'.get? e = some o /\ o.cls = .type "StopIteration") -> E (.ref e) { s with heap := h' }) : wpAny (model prog w) A (SmallTypes.nextOf (.ref it)) Q E s := by
 obtain ⟨o,ho,hc,hd⟩ := id hit
 obtain ⟨ol,hol,_,nl,hdl⟩ := hl
 have e0 : ¬ ((Value.ref l == Value.none) = true) := Bool.false_ne_true
 unfold SmallTypes.nextOf
 refine wpAny_bind (wpAny_callSpecial?_slot (name := Str.ofString "__next__") hit.typeIs F.slot_tuple_iterator_next (wpAny_call_entry F.slot_tuple_iterator_next hit.typeIs F.entry_tuple_iterator_next ?_ (F.args_tuple_iterator_next_1 _)))
 refine wpAny_bind (m := field (.ref it) 0) (wpAny_field ho hd (x := .ref l) rfl ?_)
 show wpAny _ _ (if (Value.ref l == Value.none) = true then _ else _) _ _ s
 rw [if_neg e0]
 refine wpAny_bind (m := field (.ref it) 1) (wpAny_field ho hd (x := .int i 0) rfl ?_)
 refine wpAny_bind (m := seqItems? (.ref l)) (wpAny_seqItems hol hdl ?_)
 simp only [Int.toNat_natCast,hx]
 refine wpAny_bind (wpAny_rule (wpAny_bind (wpAny_setField ho hd (by simp) ?_)))
 show wpAny _ _ (newExc (.type "StopIteration") [] >>= _) _ _ _
 refine wpAny_bind ?_
 simp only [newExc,newTuple]
 refine wpAny_bind (wpAny_newObj_type ?_ (by size_fits))
 refine wpAny_bind (m := firstArgMember _ _) (wpAny_of_eq (a := Value.none) (by first | rfl | (simp only [firstArgMember]; rfl)) (wpAny_newObj_type ?_ (by size_fits)))
 simp only [raiseNew]
 have hh1 : A.in1.handled = none := hh
 refine wpAny_bind (wpAny_handled ?_)
 rw [hh1]
 exact wpAny_bind (wpAny_pure (wpAny_throw (hE _ _ (((Heap.SameBut.update ..).extBut.push _).push _) ⟨_,Heap.get?_push_size _ rfl,rfl⟩)))
end
theorem Draws.tup {prog : Program} {w : World} {A : Around} (hh : A.handled = none) (it l : Addr) (hne : l ≠ it) (items : Array Value) :
  Draws prog w A it [it,l] items.size (fun i v => items[i]? = some v) (fun i h => h.IsTupleIter it l i /\ h.IsTuple l items) where
 live := fun _ _ st => let ⟨o,ho,_⟩ := st.1; ⟨o,ho⟩
 frame := fun _ _ _ st hk => ⟨let ⟨o,ho,r⟩ := st.1; ⟨o,hk it (by simp) o ho,r⟩,let ⟨o,ho,r⟩ := st.2; ⟨o,hk l (by simp) o ho,r⟩⟩
 item := fun i s Q E hi st hQ => zfF st.1 st.2 (x := items[i]) (by simp [hi]) fun h' hit' hs' => hQ _ h' s.toks (by simp [hi]) ⟨hit',st.2.extBut hs'.extBut hne⟩ hs'
 done := fun s Q E st hE => zgl hh st.1 st.2 (by simp) hE
theorem zdr (l : Addr) (items : Array Value) :
  Meets (Builtin.«enumerate.__new__» ⟨[.type "enumerate", .ref l],[]⟩) (fun _ R s => s.heap.IsTuple l items ∧
   R (.ok (.ret (.ref (s.heap.push { cls := .type "tuple_iterator", data := .fields #[.ref l,.int 0 0] }).objs.size)))
    { s with heap := (s.heap.push { cls := .type "tuple_iterator", data := .fields #[.ref l,.int 0 0] }).push { cls := .type "enumerate", data := .fields #[.none,.bool false,.ref s.heap.objs.size,rawInt 0,.none,.none] } }) :=
 .of_wp fun prog w A R s h => by
  obtain ⟨hp,g,d,tk,os⟩ := s
  obtain ⟨hL,h⟩ := h
  have hsub := sub_enumerate
  wp_walk
  refine wpAny_stack_any fun st => wpAny_pure ?_
  split
  ·rename_i c _ _ _ _ _
   cases (c == Value.type "enumerate") <;> (wp_walk using wpAny_pyIter_tuple hL; exact ⟨_,rfl,h⟩)
  ·wp_walk using wpAny_pyIter_tuple hL
   exact ⟨_,rfl,h⟩
theorem zd5 {prog : Program} {w : World} {A : Around} {E : Value -> Shared -> Prop} {s : Shared} {l : Addr} {items : Array Value} {Q : Value -> Shared -> Prop} (hL : s.heap.IsTuple l items)
  (h : ∀ h',IsEnum h' (s.heap.objs.size + 1) s.heap.objs.size 0 .none -> h'.IsTupleIter s.heap.objs.size l 0 -> (∀ b o,s.heap.get? b = some o -> h'.get? b = some o) -> Q (.ref (s.heap.objs.size + 1)) { s with heap := h' }) :
  wpAny (model prog w) A (call (.type "enumerate") [.ref l]) Q E s := by
 refine callType_new F.called_enumerate (by decide) (F.typeCall_enumerate_1 _) (F.newCall_enumerate_1 _) (fun obj => F.args_object_init_2 obj _) F.entry_enumerate_new (zdr l items) ⟨hL,?_⟩
 have hz : (s.heap.push { cls := .type "tuple_iterator", data := .fields #[.ref l,.int 0 0] }).objs.size = s.heap.objs.size + 1 := Heap.size_push ..
 show _ /\ _
 rw [hz]
 have he : IsEnum ((s.heap.push { cls := .type "tuple_iterator", data := .fields #[.ref l,.int 0 0] }).push { cls := .type "enumerate", data := .fields #[.none,.bool false,.ref s.heap.objs.size,rawInt 0,.none,.none] }) (s.heap.objs.size + 1) s.heap.objs.size 0 .none := by
  rw [<- hz]; exact Heap.get?_push_size _ rfl
 exact ⟨⟨_,he,rfl⟩,h _ he ⟨_,Heap.get?_push_of_some _ (Heap.get?_push_size _ rfl),rfl,rfl⟩ fun b o e => Heap.get?_push_of_some _ (Heap.get?_push_of_some _ e)⟩
end PySem
namespace L2
open PySem PySem.Spec PyProof.Rows
structure SeqKind (c : List V -> HO) (IsS : Heap -> Addr -> Array Value -> Prop) (IsI : Heap -> Addr -> Addr -> Nat -> Prop) : Prop where
 obj : ∀ h it l i,IsI h it l i -> ∃ o,h.get? it = some o /\ ∀ v,o.data ≠ .cell v
 kp : ∀ (h h' : Heap) it l i,IsI h it l i -> (∀ o,h.get? it = some o -> h'.get? it = some o) -> IsI h' it l i
 seq : ∀ (X : Cx) (pins : List (Addr × Obj)) (σ : St) (H : Hp) (s : Shared) (l : Addr) (xs : List V),Inv X pins σ H s -> H l = some (c xs) -> ∃ its : List Value,Vals xs its /\ IsS s.heap l its.toArray
 dr : ∀ (P : Program) (w : World) (A : Around),A.handled = none -> ∀ (it l : Addr),l ≠ it -> ∀ items : Array Value,Draws P w A it [it,l] items.size (fun i v => items[i]? = some v) (fun i h => IsI h it l i /\ IsS h l items)
 inj : ∀ a b,c a = c b -> a = b
theorem seq_lst : SeqKind HO.lst Heap.IsList Heap.IsListIter where
 obj := fun h it l i st => by obtain ⟨o,e,_,d⟩ := st; exact ⟨o,e,fun v z => by rw [d] at z; cases z⟩
 kp := fun h h' it l i st k => let ⟨o,e,r⟩ := st; ⟨o,k o e,r⟩
 seq := fun X pins σ H s l xs I e => by
  obtain ⟨its,r,p,_⟩ := I.list (SqL.of e)
  exact ⟨its,r,p.isList⟩
 dr := fun P w A hh it l hne items => Draws.list hh it l hne items
 inj := fun a b e => by cases e; rfl
theorem seq_tup : SeqKind HO.tup Heap.IsTuple Heap.IsTupleIter where
 obj := fun h it l i st => by obtain ⟨o,e,_,d⟩ := st; exact ⟨o,e,fun v z => by rw [d] at z; cases z⟩
 kp := fun h h' it l i st k => let ⟨o,e,r⟩ := st; ⟨o,k o e,r⟩
 seq := fun X pins σ H s l xs I e => by
  obtain ⟨its,r,p,_⟩ := I.tuple (SqT.of e)
  exact ⟨its,r,p⟩
 dr := fun P w A hh it l hne items => Draws.tup hh it l hne items
 inj := fun a b e => by cases e; rfl
theorem zdp (ns : List Int) : ∀ j,j <= ns.length -> preSum (fun i => ns.getD i 0) j = (ns.take j).sum
 | 0,_ => by simp [preSum]
 | j + 1,h => by
  have h2 := zdp ns j (by omega)
  rw [preSum,h2,List.take_add_one,List.getElem?_eq_getElem (by omega),List.sum_append]
  have hj : j < ns.length := by omega
  simp [hj]
theorem zh1 (B : Int) (hB : 0 <= B) : ∀ ns : List Int,(∀ a,a ∈ ns -> 0 <= a /\ a <= B) -> 0 <= ns.sum /\ ns.sum <= ns.length * B
 | [],_ => by simp
 | a :: r,h => by
  have h1 := zh1 B hB r fun b hb => h b (List.mem_cons_of_mem _ hb)
  have h2 := h a (by simp)
  rw [List.sum_cons,List.length_cons]
  push_cast
  rw [Int.add_mul]
  omega
theorem zi7 {X : Cx} (hc : X.calm = true) : CallR X (.builtin "sum") (fun xs H Q => ∃ (l : Addr) (ns : List Int),xs = [.ref l] /\ SqL X.K H l (ns.map V.int) /\ (∀ a,a ∈ ns -> 0 <= a /\ a <= 2 ^ 50) /\ ns.length <= 1000 /\ Q (.int ns.sum) H) := by
 intro pins s σ H xs us Q I r h
 obtain ⟨l,ns,rfl,hq,hb,hn,q⟩ := h
 obtain ⟨u,rfl,rx⟩ := zbY r
 cases rx
 obtain ⟨its,r',pl,hz⟩ := I.list hq
 have hl := pl.isList
 have hlt : l < s.heap.objs.size := by obtain ⟨_,e,_⟩ := hl; exact Heap.lt_size e
 have hlen : ns.length = its.length := by rw [<- r'.length,List.length_map]
 have hsum : ∀ j,j <= ns.length -> 0 <= preSum (fun i => ns.getD i 0) j /\ preSum (fun i => ns.getD i 0) j <= 1000 * 2 ^ 50 := fun j hj => by
  rw [zdp ns j hj]
  have h1 := zh1 (2 ^ 50) (by decide) (ns.take j) fun a ha => hb a (List.mem_of_mem_take ha)
  have h2 : ((ns.take j).length : Int) <= 1000 := by rw [List.length_take]; omega
  have h3 : ((ns.take j).length : Int) * 2 ^ 50 <= 1000 * 2 ^ 50 := Int.mul_le_mul_of_nonneg_right h2 (by decide)
  omega
 refine call_sum_walk (wpAny_pyIter_list hl ?_)
 refine ⟨s.heap.objs.size,_,_,its.toArray.size,_,_,fun i => ns.getD i 0,rfl,Walks.list (A := X.A.in1) (I.ok.hd hc) _ l (Nat.ne_of_lt hlt) its.toArray,⟨⟨_,Heap.get?_push_size _ rfl,rfl,rfl⟩,hl.push _⟩,fun b hbm => ?_,fun i v e => zl8 r' e,fun j hj => ?_,fun h' tk t' hk => ?_⟩
 ·have e : b = s.heap.objs.size ∨ b = l := by simpa using hbm
  have z : (s.heap.push { cls := .type "list_iterator", data := .fields #[.ref l,.int 0 0] }).objs.size = s.heap.objs.size + 1 := Heap.size_push ..
  show b < (s.heap.push { cls := .type "list_iterator", data := .fields #[.ref l,.int 0 0] }).objs.size
  rw [z]
  rcases e with rfl | rfl
  ·exact Nat.lt_succ_self _
  ·exact Nat.lt_succ_of_lt hlt
 ·rw [List.size_toArray,<- hlen] at hj
  have h1 := hsum (j + 1) hj
  have h2 := hb (ns.getD j 0) (by rw [znU hj]; exact List.getElem_mem hj)
  refine ⟨⟨?_,?_⟩,⟨by omega,by omega⟩⟩
  ·show -(2 ^ 63) <= ns.getD j 0
   omega
  ·show ns.getD j 0 < 2 ^ 63
   omega
 ·rw [List.size_toArray,<- hlen,zdp ns _ (Nat.le_refl _),List.take_length]
  exact ⟨.int ns.sum,H,I.kept fun b o e => hk b o (fun z => Nat.ne_of_lt (Heap.lt_size e) (List.mem_singleton.mp z)) (Heap.get?_push_of_some _ e),⟨t',rfl⟩,q⟩
end L2
namespace PySem
open Sem (wp)
open Builtin
open AutoSeq1 (wpAny_loadPart')
theorem zg3 (l : Addr) (items : Array Value) (n : Nat) (dd : Option Addr) (sl : Array (Option Value)) (x : Value) (e : Value -> Bool) (j : Nat) (hj : j < items.size) (hit : e items[j] = true) (hno : ∀ m (hm : m < items.size),m < j -> e items[m] = false) :
  Meets (Builtin.«tuple.index» ⟨[.ref l,x],[]⟩)
   (fun A R s => s.heap.get? l = some { cls := .type "tuple", dict := dd,data := .seq items n,slots := sl } /\ (∀ y,y ∈ items -> SeqAt.EqAt A.in1 s y x (e y)) /\ R (.ok (.ret (.int j s.toks))) { s with toks := s.toks + 1 }) :=
 .of_wp fun prog w A R s h => by
  obtain ⟨hp,g,d,tk,os⟩ := s
  obtain ⟨hl,he,h⟩ := h
  unfold Builtin.«tuple.index»
  refine wpAny_bind (wpAny_of_eq (a := (Value.ref l,[x])) rfl ?_)
  refine wpAny_bind (wpAny_tupleItemsOf hl rfl ?_)
  dsimp only
  refine wpAny_bind (wpAny_pure ?_)
  refine wpAny_bind (wpAny_pure ?_)
  rw [Nat.min_self,Std.Legacy.Range.forIn_eq_forIn_range']
  have hz : List.range' ([:items.size]).start ([:items.size]).size ([:items.size]).step = List.range' 0 items.size 1 := by
   simp [Std.Legacy.Range.size]
  rw [hz]
  refine wpAny_bind (wpAny_forIn_list _ (fun rest b s' => b = (none,()) /\ s' = ⟨hp,g,d,tk,os⟩ /\ ∃ i,i <= j /\ rest = List.range' i (items.size - i) 1) _ ?_ ?_ _ _ ⟨rfl,rfl,0,Nat.zero_le _,by simp⟩)
  ·rintro i rest b s' ⟨rfl,rfl,k,hk,hr⟩
   have hks : k < items.size := by omega
   rw [show items.size - k = (items.size - (k + 1)) + 1 by omega,List.range'_succ] at hr
   obtain ⟨rfl,rfl⟩ := List.cons.inj hr
   have hi : items[i]? = some items[i] := by simp [hks]
   rw [hi]
   dsimp only
   refine wpAny_bind (he _ (Array.getElem_mem hks) prog w _ _ ?_)
   by_cases hij : i = j
   ·subst hij
    rw [hit,if_pos rfl]
    refine wpAny_bind (wpAny_bind (wpAny_mkInt (wpAny_pure ?_)))
    exact wpAny_pure (wpAny_pure ⟨_,rfl,h⟩)
   ·rw [hno i hks (by omega),if_neg Bool.false_ne_true]
    exact wpAny_pure ⟨rfl,rfl,i + 1,by omega,rfl⟩
  ·rintro b s' ⟨rfl,rfl,k,hk,hr⟩
   have := congrArg List.length hr
   simp at this
   omega
end PySem
namespace L2
open PySem PySem.Spec PyProof.Rows
section
variable {κ : Type} [DecidableEq κ]
def zhV (kvs : List (κ × V)) (k : κ) : Option V := (kvs.find? fun kv => decide (kv.1 = k)).map (·.2)
def zdR (kvs : List (κ × V)) (k : κ) (v : V) : List (κ × V) :=
 if (kvs.any fun kv => decide (kv.1 = k)) = true then kvs.map (fun kv => if kv.1 = k then (kv.1,v) else kv) else kvs ++ [(k,v)]
def zgo (kvs : List (κ × V)) (k : κ) : List (κ × V) := kvs.filter fun kv => decide (kv.1 ≠ k)
theorem ze1 {p : κ × V} {r : List (κ × V)} {k : κ} (e : p.1 = k) : zhV (p :: r) k = some p.2 := by simp [zhV,List.find?_cons,e]
theorem ze2 {p : κ × V} {r : List (κ × V)} {k : κ} (e : ¬ p.1 = k) : zhV (p :: r) k = zhV r k := by simp [zhV,List.find?_cons,e]
theorem zkh (k : κ) : ∀ kvs : List (κ × V),(kvs.any fun kv => decide (kv.1 = k)) = (zhV kvs k).isSome
 | [] => rfl
 | p :: r => by
  rw [List.any_cons]
  by_cases e : p.1 = k
  ·simp only [ze1 e,decide_eq_true e,Bool.true_or,Option.isSome_some]
  ·rw [ze2 e,decide_eq_false e,Bool.false_or]; exact zkh k r
theorem zds (kvs : List (κ × V)) (k : κ) (v : V) : (zdR kvs k v).length <= kvs.length + 1 := by
 unfold zdR
 split
 ·rw [List.length_map]; omega
 ·rw [List.length_append,List.length_cons,List.length_nil]; omega
theorem RelO.isSome_eq {o : Option V} {u : Option Value} (r : RelO o u) : o.isSome = u.isSome := by
 cases o with
 | none => cases u with
  | none => rfl
  | some _ => exact (show False from r).elim
 | some _ => cases u with
  | none => exact (show False from r).elim
  | some _ => rfl
theorem KV.val {kvs : List (κ × V)} {vs : List (κ × Value)} (r : KV kvs vs) (k : κ) : RelO (zhV kvs k) (valueAt vs k) := by
 unfold KV at r
 induction r with
 | nil => exact True.intro
 | @cons p q ps qs h t ih =>
  obtain ⟨h1,h2⟩ := h
  by_cases e : p.1 = k
  ·have e' : q.1 = k := h1.symm.trans e
   have b : valueAt (q :: qs) k = some q.2 := by simp [valueAt,List.find?_cons,e']
   rw [ze1 e,b]; exact h2
  ·have e' : ¬ q.1 = k := fun z => e (h1.trans z)
   have b : valueAt (q :: qs) k = valueAt qs k := by simp [valueAt,List.find?_cons,e']
   rw [ze2 e,b]; exact ih
theorem KV.any {kvs : List (κ × V)} {vs : List (κ × Value)} (r : KV kvs vs) (k : κ) : (kvs.any fun kv => decide (kv.1 = k)) = vs.any fun kv => decide (kv.1 = k) := by
 unfold KV at r
 induction r with
 | nil => rfl
 | cons h t ih => rw [List.any_cons,List.any_cons,ih,h.1]
theorem KV.repl {kvs : List (κ × V)} {vs : List (κ × Value)} (r : KV kvs vs) (k : κ) {y : V} {u : Value} (ry : RelV y u) :
  KV (kvs.map fun kv => if kv.1 = k then (kv.1,y) else kv) (vs.map fun kv => if kv.1 = k then (kv.1,u) else kv) := by
 unfold KV at r ⊢
 induction r with
 | nil => exact .nil
 | @cons p q ps qs h t ih =>
  rw [List.map_cons,List.map_cons]
  refine .cons ?_ ih
  obtain ⟨h1,h2⟩ := h
  by_cases e : p.1 = k
  ·rw [if_pos e,if_pos (h1.symm.trans e)]; exact ⟨h1,ry⟩
  ·rw [if_neg e,if_neg (fun z => e (h1.trans z))]; exact ⟨h1,h2⟩
theorem KV.put {kvs : List (κ × V)} {vs : List (κ × Value)} (r : KV kvs vs) (k : κ) {y : V} {u : Value} (ry : RelV y u) : KV (zdR kvs k y) (stored vs k u) := by
 unfold zdR stored
 rw [r.any k]
 by_cases e : (vs.any fun kv => decide (kv.1 = k)) = true
 ·rw [if_pos e,if_pos e]; exact r.repl k ry
 ·rw [if_neg e,if_neg e]; exact Paired.snoc r ⟨rfl,ry⟩
theorem KV.drop {kvs : List (κ × V)} {vs : List (κ × Value)} (r : KV kvs vs) (k : κ) : KV (zgo kvs k) (without vs k) := by
 unfold KV at r ⊢
 unfold zgo without
 induction r with
 | nil => exact .nil
 | @cons p q ps qs h t ih =>
  obtain ⟨h1,h2⟩ := h
  rw [List.filter_cons,List.filter_cons]
  by_cases e : p.1 = k
  ·have a : ¬ decide (p.1 ≠ k) = true := by simp [e]
   have b : ¬ decide (q.1 ≠ k) = true := by simp [h1.symm.trans e]
   rw [if_neg a,if_neg b]; exact ih
  ·have e' : ¬ q.1 = k := fun z => e (h1.trans z)
   have a : decide (p.1 ≠ k) = true := by simp [e]
   have b : decide (q.1 ≠ k) = true := by simp [e']
   rw [if_pos a,if_pos b]; exact .cons ⟨h1,h2⟩ ih
theorem KV.keys {kvs : List (κ × V)} {vs : List (κ × Value)} (r : KV kvs vs) : kvs.map (·.1) = vs.map (·.1) := by
 unfold KV at r
 induction r with
 | nil => rfl
 | cons h t ih => rw [List.map_cons,List.map_cons,ih,h.1]
theorem KV.length {kvs : List (κ × V)} {vs : List (κ × Value)} (r : KV kvs vs) : kvs.length = vs.length := Paired.length r
theorem zpE (kvs : List (κ × V)) (k : κ) : (zgo kvs k).length <= kvs.length := List.length_filter_le _ _
end
theorem ziE {P : Program} {w : World} {k : Key} {u : Value} (r : RelV (kV k) u) : (zaA P w).is k u = true := by
 cases k with
 | inl i => obtain ⟨t,e⟩ := (show ∃ t,u = Value.int i t from r); subst e; exact zjP P w i t
 | inr x => obtain ⟨t,e⟩ := (show ∃ t,u = Value.str x t from r); subst e; exact zjO P w x t
theorem ziF {P : Program} {w : World} : ∀ {ks : List Key} {us : List Value},Vals (ks.map kV) us -> ItemsAre (zaA P w) ks us
 | [],_,r => by rw [List.map_nil] at r; cases r; exact .nil
 | k :: ks,_,r => by
  rw [List.map_cons] at r
  cases r with
  | cons h t => exact .cons (ziE h) (ziF t)
abbrev KT (H : Hp) : List (List Key × V) -> List (List Key × Addr × Value) -> Prop := Paired fun p q => p.1 = q.1 /\ H q.2.1 = some (.tup (p.1.map kV)) /\ RelV p.2 q.2.2
theorem KT.val {H : Hp} {kvs : List (List Key × V)} {xs : List (List Key × Addr × Value)} (r : KT H kvs xs) (k : List Key) : RelO (zhV kvs k) ((atKey xs k).map (·.2)) := by
 induction r with
 | nil => exact True.intro
 | @cons p q ps qs h t ih =>
  obtain ⟨h1,_,h2⟩ := h
  by_cases e : p.1 = k
  ·have e' : q.1 = k := h1.symm.trans e
   have b : atKey (q :: qs) k = some q.2 := by simp [atKey,List.find?_cons,e']
   rw [ze1 e,b]; exact h2
  ·have e' : ¬ q.1 = k := fun z => e (h1.trans z)
   have b : atKey (q :: qs) k = atKey qs k := by simp [atKey,List.find?_cons,e']
   rw [ze2 e,b]; exact ih
theorem KT.repl {H : Hp} {kvs : List (List Key × V)} {xs : List (List Key × Addr × Value)} (r : KT H kvs xs) (k : List Key) {y : V} {u : Value} (ry : RelV y u) :
  KT H (kvs.map fun kv => if kv.1 = k then (kv.1,y) else kv) (xs.map (putAt k u)) := by
 induction r with
 | nil => exact .nil
 | @cons p q ps qs h t ih =>
  rw [List.map_cons,List.map_cons]
  refine .cons ?_ ih
  obtain ⟨h1,h2,h3⟩ := h
  unfold putAt
  by_cases e : p.1 = k
  ·rw [if_pos e,if_pos (h1.symm.trans e)]; exact ⟨h1,h2,ry⟩
  ·rw [if_neg e,if_neg (fun z => e (h1.trans z))]; exact ⟨h1,h2,h3⟩
theorem KT.put {H : Hp} {kvs : List (List Key × V)} {xs : List (List Key × Addr × Value)} (r : KT H kvs xs) (k : List Key) {b : Addr} {y : V} {u : Value} (hb : H b = some (.tup (k.map kV))) (ry : RelV y u) :
  KT H (zdR kvs k y) (storedH xs k b u) := by
 have e : (kvs.any fun kv => decide (kv.1 = k)) = (atKey xs k).isSome := by
  rw [zkh,(r.val k).isSome_eq,Option.isSome_map]
 unfold zdR storedH
 rw [e]
 by_cases q : (atKey xs k).isSome = true
 ·rw [if_pos q,if_pos q]; exact r.repl k ry
 ·rw [if_neg q,if_neg q]; exact Paired.snoc r ⟨rfl,hb,ry⟩
theorem KT.keeps {H H' : Hp} {kvs : List (List Key × V)} {xs : List (List Key × Addr × Value)} (r : KT H kvs xs) (ht : ∀ b ys,H b = some (.tup ys) -> H' b = some (.tup ys)) : KT H' kvs xs :=
 Paired.mapP r fun _ _ z => ⟨z.1,ht _ _ z.2.1,z.2.2⟩
section
variable {P : Program} {w : World} {H : Hp} {h : Heap} {a : Addr}
theorem rd_of {u : HO} (ok : HOk P w H h) (e : Rd H a u) : ObjOk P w H h a u := e.ok ok
theorem zeZ {kvs : List (Key × V)} (ok : HOk P w H h) (e : Rd H a (.dK kvs)) : kvs.length <= sizeLine /\ (a == sysModules) = false /\ ∃ vs,KV kvs vs /\ h.DictOf (zaA P w) a vs :=
 show ObjOk P w H h a (.dK kvs) from rd_of ok e
theorem zpG {kvs : List (Key × V)} (ok : HOk P w H h) (e : H a = some (.dK kvs)) : kvs.length <= sizeLine /\ (a == sysModules) = false /\ ∃ vs,KV kvs vs /\ h.DictOf (zaA P w) a vs := zeZ ok (.inl e)
theorem ziD {ks : List Key} (ok : HOk P w H h) (e : H a = some (.tup (ks.map kV))) : (tupleKind (zaA P w)).is h ks a := by
 obtain ⟨_,its,r,⟨o,h1,h2,n,h3⟩,_⟩ := (show ObjOk P w H h a (.tup (ks.map kV)) from ok a _ e)
 exact ⟨o,its.toArray,n,h1,h2,h3,by simpa using ziF r⟩
theorem zlT {kvs : List (List Key × V)} (ok : HOk P w H h) (e : Rd H a (.dT kvs)) : kvs.length <= sizeLine /\ (a == sysModules) = false ∧
  ∃ xs,KT H kvs xs /\ h.DictOfH (tupleKind (zaA P w)) a xs := by
 obtain ⟨z,y,xs,r,o,es,ep,h1,h2,h3,h4,h5⟩ := (show ObjOk P w H h a (.dT kvs) from rd_of ok e)
 refine ⟨z,y,xs,r,o,es,ep,h1,h2,h3,h4,fun x hx => ?_,h5⟩
 have all : ∀ {l : List (List Key × V)} {m : List (List Key × Addr × Value)},KT H l m -> ∀ x ∈ m,(tupleKind (zaA P w)).is h x.1 x.2.1 := by
  intro l m q
  induction q with
  | nil => intro x hx; exact nomatch hx
  | @cons p q ps qs hq t ih =>
   intro x hx
   rcases List.mem_cons.mp hx with e | hx
   ·subst e
    exact ziD ok (by rw [<- hq.1]; exact hq.2.1)
   ·exact ih x hx
 exact all r x hx
theorem dt_of {kvs : List (List Key × V)} (ok : HOk P w H h) (e : H a = some (.dT kvs)) : kvs.length <= sizeLine /\ (a == sysModules) = false ∧
  ∃ xs,KT H kvs xs /\ h.DictOfH (tupleKind (zaA P w)) a xs := zlT ok (.inl e)
end
def DGet (H : Hp) (a : Addr) (y : V) (r : Option V) : Prop :=
 (∃ kvs k,Rd H a (.dK kvs) /\ y = kV k /\ r = zhV kvs k) ∨ ∃ kvs k b,Rd H a (.dT kvs) /\ y = .ref b /\ H b = some (.tup (k.map kV)) /\ r = zhV kvs k
def DPut (H : Hp) (a : Addr) (y v : V) (H' : Hp) : Prop :=
 (∃ kvs k,H a = some (.dK kvs) /\ y = kV k /\ kvs.length < sizeLine /\ H' = upd H a (.dK (zdR kvs k v))) ∨
 ∃ kvs k b,H a = some (.dT kvs) /\ y = .ref b /\ H b = some (.tup (k.map kV)) /\ kvs.length < sizeLine /\ H' = upd H a (.dT (zdR kvs k v))
theorem DGet.k {H : Hp} {a : Addr} {kvs : List (Key × V)} {k : Key} (e : H a = some (.dK kvs)) : DGet H a (kV k) (zhV kvs k) := .inl ⟨kvs,k,.inl e,rfl,rfl⟩
theorem DPut.k {H : Hp} {a : Addr} {kvs : List (Key × V)} {k : Key} {v : V} (e : H a = some (.dK kvs)) (hl : kvs.length < sizeLine) : DPut H a (kV k) v (upd H a (.dK (zdR kvs k v))) := .inl ⟨kvs,k,e,rfl,hl,rfl⟩
section
variable {X : Cx} {pins : List (Addr × Obj)} {σ : St} {H : Hp} {s : Shared} {a : Addr} {y v : V} {u r : Value} {o : Option V} {A : Around} {E : Value -> Shared -> Prop}
theorem Inv.big (I : Inv X pins σ H s) : sysModules < s.heap.objs.size := by
 have h : mainGlobals < s.heap.objs.size := (I.mod.glob.keeps I.bk).lt
 exact Nat.lt_trans (by decide) h
theorem zog {Q : Value -> Shared -> Prop} (hu : A.units + 1 < cLine) (I : Inv X pins σ H s) (g : DGet H a y (some v)) (ry : RelV y u) (h : ∀ w' s',Inv X pins σ H s' -> RelV v w' -> Q w' s') :
  wpAny (model X.prog X.w) A (getItem (.ref a) u) Q E s := by
 rcases g with ⟨kvs,k,e,ey,l⟩ | ⟨kvs,k,b,e,ey,eb,l⟩
 ·subst ey
  obtain ⟨z,hd,vs,rel,dd⟩ := zeZ I.hok e
  obtain ⟨w',hw,rw'⟩ := RelO.some_of (v := v) (o := valueAt vs k) (by rw [l]; exact rel.val k)
  exact wpAny_getItem_of (ziE ry) dd.mapOf hw (h w' _ (I.tok _) rw')
 ·subst ey
  cases (show u = Value.ref b from ry)
  obtain ⟨z,hd,xs,rel,dd⟩ := zlT I.hok e
  obtain ⟨w',hw,rw'⟩ := RelO.some_of (v := v) (o := (atKey xs k).map (·.2)) (by rw [l]; exact rel.val k)
  obtain ⟨p,hp,hp2⟩ := Option.map_eq_some_iff.mp hw
  refine wpAny_getItem_heap (tupleKind_room_in1 hu) (ziD I.hok eb) dd hp ?_
  rw [hp2]
  exact h w' _ (I.tok _) rw'
theorem d_in {Q : Value -> Shared -> Prop} (hu : A.units + 1 < cLine) (I : Inv X pins σ H s) (g : DGet H a y o) (ry : RelV y u) (h : ∀ s',Inv X pins σ H s' -> Q (.bool o.isSome) s') :
  wpAny (model X.prog X.w) A (compareOp .In u (.ref a)) Q E s := by
 rcases g with ⟨kvs,k,e,ey,l⟩ | ⟨kvs,k,b,e,ey,eb,l⟩
 ·subst ey
  obtain ⟨z,hd,vs,rel,dd⟩ := zeZ I.hok e
  refine wpAny_in_of (ziE ry) hd dd.mapOf ?_
  rw [<- (rel.val k).isSome_eq,<- l]
  exact h _ (I.tok _)
 ·subst ey
  cases (show u = Value.ref b from ry)
  obtain ⟨z,hd,xs,rel,dd⟩ := zlT I.hok e
  refine wpAny_in_heap (tupleKind_room_in1 hu) (ziD I.hok eb) hd dd ?_
  have q := (rel.val k).isSome_eq
  rw [Option.isSome_map] at q
  rw [<- q,<- l]
  exact h _ (I.tok _)
theorem zsd {Q : Value -> Shared -> Prop} (hu : A.units + 1 < cLine) (I : Inv X pins σ H s) (g : DGet H a y o) (ry : RelV y u) (h : ∀ s',Inv X pins σ H s' -> Q (.bool (!o.isSome)) s') :
  wpAny (model X.prog X.w) A (compareOp .NotIn u (.ref a)) Q E s := by
 rcases g with ⟨kvs,k,e,ey,l⟩ | ⟨kvs,k,b,e,ey,eb,l⟩
 ·subst ey
  obtain ⟨z,hd,vs,rel,dd⟩ := zeZ I.hok e
  refine wpAny_notIn_of (ziE ry) hd dd.mapOf ?_
  rw [<- (rel.val k).isSome_eq,<- l]
  exact h _ (I.tok _)
 ·subst ey
  cases (show u = Value.ref b from ry)
  obtain ⟨z,hd,xs,rel,dd⟩ := zlT I.hok e
  refine wpAny_notIn_heap (tupleKind_room_in1 hu) (ziD I.hok eb) hd dd ?_
  have q := (rel.val k).isSome_eq
  rw [Option.isSome_map] at q
  rw [<- q,<- l]
  exact h _ (I.tok _)
theorem zf3 {h' : Heap} {t' : Nat} {ob : HO} (I : Inv X pins σ H s) (mu : Mut (H a)) (hs : Heap.SameBut a s.heap h') (he : ∃ q,h'.get? a = some q) (new : ObjOk X.prog X.w (upd H a ob) h' a ob) :
  Inv X pins σ (upd H a ob) { s with heap := h',toks := t' } :=
 I.write (x := a) (e := a) mu (.inl rfl) (fun b q hb z => (hs.2 b hb).trans z) he new
theorem zi5 {P : Program} {w : World} {H' : Hp} {h' : Heap} {kvs : List (Key × V)} {vs : List (Key × Value)} (z : kvs.length <= sizeLine) (hd : (a == sysModules) = false) (rel : KV kvs vs) (dd : h'.DictOf (zaA P w) a vs) :
  ObjOk P w H' h' a (.dK kvs) := ⟨z,hd,vs,rel,dd⟩
theorem zof {H' : Hp} {Q : Unit -> Shared -> Prop} (hu : A.units + 1 < cLine) (I : Inv X pins σ H s) (g : DPut H a y v H') (ry : RelV y u) (rv : RelV v r) (h : ∀ s',Inv X pins σ H' s' -> Q () s') :
  wpAny (model X.prog X.w) A (setItem (.ref a) u r) Q E s := by
 rcases g with ⟨kvs,k,e,ey,l,eH⟩ | ⟨kvs,k,b,e,ey,eb,l,eH⟩
 ·subst ey eH
  obtain ⟨z,hd,vs,rel,dd⟩ := zpG I.hok e
  have hz : vs.length <= sizeLine := by rw [<- rel.length]; exact z
  have hl : (zdR kvs k v).length <= sizeLine := by have := zds kvs k v; omega
  refine wpAny_setItem_pairs (hsz := hz) (ziE ry) dd fun h' dd' hs => h _ ?_
  have he : ∃ q,h'.get? a = some q := let ⟨q,_,_,hq,_⟩ := dd'; ⟨q,hq⟩
  exact zf3 I (by rw [e]; exact True.intro) hs he (zi5 hl hd (rel.put k rv) dd')
 ·subst ey eH
  cases (show u = Value.ref b from ry)
  obtain ⟨z,hd,xs,rel,dd⟩ := dt_of I.hok e
  have hz : xs.length <= sizeLine := by rw [<- Paired.length rel]; exact z
  have hl : (zdR kvs k v).length <= sizeLine := by have := zds kvs k v; omega
  refine wpAny_setItem_heap (hsz := hz) (tupleKind_room_in1 hu) (ziD I.hok eb) dd fun h' dd' hs => h _ ?_
  obtain ⟨q,es,ep,hq,h2,h3,h4,_,h5⟩ := dd'
  refine zf3 I (by rw [e]; exact True.intro) hs ⟨q,hq⟩ ⟨hl,hd,_,(rel.put k eb rv).keeps fun c ys ec => ?_,q,es,ep,hq,h2,h3,h4,h5⟩
  rw [zan (ne_of ec e (fun z => nomatch z))]
  exact ec
end
section
variable {X : Cx} {pins : List (Addr × Obj)} {σ : St} {H : Hp} {s : Shared} {a : Addr} {kvs : List (Key × V)} {k : Key} {u : Value} {A : Around} {E : Value -> Shared -> Prop}
theorem d_pop {v : V} {more : List Value} {Q : Value -> Shared -> Prop} (I : Inv X pins σ H s) (e : H a = some (.dK kvs)) (ry : RelV (kV k) u) (l : zhV kvs k = some v) (hm : more = [] ∨ ∃ x,more = [x])
  (h : ∀ w' s',Inv X pins σ (upd H a (.dK (zgo kvs k))) s' -> RelV v w' -> Q w' s') : wpAny (model X.prog X.w) A (call (.builtin "dict.pop") (.ref a :: u :: more)) Q E s := by
 obtain ⟨z,hd,vs,rel,dd⟩ := zpG I.hok e
 obtain ⟨w',hw,rw'⟩ := RelO.some_of (v := v) (o := valueAt vs k) (by rw [<- l]; exact rel.val k)
 have hp : (keyPart u).isSome = true := by
  cases k with
  | inl i => obtain ⟨t,q⟩ := (show ∃ t,u = Value.int i t from ry); subst q; rfl
  | inr x => obtain ⟨t,q⟩ := (show ∃ t,u = Value.str x t from ry); subst q; rfl
 have ha : argsOk "dict.pop" ⟨.ref a :: u :: more,[]⟩ := by
  rcases hm with q | ⟨x,q⟩
  ·subst q; exact PySem.F.args_dict_pop_2 _ _
  ·subst q; exact PySem.F.args_dict_pop_3 _ _ _
 refine call_meetsIn PySem.F.slot_dict_pop dd.typeIs PySem.F.entry_dict_pop ha (meets_dict_pop_there (zaA X.prog X.w) a (ziE ry) more hm hp)
  ⟨vs,w',dd,by rw [<- rel.length]; exact z,hw,fun h' dd' hs => h w' _ ?_ rw'⟩
 have he : ∃ q,h'.get? a = some q := let ⟨q,_,_,hq,_⟩ := dd'; ⟨q,hq⟩
 exact zf3 I (by rw [e]; exact True.intro) hs he (zi5 (Nat.le_trans (zpE kvs k) z) hd (rel.drop k) dd')
theorem zse {Q : Value -> Shared -> Prop} (I : Inv X pins σ H s) (e : H a = some (.dK kvs)) (h : ∀ s',Inv X pins σ (upd H a (.dK [])) s' -> Q .none s') : wpAny (model X.prog X.w) A (call (.builtin "dict.clear") [.ref a]) Q E s := by
 obtain ⟨z,hd,vs,rel,dd⟩ := zpG I.hok e
 refine call_meetsIn PySem.F.slot_dict_clear dd.typeIs PySem.F.entry_dict_clear (PySem.F.args_dict_clear_1 _) (meets_dict_clear (zaA X.prog X.w) a) ⟨vs,dd,by rw [<- rel.length]; exact z,fun h' dd' hs => h _ ?_⟩
 have he : ∃ q,h'.get? a = some q := let ⟨q,_,_,hq,_⟩ := dd'; ⟨q,hq⟩
 exact zf3 (t' := s.toks) I (by rw [e]; exact True.intro) hs he (zi5 (Nat.zero_le _) hd .nil dd')
theorem d_len {Q : Value -> Shared -> Prop} (I : Inv X pins σ H s) (e : Rd H a (.dK kvs)) (h : ∀ t s',Inv X pins σ H s' -> Q (.int kvs.length t) s') : wpAny (model X.prog X.w) A (call (.builtin "len") [.ref a]) Q E s := by
 obtain ⟨z,hd,vs,rel,dd⟩ := zeZ I.hok e
 refine call_len_dict hd dd (by rw [<- rel.length]; rw [sizeLine_eq] at z; omega) ?_
 rw [<- rel.length]
 exact h _ _ (I.tok _)
end
theorem zj1 {X : Cx} {pins : List (Addr × Obj)} {σ : St} {H : Hp} {s : Shared} {a : Addr} {y : V} {o : Option V} (I : Inv X pins σ H s) (g : DGet H a y o) : s.TypeIs (.ref a) "dict" := by
 rcases g with ⟨kvs,k,e,_,_⟩ | ⟨kvs,k,b,e,_,_,_⟩
 ·obtain ⟨_,_,vs,_,dd⟩ := zeZ I.hok e
  exact dd.typeIs
 ·obtain ⟨_,_,xs,_,dd⟩ := zlT I.hok e
  exact dd.typeIs
def sDPut (td ty tv : TE) : TS := fun D σ H => tv σ H fun v H1 => td σ H1 fun x H2 => ty σ H2 fun y H3 => ∃ a H4,x = .ref a /\ DPut H3 a y v H4 /\ D.nx σ H4
section
variable {X : Cx} {o i e value : Expr} {pos pos' tpos : Pos} {td ty tv : TE}
theorem zq9 (hu : X.A.units + 1 < cLine) (ho : PE X o td) (hi : PE X i ty) (hv : PE X value tv) (hs : swapsWith value (some (.Subscript o i pos')) pos.line X.env = pure false) :
  PS X (.Assign [.Subscript o i pos'] value pos) (sDPut td ty tv) := by
 intro pins s σ H D I h
 refine wpAny_Assign_Subscript (thn (hv pins s σ H _ I h) fun r s1 ⟨v,H1,I1,rv,q1⟩ => thn (ho pins s1 σ H1 _ I1 q1) fun u s2 ⟨x,H2,I2,rx,q2⟩ => thn (hi pins s2 σ H2 _ I2 q2) fun iv s3 ⟨y,H3,I3,ry,a,H4,ex,g,q3⟩ => ?_) hs
 subst ex
 obtain rfl : u = Value.ref a := rx
 exact zof hu I3 g ry rv fun s4 I4 => ⟨σ,H4,I4,q3⟩
end
theorem zk1 {P : Program} {w : World} {H : Hp} (h : Heap) (hb : sysModules < h.objs.size) : ObjOk P w H (h.push { cls := .type "dict", data := .dict #[] }) h.objs.size (.dK []) :=
 ⟨Nat.zero_le _,beq_eq_false_iff_ne.mpr (Ne.symm (Nat.ne_of_lt hb)),[],.nil,Heap.DictOf.new h⟩
def tDNewK : TE := fun _ H Q => ∀ p,H p = none -> Q (.ref p) (upd H p (.dK []))
section
variable {X : Cx} {pos : Pos}
theorem zpc : PE X (.Dict [] [] pos) tDNewK := fun pins s σ H Q I h =>
 wpAny_Dict_empty ⟨.ref s.heap.objs.size,_,I.laid (a := s.heap.objs.size) (o := .dK []) (t' := s.toks) (fun _ _ q => Heap.get?_push_of_some _ q) (Nat.le_refl _) (zk1 s.heap I.big),rfl,h _ (I.hok.fresh (Nat.le_refl _))⟩
end
def zkm : List (TE × TE) -> St -> Hp -> (List (V × V) -> Hp -> Prop) -> Prop
 | [],_,H,Q => Q [] H
 | (tk,tv) :: r,σ,H,Q => tk σ H fun x H1 => tv σ H1 fun y H2 => zkm r σ H2 fun ps H3 => Q ((x,y) :: ps) H3
abbrev VV : List (V × V) -> List (Value × Value) -> Prop := Paired fun p q => RelV p.1 q.1 /\ RelV p.2 q.2
def PPs (X : Cx) (pos : Pos) (keys : List (Option Expr)) (values : List Expr) (trs : List (TE × TE)) : Prop :=
 ∀ (pins : List (Addr × Obj)) (s : Shared) (σ : St) (H : Hp) (Q : List (V × V) -> Hp -> Prop),Inv X pins σ H s -> zkm trs σ H Q →
  wpAny (model X.prog X.w) X.A (evalPairs (pairTrees keys values X.env pos)) (fun vs s' => ∃ ps H',Inv X pins σ H' s' /\ VV ps vs /\ Q ps H') X.xe s
theorem zra {X : Cx} {pos : Pos} : PPs X pos [] [] [] := fun pins s σ H Q I h => pairTrees_nil_walk ⟨[],H,I,.nil,h⟩
theorem zo5 {X : Cx} {pos : Pos} {k v : Expr} {ks : List (Option Expr)} {vs : List Expr} {tk tv : TE} {trs : List (TE × TE)} (hk : PE X k tk) (hv : PE X v tv) (hr : PPs X pos ks vs trs) :
  PPs X pos (some k :: ks) (v :: vs) ((tk,tv) :: trs) := fun pins s σ H Q I h =>
 pairTrees_cons_walk (thn (hk pins s σ H _ I h) fun u s1 ⟨x,H1,I1,rx,q1⟩ => thn (hv pins s1 σ H1 _ I1 q1) fun w2 s2 ⟨y,H2,I2,ry,q2⟩ =>
  thn (hr pins s2 σ H2 _ I2 q2) fun ws s3 ⟨ps,H3,I3,rel,q3⟩ => ⟨(x,y) :: ps,H3,I3,.cons ⟨rx,ry⟩ rel,q3⟩)
def zcE (kvs more : List (Key × V)) : List (Key × V) := more.foldl (fun acc kv => zdR acc kv.1 kv.2) kvs
theorem KV.merge : ∀ {more : List (Key × V)} {rs : List (Key × Value)} {kvs : List (Key × V)} {vs : List (Key × Value)},KV more rs -> KV kvs vs -> KV (zcE kvs more) (merged vs rs) := by
 intro more rs kvs vs r
 unfold KV at r
 induction r generalizing kvs vs with
 | nil => intro q; exact q
 | @cons p q ps qs h t ih =>
  intro r0
  have e : KV (zdR kvs p.1 p.2) (stored vs q.1 q.2) := by
   have := r0.put p.1 h.2
   rw [<- h.1]; exact this
  exact ih e
theorem zdV : ∀ (more kvs : List (Key × V)),(zcE kvs more).length <= kvs.length + more.length
 | [],kvs => by show kvs.length <= kvs.length + 0; omega
 | p :: r,kvs => by
  have h1 := zdV r (zdR kvs p.1 p.2)
  have h2 := zds kvs p.1 p.2
  show (zcE (zdR kvs p.1 p.2) r).length <= _
  rw [List.length_cons]; omega
theorem zgV {P : Program} {w : World} : ∀ {kvs : List (Key × V)} {ws : List (Value × Value)},VV (kvs.map fun kv => (kV kv.1,kv.2)) ws -> ∃ rs,Carries (zaA P w) ws rs /\ KV kvs rs
 | [],_,r => by rw [List.map_nil] at r; cases r; exact ⟨[],True.intro,.nil⟩
 | p :: kvs,_,r => by
  rw [List.map_cons] at r
  cases r with
  | @cons a b as bs h t =>
   obtain ⟨rs,c,q⟩ := zgV (P := P) (w := w) t
   obtain ⟨b1,b2⟩ := b
   exact ⟨(p.1,b2) :: rs,⟨ziE h.1,rfl,c⟩,.cons ⟨rfl,h.2⟩ q⟩
def tDisp (trs : List (TE × TE)) : TE := fun σ H Q => ∀ p,H p = none -> zkm trs σ (upd H p (.dK [])) fun ps H2 => H2 p = some (.dK []) /\ ∃ kvs : List (Key × V),ps = kvs.map (fun kv => (kV kv.1,kv.2)) /\ kvs.length <= 15 /\ Q (.ref p) (upd H2 p (.dK (zcE [] kvs)))
theorem zrq {X : Cx} {pos : Pos} {keys : List (Option Expr)} {values : List Expr} {trs : List (TE × TE)} (h : PPs X pos keys values trs) (hall : keys.all (·.isSome) = true) (hl : keys.length = values.length) (h0 : keys ≠ [])
  (h15 : keys.length <= 15) : PE X (.Dict keys values pos) (tDisp trs) := by
 intro pins s σ H Q I q
 have hn := I.hok.fresh (Nat.le_refl s.heap.objs.size)
 have I1 := I.laid (a := s.heap.objs.size) (o := .dK []) (h' := s.heap.push { cls := .type "dict", data := .dict #[] }) (t' := s.toks) (fun _ _ q => Heap.get?_push_of_some _ q) (Nat.le_refl _) (zk1 s.heap I.big)
 refine wpAny_Dict_walk (knd := zaA X.prog X.w) hall hl h0 h15 (thn (h pins _ σ _ _ I1 (q _ hn)) fun ws s2 ⟨ps,H2,I2,rel,e,kvs,ep,lk,q2⟩ => ?_)
 subst ep
 obtain ⟨rs,c,rk⟩ := zgV (P := X.prog) (w := X.w) rel
 obtain ⟨z,hd,vs0,r0,dd⟩ := zpG I2.hok e
 cases r0
 refine ⟨rs,c,dd,fun h' dd' hs => ⟨.ref s.heap.objs.size,_,?_,rfl,q2⟩⟩
 have hz : (zcE [] kvs).length <= sizeLine := by
  have h1 := zdV kvs []
  rw [List.length_nil] at h1
  rw [sizeLine_eq]; omega
 have he : ∃ q,h'.get? s.heap.objs.size = some q := let ⟨q,_,_,hq,_⟩ := dd'; ⟨q,hq⟩
 exact zf3 I2 (by rw [e]; exact True.intro) hs he (zi5 hz hd (rk.merge .nil) dd')
structure M1 (X : Cx) (o : Expr) (m : Str) (apos : Pos) (e : Expr) (cpos : Pos) : Prop where
 base : attributeBase o m X.env (eval o X.env) = eval o X.env
 few : ((backTo cpos (starEach [e] X.env)).all (fun x => !x.1) && (backToKw cpos (keywordEach [] X.env)).all (fun x => x.1.isSome)
  && decide (([e] : List Expr).length + ([] : List Keyword).length + (if ([] : List Keyword).isEmpty then 0 else 1) < 30)) = true
 line : (apos.endLine == cpos.line) = true
 trees : backTo cpos (starEach [e] X.env) = [(false,eval e X.env)]
def IsD (H : Hp) (a : Addr) : Prop := (∃ kvs,Rd H a (.dK kvs)) ∨ ∃ kvs,Rd H a (.dT kvs)
theorem isD_at {X : Cx} {pins : List (Addr × Obj)} {σ : St} {H : Hp} {s : Shared} {a : Addr} (I : Inv X pins σ H s) (d : IsD H a) :
  s.TypeIs (.ref a) "dict" /\ (∀ b,Value.ref a = .ref b -> ∃ ob,s.heap.get? b = some ob /\ ob.dict = none) /\ (a == sysModules) = false := by
 rcases d with ⟨kvs,e⟩ | ⟨kvs,e⟩
 ·obtain ⟨_,hd,vs,_,dd⟩ := zeZ I.hok e
  refine ⟨dd.typeIs,fun b q => ?_,hd⟩
  cases q
  obtain ⟨ob,_,_,h1,h2,_⟩ := dd
  exact ⟨ob,h1,h2.2.1⟩
 ·obtain ⟨_,hd,xs,_,dd⟩ := zlT I.hok e
  refine ⟨dd.typeIs,fun b q => ?_,hd⟩
  cases q
  obtain ⟨ob,_,_,h1,h2,_⟩ := dd
  exact ⟨ob,h1,h2.2.1⟩
def tDPop1 (td ty : TE) : TE := fun σ H Q => td σ H fun x H1 => ∃ a,x = .ref a /\ IsD H1 a /\ ty σ H1 fun y H2 => ∃ kvs k v,H2 a = some (.dK kvs) /\ y = kV k /\ zhV kvs k = some v /\ Q v (upd H2 a (.dK (zgo kvs k)))
section
variable {X : Cx} {o e f : Expr} {apos cpos : Pos} {td ty tx : TE}
theorem zpb (ho : PE X o td) (he : PE X e ty) (m : M1 X o "pop" apos e cpos) : PE X (.Call (.Attribute o "pop" apos) [e] [] cpos) (tDPop1 td ty) := by
 intro pins s σ H Q I h
 refine wpAny_Call_method m.base m.few m.line PySem.F.plainAttrs_dict PySem.F.slot_dict_pop PySem.F.type_dict_pop (thn (ho pins s σ H _ I h) fun u s1 ⟨x,H1,I1,rx,a,ex,d,q1⟩ => ?_)
 subst ex
 obtain rfl : u = Value.ref a := rx
 obtain ⟨t1,t2,_⟩ := isD_at I1 d
 refine ⟨t1,t2,?_⟩
 rw [m.trees]
 refine Calls.callWith_builtin rfl (Calls.evalArgs_plain (Calls.spliced_cons (thn (he pins s1 σ H1 _ I1 q1) fun iv s2 ⟨y,H2,I2,ry,kvs,k,v,ea,ey,l,q2⟩ => Calls.spliced_nil ?_)))
 subst ey
 exact d_pop I2 ea ry l (.inl rfl) fun w' s3 I3 rw' => ⟨v,_,I3,rw',q2⟩
end
section
variable {X : Cx} {pins : List (Addr × Obj)} {σ : St} {H : Hp} {s : Shared} {a : Addr} {kvs : List (Key × V)} {A : Around} {E : Value -> Shared -> Prop}
theorem zpJ {Q : Value -> Shared -> Prop} (I : Inv X pins σ H s) (e : Rd H a (.dK kvs)) (h : ∀ p s',H p = none -> Inv X pins σ (upd H p (.dK kvs)) s' -> Q (.ref p) s') : wpAny (model X.prog X.w) A (call (.type "dict") [.ref a]) Q E s := by
 obtain ⟨z,hd,vs,rel,dd⟩ := zeZ I.hok e
 refine kt_call_dict hd dd (by rw [<- rel.length]; exact z) fun h' dd' hs => ?_
 refine h _ _ (I.hok.fresh (Nat.le_refl _)) (I.laid (a := s.heap.objs.size) (o := .dK kvs) (t' := s.toks) (fun b q hq => ?_) (Nat.le_refl _) (zi5 z (beq_eq_false_iff_ne.mpr (Ne.symm (Nat.ne_of_lt I.big))) rel dd'))
 exact (hs.2 b (Nat.ne_of_lt (Heap.lt_size hq))).trans (Heap.get?_push_of_some _ hq)
end
section
variable {X : Cx}
theorem op_isT : OpR X (compareOp .Is) (fun x y H Q => ∃ b c,x = .bl b /\ y = .bl c /\ Q (.bl (b == c)) H) := by
 intro pins s σ H x y v u Q I rx ry h
 obtain ⟨b,c,rfl,rfl,q⟩ := h
 cases rx
 cases ry
 exact is_bool ⟨.bl (b == c),H,I,rfl,q⟩
theorem zpi : OpR X (compareOp .IsNot) (fun x y H Q => ∃ b c,x = .bl b /\ y = .bl c /\ Q (.bl (b != c)) H) := by
 intro pins s σ H x y v u Q I rx ry h
 obtain ⟨b,c,rfl,rfl,q⟩ := h
 cases rx
 cases ry
 exact isnot_bool ⟨.bl (b != c),H,I,rfl,q⟩
end
end L2
namespace PySem
open Sem (wp)
open Builtin
section
variable {prog : Program} {w : World} {A : Around} {E : Value -> Shared -> Prop} {s : Shared}
theorem zfq {h h' : Heap} {c T : Addr} {a b : Value} (hs : Heap.SameBut c h h') (n : T ≠ c) (e : IsPair h T a b) : IsPair h' T a b := (hs.2 T n).trans e
theorem zf9 {z TI TO i1 i2 : Addr} {fp1 fp2 : List Addr} {n1 n2 k : Nat} {P1 P2 : Nat -> Value -> Prop} {S1 S2 : Nat -> Heap -> Prop} {a b : Value} {Q : Value -> Shared -> Prop}
  (D1 : Draws prog w A i1 fp1 n1 P1 S1) (D2 : Draws prog w A i2 fp2 n2 P2 S2) (hz : IsZip s.heap z TI TO .none) (hTI : IsPair s.heap TI (.ref i1) (.ref i2)) (hTO : IsPair s.heap TO a b)
  (h1 : S1 k s.heap) (h2 : S2 k s.heap) (k1 : k < n1) (k2 : k < n2) (nTO : TO ≠ z) (nTI : TI ≠ z) (n1z : i1 ≠ z) (n2z : i2 ≠ z) (n1T : i1 ≠ TO) (n2T : i2 ≠ TO)
  (f1z : z ∉ fp1) (f1T : TO ∉ fp1) (f12 : i2 ∉ fp1) (f2z : z ∉ fp2) (f2T : TO ∉ fp2) (f21 : i1 ∉ fp2)
  (hQ : ∀ x y h' tk,P1 k x -> P2 k y -> IsZip h' z TI TO (rawInt s.heap.objs.size) -> IsPair h' TO x y -> S1 (k + 1) h' -> S2 (k + 1) h' -> IsPair h' s.heap.objs.size x y -> h'.objs.size = s.heap.objs.size + 1 →
   (∀ c o,c ≠ z -> c ≠ TO -> c ≠ i1 -> c ≠ i2 -> s.heap.get? c = some o -> h'.get? c = some o) -> Q (.ref s.heap.objs.size) { s with heap := h',toks := tk }) :
  wpAny (model prog w) A (Builtin.«zip.__next__» ⟨[.ref z],[]⟩) (fun fin s' => ∃ v,fin = .done (.ret v) /\ Q v s') E s := by
 show wpAny _ _ (field (.ref z) 2 >>= _) _ _ s
 refine wpAny_bind (wpAny_field hz rfl (x := .bool false) rfl ?_)
 refine wpAny_bind (wpAny_field hz rfl (x := .ref TI) rfl ?_)
 refine wpAny_bind (wpAny_seqItems hTI rfl ?_)
 refine wpAny_bind (m := SmallTypes.ownedTupleIsFree (.ref z)) (wpAny_bind (wpAny_field hz rfl (x := .none) rfl (wpAny_pure ?_)))
 show wpAny _ _ (if true = true then _ else _) _ _ s
 rw [if_pos rfl]
 refine wpAny_bind (wpAny_rule ?_)
 refine wpAny_bind (wpAny_field hz rfl (x := .ref TO) rfl ?_)
 refine wpAny_bind (wpAny_setField_rec hz (by simp) fun g1 hz1 hs1 => ?_)
 have st1 : S1 k g1 := D1.frame k _ _ h1 fun c hc o e => (hs1.2 c fun q => f1z (q ▸ hc)).trans e
 have st2 : S2 k g1 := D2.frame k _ _ h2 fun c hc o e => (hs1.2 c fun q => f2z (q ▸ hc)).trans e
 have hTO1 := zfq hs1 nTO hTO
 refine wpAny_bind ?_
 show wpAny _ _ (forIn [(Value.ref i1,0),(Value.ref i2,1)] _ _) _ _ _
 rw [List.forIn_cons]
 refine wpAny_bind (wpAny_bind (wpAny_onRaise ?_))
 refine wpAny_bind (m := SmallTypes.nextOf (.ref i1)) (D1.item k { s with heap := g1 } _ _ k1 st1 fun x g2 tk2 px st1' hs2 => wpAny_pure ?_)
 have hTO2 := zfq hs2 (Ne.symm n1T) hTO1
 refine wpAny_bind (wpAny_seqItems hTO2 rfl ?_)
 refine wpAny_bind (wpAny_updateSeq_pair hTO2 fun g3 hTO3 hs3 => ?_)
 refine wpAny_bind (wpAny_letGo (wpAny_pure ?_))
 have hTO3 : IsPair g3 TO x b := hTO3
 have st2' : S2 k g3 := D2.frame k _ _ st2 fun c hc o e => (hs3.2 c fun q => f2T (q ▸ hc)).trans ((hs2.2 c fun q => f21 (q ▸ hc)).trans e)
 show wpAny _ _ (forIn [(Value.ref i2,1)] _ _) _ _ _
 rw [List.forIn_cons]
 refine wpAny_bind (wpAny_bind (wpAny_onRaise ?_))
 refine wpAny_bind (m := SmallTypes.nextOf (.ref i2)) (D2.item k { s with heap := g3,toks := tk2 } _ _ k2 st2' fun y g4 tk4 py st2'' hs4 => wpAny_pure ?_)
 have hTO4 := zfq hs4 (Ne.symm n2T) hTO3
 refine wpAny_bind (wpAny_seqItems hTO4 rfl ?_)
 refine wpAny_bind (wpAny_updateSeq_pair hTO4 fun g5 hTO5 hs5 => ?_)
 refine wpAny_bind (wpAny_letGo (wpAny_pure ?_))
 have hTO5 : IsPair g5 TO x y := hTO5
 show wpAny _ _ (forIn [] _ _) _ _ _
 rw [List.forIn_nil]
 refine wpAny_pure ?_
 refine wpAny_bind (wpAny_seqItems hTO5 rfl ?_)
 refine wpAny_bind (wpAny_newTuple ?_)
 have hz5 : IsZip g5 z TI TO .ellipsis := (hs5.2 z (Ne.symm nTO)).trans ((hs4.2 z (Ne.symm n2z)).trans ((hs3.2 z (Ne.symm nTO)).trans ((hs2.2 z (Ne.symm n1z)).trans hz1)))
 have sz5 : g5.objs.size = s.heap.objs.size := by rw [hs5.1,hs4.1,hs3.1,hs2.1,hs1.1]
 have hz6 := Heap.get?_push_of_some { cls := Value.type "tuple", data := Data.seq #[x,y] } hz5
 refine wpAny_bind (m := SmallTypes.ownedTupleHandOut _ _) ?_
 refine wpAny_bind (m := setField _ 0 _) (wpAny_setField_rec hz6 (by simp) fun g7 hz7 hs7 => ?_)
 refine wpAny_setField_rec hz7 (by simp) fun g8 hz8 hs8 => ?_
 have lt : ∀ {c : Addr} {o : Obj},s.heap.get? c = some o -> c < g5.objs.size := fun e => by rw [sz5]; exact Heap.lt_size e
 have nw : g5.objs.size ≠ z := Nat.ne_of_gt (Heap.lt_size hz5)
 have fr : ∀ c o,c ≠ z -> g5.get? c = some o -> g8.get? c = some o := fun c o n e => (hs8.2 c n).trans ((hs7.2 c n).trans (Heap.get?_push_of_some _ e))
 have up : ∀ c o,c ≠ z -> c ≠ TO -> c ≠ i2 -> g2.get? c = some o -> g8.get? c = some o := fun c o c1 c2 c3 e => fr c o c1 ((hs5.2 c c2).trans ((hs4.2 c c3).trans ((hs3.2 c c2).trans e)))
 have hnew : g8.get? g5.objs.size = some { cls := Value.type "tuple", data := Data.seq #[x,y] } := (hs8.2 _ nw).trans ((hs7.2 _ nw).trans (Heap.get?_push_size _ rfl))
 have sz8 : g8.objs.size = s.heap.objs.size + 1 := by
  rw [hs8.1]
  show g7.objs.size = _
  rw [hs7.1]
  show (g5.push _).objs.size = _
  rw [Heap.size_push,sz5]
 have hz8' : IsZip g8 z TI TO (rawInt s.heap.objs.size) := by
  rw [<- sz5]
  exact hz8
 refine wpAny_pure ⟨_,rfl,?_⟩
 show Q (Value.ref g5.objs.size) { s with heap := g8,toks := tk4 }
 rw [sz5] at hnew ⊢
 refine hQ x y g8 tk4 px py hz8' (fr _ _ nTO hTO5) (D1.frame _ _ _ st1' fun c hc o e => up c o (fun q => f1z (q ▸ hc)) (fun q => f1T (q ▸ hc)) (fun q => f12 (q ▸ hc)) e) (D2.frame _ _ _ st2'' fun c hc o e => fr c o (fun q => f2z (q ▸ hc)) ((hs5.2 c fun q => f2T (q ▸ hc)).trans e)) hnew sz8 fun c o c1 c2 c3 c4 e => up c o c1 c2 c4 ((hs2.2 c c3).trans ((hs1.2 c c1).trans e))
theorem zgZ {z TI TO i1 i2 : Addr} {fp1 : List Addr} {n1 : Nat} {P1 : Nat -> Value -> Prop} {S1 : Nat -> Heap -> Prop} {a b : Value} {Q : Value -> Shared -> Prop}
  (D1 : Draws prog w A i1 fp1 n1 P1 S1) (hz : IsZip s.heap z TI TO .none) (hTI : IsPair s.heap TI (.ref i1) (.ref i2)) (hTO : IsPair s.heap TO a b)
  (h1 : S1 n1 s.heap) (nTO : TO ≠ z) (n1z : i1 ≠ z) (f1z : z ∉ fp1)
  (hE : ∀ h' e,(∃ o,h'.get? e = some o /\ o.cls = .type "StopIteration") -> (∀ c o,c ≠ z -> c ≠ TO -> c ≠ i1 -> c ≠ i2 -> s.heap.get? c = some o -> h'.get? c = some o) -> E (.ref e) { s with heap := h' }) :
  wpAny (model prog w) A (Builtin.«zip.__next__» ⟨[.ref z],[]⟩) (fun fin s' => ∃ v,fin = .done (.ret v) /\ Q v s') E s := by
 show wpAny _ _ (field (.ref z) 2 >>= _) _ _ s
 refine wpAny_bind (wpAny_field hz rfl (x := .bool false) rfl ?_)
 refine wpAny_bind (wpAny_field hz rfl (x := .ref TI) rfl ?_)
 refine wpAny_bind (wpAny_seqItems hTI rfl ?_)
 refine wpAny_bind (m := SmallTypes.ownedTupleIsFree (.ref z)) (wpAny_bind (wpAny_field hz rfl (x := .none) rfl (wpAny_pure ?_)))
 show wpAny _ _ (if true = true then _ else _) _ _ s
 rw [if_pos rfl]
 refine wpAny_bind (wpAny_rule ?_)
 refine wpAny_bind (wpAny_field hz rfl (x := .ref TO) rfl ?_)
 refine wpAny_bind (wpAny_setField_rec hz (by simp) fun g1 hz1 hs1 => ?_)
 have st1 : S1 n1 g1 := D1.frame n1 _ _ h1 fun c hc o e => (hs1.2 c fun q => f1z (q ▸ hc)).trans e
 refine wpAny_bind ?_
 show wpAny _ _ (forIn [(Value.ref i1,0),(Value.ref i2,1)] _ _) _ _ _
 rw [List.forIn_cons]
 refine wpAny_bind (wpAny_bind (wpAny_onRaise ?_))
 refine wpAny_bind (m := SmallTypes.nextOf (.ref i1)) (D1.done { s with heap := g1 } _ _ st1 fun g2 e hs2 he => ?_)
 have hz2 : g2.get? z = some _ := hs2 z _ (Ne.symm n1z) hz1
 refine wpAny_setField_rec hz2 (by simp) fun g3 hz3 hs3 => ?_
 obtain ⟨oe,e1,e2⟩ := he
 have ez : e ≠ z := fun q => by
  rw [q,hz2] at e1
  cases e1
  exact absurd (Value.type.inj e2) (by decide)
 exact hE g3 e ⟨oe,(hs3.2 e ez).trans e1,e2⟩ fun c o c1 c2 c3 c4 q => (hs3.2 c c1).trans (hs2 c o c3 ((hs1.2 c c1).trans q))
theorem zcx {z TI TO i1 i2 : Addr} {fp1 fp2 : List Addr} {n1 n2 k : Nat} {P1 P2 : Nat -> Value -> Prop} {S1 S2 : Nat -> Heap -> Prop} {a b : Value} {Q : Option Value -> Shared -> Prop}
  (D1 : Draws prog w A.in1 i1 fp1 n1 P1 S1) (D2 : Draws prog w A.in1 i2 fp2 n2 P2 S2) (hz : IsZip s.heap z TI TO .none) (hTI : IsPair s.heap TI (.ref i1) (.ref i2)) (hTO : IsPair s.heap TO a b)
  (h1 : S1 k s.heap) (h2 : S2 k s.heap) (k1 : k < n1) (k2 : k < n2) (nTO : TO ≠ z) (nTI : TI ≠ z) (n1z : i1 ≠ z) (n2z : i2 ≠ z) (n1T : i1 ≠ TO) (n2T : i2 ≠ TO)
  (f1z : z ∉ fp1) (f1T : TO ∉ fp1) (f12 : i2 ∉ fp1) (f2z : z ∉ fp2) (f2T : TO ∉ fp2) (f21 : i1 ∉ fp2)
  (hQ : ∀ x y h' tk,P1 k x -> P2 k y -> IsZip h' z TI TO (rawInt s.heap.objs.size) -> IsPair h' TO x y -> S1 (k + 1) h' -> S2 (k + 1) h' -> IsPair h' s.heap.objs.size x y -> h'.objs.size = s.heap.objs.size + 1 →
   (∀ c o,c ≠ z -> c ≠ TO -> c ≠ i1 -> c ≠ i2 -> s.heap.get? c = some o -> h'.get? c = some o) -> Q (some (.ref s.heap.objs.size)) { s with heap := h',toks := tk }) :
  wpAny (model prog w) A (pyNext (.ref z)) Q E s := by
 have hT : s.TypeIs (.ref z) "zip" := ⟨_,hz,rfl⟩
 exact wpAny_bind (wpAny_attempt (wpAny_callSpecial?_slot hT F.slot_zip_next (wpAny_call_entry F.slot_zip_next hT F.entry_zip_next
  (zf9 D1 D2 hz hTI hTO h1 h2 k1 k2 nTO nTI n1z n2z n1T n2T f1z f1T f12 f2z f2T f21 fun x y h' tk a0 b0 a1 a2 a3 a4 a5 a6 a7 => wpAny_pure (hQ x y h' tk a0 b0 a1 a2 a3 a4 a5 a6 a7)) (F.args_zip_next_1 (Value.ref z)))))
theorem zcz {z TI TO i1 i2 : Addr} {fp1 : List Addr} {n1 : Nat} {P1 : Nat -> Value -> Prop} {S1 : Nat -> Heap -> Prop} {a b : Value} {Q : Option Value -> Shared -> Prop}
  (D1 : Draws prog w A.in1 i1 fp1 n1 P1 S1) (hz : IsZip s.heap z TI TO .none) (hTI : IsPair s.heap TI (.ref i1) (.ref i2)) (hTO : IsPair s.heap TO a b)
  (h1 : S1 n1 s.heap) (nTO : TO ≠ z) (n1z : i1 ≠ z) (f1z : z ∉ fp1)
  (hQ : ∀ h',(∀ c o,c ≠ z -> c ≠ TO -> c ≠ i1 -> c ≠ i2 -> s.heap.get? c = some o -> h'.get? c = some o) -> Q none { s with heap := h' }) :
  wpAny (model prog w) A (pyNext (.ref z)) Q E s := by
 have hT : s.TypeIs (.ref z) "zip" := ⟨_,hz,rfl⟩
 exact wpAny_bind (wpAny_attempt (wpAny_callSpecial?_slot hT F.slot_zip_next (wpAny_call_entry F.slot_zip_next hT F.entry_zip_next
  (zgZ D1 hz hTI hTO h1 nTO n1z f1z fun h' e he k => let ⟨o,ho,hc⟩ := he; wpAny_bind (wpAny_isInstance ⟨o,ho,hc⟩ isSubtype_stop (wpAny_pure (hQ h' k)))) (F.args_zip_next_1 (Value.ref z)))))
end
def zpH (h : Heap) (o1 o2 : Obj) : Heap :=
 ((((h.push o1).push o2).push { cls := .type "tuple", data := .seq #[.ref h.objs.size,.ref (h.push o1).objs.size] }).push { cls := .type "tuple", data := .seq #[.none,.none] }).push
  { cls := .type "zip", data := .fields #[.none,.bool false,.bool false,.ref ((h.push o1).push o2).objs.size,.ref (((h.push o1).push o2).push { cls := .type "tuple", data := .seq #[.ref h.objs.size,.ref (h.push o1).objs.size] }).objs.size] }
abbrev tIt (l : Addr) : Obj := { cls := .type "tuple_iterator", data := .fields #[.ref l,.int 0 0] }
abbrev lIt (l : Addr) : Obj := { cls := .type "list_iterator", data := .fields #[.ref l,.int 0 0] }
theorem ziw (l1 l2 : Addr) (xs ys : Array Value) :
  Meets (Builtin.«zip.__new__» ⟨[.type "zip", .ref l1,.ref l2],[]⟩) (fun _ R s => s.heap.IsTuple l1 xs /\ s.heap.IsList l2 ys ∧
   R (.ok (.ret (.ref ((((s.heap.push (tIt l1)).push (lIt l2)).push { cls := .type "tuple", data := .seq #[.ref s.heap.objs.size,.ref (s.heap.push (tIt l1)).objs.size] }).push { cls := .type "tuple", data := .seq #[.none,.none] }).objs.size)))
    { s with heap := zpH s.heap (tIt l1) (lIt l2) }) :=
 .of_wp fun prog w A R s h => by
  obtain ⟨hp,g,d,tk,os⟩ := s
  obtain ⟨hl1,hl2,h⟩ := h
  have hsub := sub_zip
  have hL1 := hl1
  have hL2 := Heap.IsList.push hl2 (tIt l1)
  wp_walk using wpAny_pyIter_tuple hL1,wpAny_pyIter_list hL2
  exact ⟨_,rfl,h⟩
theorem zj5 {prog : Program} {w : World} {A : Around} {E : Value -> Shared -> Prop} {s : Shared} {l1 l2 : Addr} {xs ys : Array Value} {Q : Value -> Shared -> Prop} (h1 : s.heap.IsTuple l1 xs) (h2 : s.heap.IsList l2 ys)
  (h : ∀ h',IsZip h' (s.heap.objs.size + 4) (s.heap.objs.size + 2) (s.heap.objs.size + 3) .none -> IsPair h' (s.heap.objs.size + 2) (.ref s.heap.objs.size) (.ref (s.heap.objs.size + 1)) -> IsPair h' (s.heap.objs.size + 3) .none .none →
   h'.IsTupleIter s.heap.objs.size l1 0 -> h'.IsListIter (s.heap.objs.size + 1) l2 0 -> (∀ b o,s.heap.get? b = some o -> h'.get? b = some o) -> Q (.ref (s.heap.objs.size + 4)) { s with heap := h' }) :
  wpAny (model prog w) A (call (.type "zip") [.ref l1,.ref l2]) Q E s := by
 refine callType_new F.called_zip (by decide) (F.typeCall_zip_2 _ _) (F.newCall_zip_2 _ _) (fun obj => F.args_object_init_3 obj _ _) F.entry_zip_new (ziw l1 l2 xs ys) ⟨h1,h2,?_⟩
 have z1 : (s.heap.push (tIt l1)).objs.size = s.heap.objs.size + 1 := Heap.size_push ..
 have z2 : ((s.heap.push (tIt l1)).push (lIt l2)).objs.size = s.heap.objs.size + 2 := by rw [Heap.size_push,z1]
 have z3 : (((s.heap.push (tIt l1)).push (lIt l2)).push { cls := .type "tuple", data := .seq #[.ref s.heap.objs.size,.ref (s.heap.push (tIt l1)).objs.size] }).objs.size = s.heap.objs.size + 3 := by rw [Heap.size_push,z2]
 have z4 : ((((s.heap.push (tIt l1)).push (lIt l2)).push { cls := .type "tuple", data := .seq #[.ref s.heap.objs.size,.ref (s.heap.push (tIt l1)).objs.size] }).push { cls := .type "tuple", data := .seq #[.none,.none] }).objs.size = s.heap.objs.size + 4 := by rw [Heap.size_push,z3]
 have g5 : IsZip (zpH s.heap (tIt l1) (lIt l2)) (s.heap.objs.size + 4) (s.heap.objs.size + 2) (s.heap.objs.size + 3) .none := by
  rw [<- z4,<- z3,<- z2]
  exact Heap.get?_push_size _ rfl
 have g4 : IsPair (zpH s.heap (tIt l1) (lIt l2)) (s.heap.objs.size + 3) .none .none := by
  rw [<- z3]
  exact Heap.get?_push_of_some _ (Heap.get?_push_size _ rfl)
 have g3 : IsPair (zpH s.heap (tIt l1) (lIt l2)) (s.heap.objs.size + 2) (.ref s.heap.objs.size) (.ref (s.heap.objs.size + 1)) := by
  rw [<- z2,<- z1]
  exact Heap.get?_push_of_some _ (Heap.get?_push_of_some _ (Heap.get?_push_size _ rfl))
 have g2 : (zpH s.heap (tIt l1) (lIt l2)).get? (s.heap.objs.size + 1) = some (lIt l2) := by
  rw [<- z1]
  exact Heap.get?_push_of_some _ (Heap.get?_push_of_some _ (Heap.get?_push_of_some _ (Heap.get?_push_size _ rfl)))
 have g1 : (zpH s.heap (tIt l1) (lIt l2)).get? s.heap.objs.size = some (tIt l1) := Heap.get?_push_of_some _ (Heap.get?_push_of_some _ (Heap.get?_push_of_some _ (Heap.get?_push_of_some _ (Heap.get?_push_size _ rfl))))
 show _ /\ _
 rw [z4]
 exact ⟨⟨_,g5,rfl⟩,h _ g5 g3 g4 ⟨_,g1,rfl,rfl⟩ ⟨_,g2,rfl,rfl⟩ fun b o e => Heap.get?_push_of_some _ (Heap.get?_push_of_some _ (Heap.get?_push_of_some _ (Heap.get?_push_of_some _ (Heap.get?_push_of_some _ e))))⟩
theorem ziv (l1 l2 : Addr) (xs ys : Array Value) :
  Meets (Builtin.«zip.__new__» ⟨[.type "zip", .ref l1,.ref l2],[]⟩) (fun _ R s => s.heap.IsTuple l1 xs /\ s.heap.IsTuple l2 ys ∧
   R (.ok (.ret (.ref ((((s.heap.push (tIt l1)).push (tIt l2)).push { cls := .type "tuple", data := .seq #[.ref s.heap.objs.size,.ref (s.heap.push (tIt l1)).objs.size] }).push { cls := .type "tuple", data := .seq #[.none,.none] }).objs.size)))
    { s with heap := zpH s.heap (tIt l1) (tIt l2) }) :=
 .of_wp fun prog w A R s h => by
  obtain ⟨hp,g,d,tk,os⟩ := s
  obtain ⟨hl1,hl2,h⟩ := h
  have hsub := sub_zip
  have hL1 := hl1
  have hL2 := Heap.IsTuple.push hl2 (tIt l1)
  wp_walk using wpAny_pyIter_tuple hL1,wpAny_pyIter_tuple hL2
  exact ⟨_,rfl,h⟩
theorem zj4 {prog : Program} {w : World} {A : Around} {E : Value -> Shared -> Prop} {s : Shared} {l1 l2 : Addr} {xs ys : Array Value} {Q : Value -> Shared -> Prop} (h1 : s.heap.IsTuple l1 xs) (h2 : s.heap.IsTuple l2 ys)
  (h : ∀ h',IsZip h' (s.heap.objs.size + 4) (s.heap.objs.size + 2) (s.heap.objs.size + 3) .none -> IsPair h' (s.heap.objs.size + 2) (.ref s.heap.objs.size) (.ref (s.heap.objs.size + 1)) -> IsPair h' (s.heap.objs.size + 3) .none .none →
   h'.IsTupleIter s.heap.objs.size l1 0 -> h'.IsTupleIter (s.heap.objs.size + 1) l2 0 -> (∀ b o,s.heap.get? b = some o -> h'.get? b = some o) -> Q (.ref (s.heap.objs.size + 4)) { s with heap := h' }) :
  wpAny (model prog w) A (call (.type "zip") [.ref l1,.ref l2]) Q E s := by
 refine callType_new F.called_zip (by decide) (F.typeCall_zip_2 _ _) (F.newCall_zip_2 _ _) (fun obj => F.args_object_init_3 obj _ _) F.entry_zip_new (ziv l1 l2 xs ys) ⟨h1,h2,?_⟩
 have z1 : (s.heap.push (tIt l1)).objs.size = s.heap.objs.size + 1 := Heap.size_push ..
 have z2 : ((s.heap.push (tIt l1)).push (tIt l2)).objs.size = s.heap.objs.size + 2 := by rw [Heap.size_push,z1]
 have z3 : (((s.heap.push (tIt l1)).push (tIt l2)).push { cls := .type "tuple", data := .seq #[.ref s.heap.objs.size,.ref (s.heap.push (tIt l1)).objs.size] }).objs.size = s.heap.objs.size + 3 := by rw [Heap.size_push,z2]
 have z4 : ((((s.heap.push (tIt l1)).push (tIt l2)).push { cls := .type "tuple", data := .seq #[.ref s.heap.objs.size,.ref (s.heap.push (tIt l1)).objs.size] }).push { cls := .type "tuple", data := .seq #[.none,.none] }).objs.size = s.heap.objs.size + 4 := by rw [Heap.size_push,z3]
 have g5 : IsZip (zpH s.heap (tIt l1) (tIt l2)) (s.heap.objs.size + 4) (s.heap.objs.size + 2) (s.heap.objs.size + 3) .none := by
  rw [<- z4,<- z3,<- z2]
  exact Heap.get?_push_size _ rfl
 have g4 : IsPair (zpH s.heap (tIt l1) (tIt l2)) (s.heap.objs.size + 3) .none .none := by
  rw [<- z3]
  exact Heap.get?_push_of_some _ (Heap.get?_push_size _ rfl)
 have g3 : IsPair (zpH s.heap (tIt l1) (tIt l2)) (s.heap.objs.size + 2) (.ref s.heap.objs.size) (.ref (s.heap.objs.size + 1)) := by
  rw [<- z2,<- z1]
  exact Heap.get?_push_of_some _ (Heap.get?_push_of_some _ (Heap.get?_push_size _ rfl))
 have g2 : (zpH s.heap (tIt l1) (tIt l2)).get? (s.heap.objs.size + 1) = some (tIt l2) := by
  rw [<- z1]
  exact Heap.get?_push_of_some _ (Heap.get?_push_of_some _ (Heap.get?_push_of_some _ (Heap.get?_push_size _ rfl)))
 have g1 : (zpH s.heap (tIt l1) (tIt l2)).get? s.heap.objs.size = some (tIt l1) := Heap.get?_push_of_some _ (Heap.get?_push_of_some _ (Heap.get?_push_of_some _ (Heap.get?_push_of_some _ (Heap.get?_push_size _ rfl))))
 show _ /\ _
 rw [z4]
 exact ⟨⟨_,g5,rfl⟩,h _ g5 g3 g4 ⟨_,g1,rfl,rfl⟩ ⟨_,g2,rfl,rfl⟩ fun b o e => Heap.get?_push_of_some _ (Heap.get?_push_of_some _ (Heap.get?_push_of_some _ (Heap.get?_push_of_some _ (Heap.get?_push_of_some _ e))))⟩
end PySem
namespace L2
open PySem PySem.Spec PyProof.Rows
theorem Inv.turnN {X : Cx} {pins : List (Addr × Obj)} {σ : St} {H : Hp} {s : Shared} {h' : Heap} {t' : Nat} {ch : List Addr} (I : Inv X pins σ H s) (fa : ∀ b ∈ ch,zd8 X pins H b)
  (k : ∀ c o,c ∉ ch -> s.heap.get? c = some o -> h'.get? c = some o) : Inv X pins σ H { s with heap := h',toks := t' } := by
 have na : ∀ c u,H c = some u -> c ∉ ch := fun c u e z => by have := (fa c z).1; rw [e] at this; cases this
 refine I.step (g' := s.gens) (d' := s.drawn) (ch := ch) (fun c hc => ?_) (fun c o _ _ hc e _ => k c o hc e) (fun c o _ _ hc e _ => ⟨o.slots,k c o hc e⟩)
  (fun _ _ _ _ n => n) (fun c o hc e => ⟨o,k c o hc e⟩) (fun _ _ e => e) (fun _ _ _ e => e) (fun c ps e => ⟨#[],by rw [e]; simp⟩) (fun m hm => ?_) (fun c u e => ?_) I.bare
 ·obtain ⟨a0,a1,a2,a3,a4,a5⟩ := fa c hc
  exact ⟨a3,a1,a4,a5⟩
 ·obtain ⟨o,es,ep,ho,r⟩ := hm
  exact ⟨o,es,ep,k _ o (fun z => (fa _ z).2.1 rfl) ho,r⟩
 ·refine (I.hok c u e).stay (fun d v hd q => ?_) (fun _ q => q) fun _ _ q => q
  rcases hd with z | z
  ·rw [z] at q ⊢
   exact k c v (na c u e) q
  ·exact k d v (na d _ z) q
theorem Inv.turnNl {X : Cx} {pins : List (Addr × Obj)} {σ : St} {H : Hp} {s : Shared} {h' : Heap} {t' : Nat} {ch : List Addr} {T : Addr} {o' : HO} (I : Inv X pins σ H s) (fa : ∀ b ∈ ch,zd8 X pins H b)
  (k : ∀ c o,c ∉ ch -> s.heap.get? c = some o -> h'.get? c = some o) (hT : s.heap.objs.size <= T) (new : ObjOk X.prog X.w (upd H T o') h' T o') : Inv X pins σ (upd H T o') { s with heap := h',toks := t' } := by
 have J : Inv X pins σ H { s with heap := h',toks := t' } := I.turnN fa k
 have hn : H T = none := I.hok.fresh hT
 have nT : ∀ c o,s.heap.get? c = some o -> c ≠ T := fun c o q => Nat.ne_of_lt (Nat.lt_of_lt_of_le (Heap.lt_size q) hT)
 refine I.step (g' := s.gens) (d' := s.drawn) (ch := ch) (fun c hc => ?_) (fun c o _ _ hc e _ => k c o hc e) (fun c o _ _ hc e _ => ⟨o.slots,k c o hc e⟩)
  (fun c o _ q n => by rw [zan (nT c o q)]; exact n) (fun c o hc e => ⟨o,k c o hc e⟩) (fun c xs e => by rw [zan (zay e hn)]; exact e) (fun c u xs e => by rw [zan (zay e hn)]; exact e)
  (fun c ps e => ⟨#[],by rw [zan (zay e hn),e]; simp⟩) (fun m hm => ?_) (zdX J.hok hn new) I.bare
 ·obtain ⟨a0,a1,a2,a3,a4,a5⟩ := fa c hc
  exact ⟨a3,a1,a4,a5⟩
 ·obtain ⟨o,es,ep,ho,r⟩ := hm
  exact ⟨o,es,ep,k _ o (fun z => (fa _ z).2.1 rfl) ho,r⟩
end L2
namespace PySem
open Sem (wp)
open Builtin
theorem ziG (a : Int) (t : Tok) (l : Addr) (items : Array Value) (n : Nat) (dd : Option Addr) (sl : Array (Option Value)) :
  Meets (Builtin.«int.__rmul__» ⟨[.int a t,.ref l],[]⟩) (fun _ R s => s.heap.get? l = some ⟨.type "tuple", dd,.seq items n,sl⟩ /\ R (.ok (.ret .notImplemented)) s) :=
 .of_wp fun prog w A R s h => by
  obtain ⟨hp,g,d,tk,os⟩ := s
  obtain ⟨hl,h⟩ := h
  wp_walk
  exact ⟨_,rfl,h⟩
theorem zeW : fillsNumberSlot (Value.type "tuple") "mul" = pure false := PySem.fillsNumberSlot_seq F.slot_tuple_mul.lookup (by first | rfl | decide) F.slot_tuple_rmul.lookup (by first | rfl | decide)
theorem zib : seqRepeat? (Value.type "tuple") = pure (some (Value.builtin "tuple.__mul__")) := by
 unfold seqRepeat?
 have h1 : seqSlot? (Value.type "tuple") (Str.ofString "__mul__") = _ := PySem.seqSlot_of F.slot_tuple_mul.lookup (by first | rfl | decide)
 have h2 : seqSlot? (Value.type "tuple") (Str.ofString "__rmul__") = _ := PySem.seqSlot_of F.slot_tuple_rmul.lookup (by first | rfl | decide)
 rw [h1,h2]
 rfl
theorem zoD (l : Addr) (v : Value) (t : Tok) (n : Nat) (dd : Option Addr) (sl : Array (Option Value)) :
  Meets (Builtin.«tuple.__mul__» ⟨[.ref l,.int 1 t],[]⟩) (fun _ R s => s.heap.get? l = some ⟨.type "tuple", dd,.seq #[v] n,sl⟩ /\ R (.ok (.ret (.ref l))) s) :=
 .of_wp fun prog w A R s h => by
  obtain ⟨hp,g,d,tk,os⟩ := s
  obtain ⟨hl,h⟩ := h
  unfold Builtin.«tuple.__mul__»
  wp_walk
  exact ⟨_,rfl,h⟩
theorem zeL (v : Value) : ∀ (n : Nat) (a : Array Value),List.foldl (fun x1 x2 => x1 ++ x2) a (List.replicate n #[v]) = a ++ (List.replicate n v).toArray
 | 0,a => by simp
 | n + 1,a => by
  rw [List.replicate_succ,List.foldl_cons,zeL v n,List.replicate_succ]
  apply Array.ext'
  simp
theorem zkU (v : Value) (n : Nat) : List.foldl (fun x1 x2 => x1 ++ x2) #[] (List.replicate n #[v]) = (List.replicate n v).toArray := by rw [zeL]; simp
theorem zoC (l : Addr) (v : Value) (x : Int) (t : Tok) (n : Nat) (dd : Option Addr) (sl : Array (Option Value)) (h2 : 2 <= x) (h3 : x <= 1000) :
  Meets (Builtin.«tuple.__mul__» ⟨[.ref l,.int x t],[]⟩) (fun _ R s => s.heap.get? l = some ⟨.type "tuple", dd,.seq #[v] n,sl⟩ ∧
   R (.ok (.ret (.ref s.heap.objs.size))) { s with heap := s.heap.push { cls := .type "tuple", data := .seq (List.foldl (fun x1 x2 => x1 ++ x2) #[] (List.replicate x.toNat #[v])) } }) :=
 .of_wp fun prog w A R s h => by
  obtain ⟨hp,g,d,tk,os⟩ := s
  obtain ⟨hl,h⟩ := h
  have e1 : (decide (x < -2 ^ 63) || decide (x ≥ 2 ^ 63)) = false := by simp; omega
  have e2 : ((#[v] : Array Value).isEmpty || x == 1) = false := by simp; omega
  have e3 : (decide (x <= 0) || (#[v] : Array Value).isEmpty) = false := by simp; omega
  have e4 : ¬ (((#[v] : Array Value).size : Int) * x > (2 ^ 63 - 1) / 8) := by simp; omega
  have e5 : Builtin.Tuple.tupleTooMany (((#[v] : Array Value).size : Int) * x) = false := by
   unfold Builtin.Tuple.tupleTooMany
   have : (sizeLine : Int) = 16777216 := by decide
   rw [this]
   simp
   omega
  unfold Builtin.«tuple.__mul__»
  wp_walk
  rw [e1,if_neg Bool.false_ne_true]
  refine wpAny_bind (m := Builtin.Tuple.tupleItemsOf _) (wpAny_bind (wpAny_seqItems hl rfl (wpAny_pure ?_)))
  show wpAny _ _ (if ((#[v] : Array Value).isEmpty || x == 1) = true then _ else _) _ _ _
  rw [e2,if_neg Bool.false_ne_true]
  show wpAny _ _ (if (decide (x <= 0) || (#[v] : Array Value).isEmpty) = true then _ else _) _ _ _
  rw [e3,if_neg Bool.false_ne_true]
  show wpAny _ _ (if (((#[v] : Array Value).size : Int) * x > (2 ^ 63 - 1) / 8) then _ else _) _ _ _
  rw [if_neg e4]
  show wpAny _ _ (if Builtin.Tuple.tupleTooMany (((#[v] : Array Value).size : Int) * x) = true then _ else _) _ _ _
  rw [e5,if_neg Bool.false_ne_true]
  refine wpAny_bind (m := Builtin.Tuple.tupleExact _) (wpAny_newObj_type (wpAny_pure ⟨_,rfl,h⟩) ?_)
  rw [zkU]
  show (List.replicate x.toNat v).toArray.size <= sizeLine
  rw [List.size_toArray,List.length_replicate]
  have : sizeLine = 16777216 := by decide
  omega
end PySem
namespace L2
open PySem PySem.Spec PyProof.Rows
section
variable {X : Cx}
theorem zkg {v : V} {u : Value} (r : RelV v u) : ∀ n : Nat,Vals (List.replicate n v) (List.replicate n u)
 | 0 => .nil
 | n + 1 => .cons r (zkg r n)
def tPar3 (i j k : Nat) (ta : TA) : TS := fun D σ H => ta σ H fun vs H1 => ∃ u v w,vs = [u,v,w] /\ D.nx (((σ.set i (some u)).set j (some v)).set k (some w)) H1
theorem zq7 {i j k : Nat} {x y z : Str} {a b c : Expr} {ta : TA} {px py pz pt pos : Pos} {kt k2 pt2} (hc : X.calm = true) (hN : X.N.Nodup) (hi : X.N[i]? = some x) (hj : X.N[j]? = some y) (hk : X.N[k]? = some z) (hij : i ≠ j) (hik : i ≠ k) (hjk : j ≠ k)
  (hx : X.env.scope.names.lookup x = some .local) (hy : X.env.scope.names.lookup y = some .local) (hz : X.env.scope.names.lookup z = some .local) (ha : PA X [a,b,c] ta)
  (hw : swappedStores [.Tuple [.Name x px,.Name y py,.Name z pz] kt pt] (.Tuple [a,b,c] k2 pt2) X.env = pure (some [x,y,z]))
  (hs : autoParam (swapsWithSole [.Tuple [.Name x px,.Name y py,.Name z pz] kt pt] (.Tuple [a,b,c] k2 pt2) pos.line X.env = pure false) AutoP.a3._auto_1) :
  PS X (.Assign [.Tuple [.Name x px,.Name y py,.Name z pz] kt pt] (.Tuple [a,b,c] k2 pt2) pos) (tPar3 i j k ta) := by
 intro pins s σ H D I h
 rw [exec_Assign_arm]
 refine wpAny_bind (wpAny_standAt ?_)
 rw [hs]
 refine wpAny_bind (wpAny_pure ?_)
 rw [if_neg (by decide)]
 refine wpAny_bind (Tuple_ (thn (ha _ pins s σ H _ I h) fun us s1 ⟨vs,H1,I1,r1,q1⟩ => ?_))
 obtain ⟨v0,v,w,e1,q1⟩ := q1
 subst e1
 obtain ⟨u0,u1,u2,rfl,ru,rv,rw'⟩ : ∃ u0 u1 u2,us = [u0,u1,u2] /\ RelV v0 u0 /\ RelV v u1 /\ RelV w u2 := by
  cases r1 with
  | cons p0 q0 =>
   cases q0 with
   | cons p q =>
    cases q with
    | cons p' q' =>
     cases q'
     exact ⟨_,_,_,rfl,p0,p,p'⟩
 refine wpAny_newObj_type ?_ (by show 3 <= sizeLine; decide)
 have I2 : Inv X pins σ H1 { s1 with heap := s1.heap.push { cls := .type "tuple", data := .seq [u0,u1,u2].toArray } } := I1.kept (t' := s1.toks) fun b o e => Heap.get?_push_of_some _ e
 rw [hw]
 refine wpAny_bind (wpAny_pure ?_)
 show wpAny (model X.prog X.w) X.A (do rule "assign.swapped-stores"; let items <- unpackItems (.ref s1.heap.objs.size) 3 none; assignInOrder [fun v => bindName X.env z v,fun v => bindName X.env y v,fun v => bindName X.env x v] items.reverse; pure Flow.next) _ _ _
 refine wpAny_bind (wpAny_rule (wpAny_bind (unpackItems_tuple (items := #[u0,u1,u2]) (I.ok.hd hc) (IsTup.new s1.heap _) fun h' hx' => ?_)))
 have I3 := I2.kept (h' := h') (t' := s1.toks) fun b o e => hx' b o (Nat.ne_of_lt (Heap.lt_size e)) e
 show wpAny _ _ (assignInOrder [fun v => bindName X.env z v,fun v => bindName X.env y v,fun v => bindName X.env x v] [u2,u1,u0] >>= fun _ => pure Flow.next) _ _ _
 refine wpAny_bind (assignInOrder_cons (wpAny_bindName (zcc I3 hN hk (.inl hz) rw' (fun s2 I4 => ?_) (.inr hz))))
 refine assignInOrder_cons (wpAny_bindName (zcc I4 hN hj (.inl hy) rv (fun s3 I5 => ?_) (.inr hy)))
 refine assignInOrder_cons (wpAny_bindName (zcc I5 hN hi (.inl hx) ru (fun s4 I6 => assignInOrder_nil (wpAny_pure ?_)) (.inr hx)))
 rw [List.set_comm _ _ (Ne.symm hij),List.set_comm _ _ (Ne.symm hik),List.set_comm _ _ (Ne.symm hjk)] at I6
 exact ⟨_,H1,I6,q1⟩
end
end L2
namespace Mth
open PySem PyProof.Rows
theorem zpA (xs : Array Nat) (a n : Nat) (h : a + n <= xs.size) : List.filterMap (fun i => xs[i]?) ((List.range n).map fun k => a + k) = (xs.toList.drop a).take n := by
 induction n with
 | zero => simp
 | succ n ih =>
  rw [List.range_succ,List.map_append,List.filterMap_append,ih (by omega),List.take_add_one]
  have h1 : a + n < xs.size := by omega
  simp [h1]
theorem zjW (u : Option Int) (n : Nat) : Builtin.Str.strSliceIndices none u 1 n = Builtin.Str.strSliceIndices (some ((0 : Nat) : Int)) u 1 n := by
 unfold Builtin.Str.strSliceIndices
 simp
 rw [show min 0 (n : Int) = 0 by omega,Int.max_self]
theorem zjX (l : Option Int) (n : Nat) : Builtin.Str.strSliceIndices l none 1 n = Builtin.Str.strSliceIndices l (some (n : Int)) 1 n := by
 unfold Builtin.Str.strSliceIndices
 simp
 rw [if_neg (by omega),Int.min_self,show max 0 (n : Int) = n by omega]
theorem slice_mid (z : Str) (a b : Nat) (h1 : a <= b) (h2 : b <= z.cps.size) : (Txt.slice z (some (a : Int)) (some (b : Int))).cps.toList = (z.cps.toList.drop a).take (b - a) := by
 unfold Txt.slice
 have hl : z.length = z.cps.size := rfl
 rw [hl,StrLaws.strSliceIndices_plain h1 h2,List.length_map,List.length_range]
 split
 ·rename_i h
  have h3 : b - a = z.cps.size := by simpa using h
  have ha : a = 0 := by omega
  subst ha
  rw [List.drop_zero,List.take_of_length_le (by simp; omega)]
 ·exact zpA z.cps a (b - a) (by omega)
theorem slice_lo (z : Str) (b : Nat) (h2 : b <= z.cps.size) : (Txt.slice z none (some (b : Int))).cps.toList = z.cps.toList.take b := by
 have e : Txt.slice z none (some (b : Int)) = Txt.slice z (some ((0 : Nat) : Int)) (some (b : Int)) := by
  unfold Txt.slice
  rw [zjW]
 rw [e,slice_mid z 0 b (Nat.zero_le _) h2]
 simp
theorem slice_hi (z : Str) (a : Nat) (h2 : a <= z.cps.size) : (Txt.slice z (some (a : Int)) none).cps.toList = z.cps.toList.drop a := by
 have e : Txt.slice z (some (a : Int)) none = Txt.slice z (some (a : Int)) (some (z.cps.size : Int)) := by
  unfold Txt.slice
  rw [zjX]
  rfl
 rw [e,slice_mid z a z.cps.size h2 (Nat.le_refl _),List.take_of_length_le (by simp)]
end Mth
namespace L2
open PySem PySem.Spec PyProof.Rows
variable {X : Cx}
end L2
namespace PySem
open Sem (wp)
open Builtin
end PySem
namespace L2
open PySem PySem.Spec PyProof.Rows
end L2
set_option autoImplicit false
namespace MD
open PySem PySem.Spec PyProof.Rows L2
inductive D where
 | non | bl (b : Bool) | int (i : Int) | str (x : Str) | flt (b : UInt64) | byt (b : Array UInt8) | ob (k : Nat) | tup (xs : List D) | lst (xs : List D) | scr (xs : List D)
inductive MO where
 | lst (xs : List D) | dct (kvs : List (L2.Key × D)) | ins (c : Str) (fs : List (Str × D))
 | hid
abbrev Sto := List MO
abbrev En := List (Option D)
structure Exc where
 cls : Str
 args : List D
inductive Res (α : Type) where
 | ok (a : α) (m : Sto) | exc (c : Exc) (m : Sto) | bad
def Res.bind {α β : Type} (r : Res α) (k : α -> Sto -> Res β) : Res β := match r with
 | .ok a m => k a m
 | .exc c m => .exc c m
 | .bad => .bad
def Post {α : Type} (r : Res α) (Q : α -> Sto -> Prop) (E : Exc -> Sto -> Prop) : Prop := match r with
 | .ok a m => Q a m
 | .exc c m => E c m
 | .bad => False
def TupAt (K : PySem.W.Frag) (H : Hp) (a : Addr) (xs : List V) : Prop :=
 H a = some (.tup xs) ∨ ∃ (o : Obj) (its : Array Value) (n : Nat),K.lookup a = some o /\ o.cls = .type "tuple" /\ o.dict = none /\ o.data = .seq its n /\ its.size <= sizeLine /\ Vals xs its.toList
theorem TupAt.sq {K : PySem.W.Frag} {H : Hp} {a : Addr} {xs : List V} (h : TupAt K H a xs) : SqT K H a xs := by
 rcases h with h | ⟨o,its,n,h1,h2,_,h3,h4,h5⟩
 ·exact .inl (.inl h)
 ·exact .inr ⟨o,its,n,h1,h2,h3,h4,h5⟩
def KL (K : PySem.W.Frag) (a : Addr) (xs : List V) : Prop := ∃ (o : Obj) (its : Array Value) (n : Nat),K.lookup a = some o /\ o.cls = .type "list" /\ o.dict = none /\ o.data = .seq its n /\ its.size <= sizeLine /\ Vals xs its.toList
def LstAt (K : PySem.W.Frag) (α : List Addr) (H : Hp) (a : Addr) (xs : List V) : Prop := (a ∉ α /\ Rd H a (.lst xs)) ∨ KL K a xs
theorem LstAt.sq {K : PySem.W.Frag} {α : List Addr} {H : Hp} {a : Addr} {xs : List V} (h : LstAt K α H a xs) : SqL K H a xs := by
 rcases h with h | h
 ·exact .inl h.2
 ·exact .inr h
mutual
def Rep (K : PySem.W.Frag) (α : List Addr) (H : Hp) : D -> V -> Prop
 | .non,v => v = .non
 | .bl b,v => v = .bl b
 | .int i,v => v = .int i
 | .str x,v => v = .str x
 | .flt x,v => v = .flt x
 | .byt x,v => v = .byt x
 | .ob k,v => ∃ a,α[k]? = some a /\ v = .ref a
 | .tup ds,v => ∃ a xs,v = .ref a /\ TupAt K H a xs /\ RepL K α H ds xs
 | .lst ds,v => ∃ a xs,v = .ref a /\ a ∉ α /\ Rd H a (.lst xs) /\ RepL K α H ds xs
 | .scr ds,v => ∃ a xs,v = .ref a /\ LstAt K α H a xs /\ RepL K α H ds xs
def RepL (K : PySem.W.Frag) (α : List Addr) (H : Hp) : List D -> List V -> Prop
 | [],vs => vs = []
 | d :: ds,vs => ∃ v r,vs = v :: r /\ Rep K α H d v /\ RepL K α H ds r
end
def RepKV (K : PySem.W.Frag) (α : List Addr) (H : Hp) : List (L2.Key × D) -> List (L2.Key × V) -> Prop
 | [],vs => vs = []
 | d :: ds,vs => ∃ v r,vs = (d.1,v) :: r /\ Rep K α H d.2 v /\ RepKV K α H ds r
def RepF (K : PySem.W.Frag) (α : List Addr) (H : Hp) : List (Str × D) -> List (Str × V) -> Prop
 | [],vs => vs = []
 | d :: ds,vs => ∃ v r,vs = (d.1,v) :: r /\ Rep K α H d.2 v /\ RepF K α H ds r
def MoRep (K : PySem.W.Frag) (cl : Str -> Addr) (α : List Addr) (H : Hp) (a : Addr) : MO -> Prop
 | .lst ds => ∃ xs,H a = some (.lst xs) /\ RepL K α H ds xs
 | .dct ds => ∃ xs,H a = some (.dK xs) /\ RepKV K α H ds xs
 | .ins c ds => ∃ dx xs,H a = some (.ins (cl c) dx xs) /\ RepF K α H ds xs
 | .hid => ∃ o xs,H a = some (.frz o (.dK xs))
structure Wd (K : PySem.W.Frag) (cl : Str -> Addr) (α : List Addr) (m : Sto) (H : Hp) : Prop where
 len : α.length = m.length
 nd : α.Nodup
 at' : ∀ (k : Nat) (a : Addr) (o : MO),α[k]? = some a -> m[k]? = some o -> MoRep K cl α H a o
structure Ext (α : List Addr) (H : Hp) (α' : List Addr) (H' : Hp) : Prop where
 pre : ∃ β,α' = α ++ β /\ ∀ b ∈ β,H b = none
 keep : ∀ a o,H a = some o -> a ∉ α -> H' a = some o
 there : ∀ a ∈ α,H' a ≠ none
 frzs : ∀ a o u,H a = some (.frz o u) -> H' a = some (.frz o u)
section
variable {K : PySem.W.Frag} {cl : Str -> Addr} {α α' α2 : List Addr} {m m' : Sto} {H H' H2 : Hp}
theorem Wd.is (W : Wd K cl α m H) {a : Addr} (ha : a ∈ α) : (∃ xs,H a = some (.lst xs)) ∨ (∃ xs,H a = some (.dK xs)) ∨ (∃ c dx xs,H a = some (.ins c dx xs)) ∨ ∃ o xs,H a = some (.frz o (.dK xs)) := by
 obtain ⟨k,hk,rfl⟩ := List.mem_iff_getElem.mp ha
 have hm : k < m.length := by rw [<- W.len]; exact hk
 have h := W.at' k α[k] m[k] (by simp [hk]) (by simp [hm])
 cases e : m[k] with
 | lst ds => rw [e] at h; obtain ⟨xs,h,_⟩ := h; exact .inl ⟨xs,h⟩
 | dct ds => rw [e] at h; obtain ⟨xs,h,_⟩ := h; exact .inr (.inl ⟨xs,h⟩)
 | ins c ds => rw [e] at h; obtain ⟨dx,xs,h,_⟩ := h; exact .inr (.inr (.inl ⟨_,dx,xs,h⟩))
 | hid => rw [e] at h; obtain ⟨o,xs,h⟩ := h; exact .inr (.inr (.inr ⟨o,xs,h⟩))
theorem Wd.has (W : Wd K cl α m H) {a : Addr} (ha : a ∈ α) : H a ≠ none := by
 rcases W.is ha with ⟨_,h⟩ | ⟨_,h⟩ | ⟨_,_,_,h⟩ | ⟨_,_,h⟩ <;> rw [h] <;> exact fun z => nomatch z
theorem Wd.notup (W : Wd K cl α m H) {a : Addr} {xs : List V} (h : Rd H a (.tup xs)) : a ∉ α := fun ha => by
 rcases h with h | ⟨o,h⟩ <;> rcases W.is ha with ⟨_,e⟩ | ⟨_,e⟩ | ⟨_,_,_,e⟩ | ⟨_,_,e⟩ <;> rw [h] at e <;> cases e
theorem Ext.rd (E : Ext α H α' H') {a : Addr} {u : HO} (h : Rd H a u) (n : a ∉ α) : Rd H' a u := by
 rcases h with h | ⟨o,h⟩
 ·exact .inl (E.keep a _ h n)
 ·exact .inr ⟨o,E.keep a _ h n⟩
theorem Rd.ne {a : Addr} {u : HO} (h : Rd H a u) : H a ≠ none := by
 rcases h with h | ⟨o,h⟩ <;> rw [h] <;> exact fun z => nomatch z
theorem Ext.sqt (E : Ext α H α' H') (W : Wd K cl α m H) {a : Addr} {xs : List V} (h : SqT K H a xs) : SqT K H' a xs := by
 rcases h with h | h
 ·exact .inl (E.rd h (W.notup h))
 ·exact .inr h
structure Kp (α : List Addr) (H : Hp) (α' : List Addr) (H' : Hp) : Prop where
 pre : ∃ β,α' = α ++ β
 tup : ∀ a xs,H a = some (.tup xs) -> H' a = some (.tup xs)
 lst : ∀ a xs,a ∉ α -> Rd H a (.lst xs) -> a ∉ α' /\ Rd H' a (.lst xs)
theorem Ext.kp (E : Ext α H α' H') (W : Wd K cl α m H) : Kp α H α' H' := ⟨let ⟨β,e,_⟩ := E.pre; ⟨β,e⟩,fun a xs h => E.keep a _ h (W.notup (.inl h)),fun a xs n h => ⟨fun z => by
  obtain ⟨β,rfl,hb⟩ := E.pre
  rcases List.mem_append.mp z with z | z
  ·exact n z
  ·exact Rd.ne h (hb a z),E.rd h n⟩⟩
theorem Kp.lstAt (E : Kp α H α' H') {a : Addr} {xs : List V} (h : LstAt K α H a xs) : LstAt K α' H' a xs := by
 rcases h with h | h
 ·exact .inl (E.lst a xs h.1 h.2)
 ·exact .inr h
mutual
theorem Rep.kp (E : Kp α H α' H') : ∀ {d : D} {v : V},Rep K α H d v -> Rep K α' H' d v
 | .non,_,h => by simpa [Rep] using h
 | .bl _,_,h => by simpa [Rep] using h
 | .int _,_,h => by simpa [Rep] using h
 | .str _,_,h => by simpa [Rep] using h
 | .flt _,_,h => by simpa [Rep] using h
 | .byt _,_,h => by simpa [Rep] using h
 | .ob k,_,h => by
  rw [Rep] at h ⊢
  obtain ⟨a,h1,h2⟩ := h
  obtain ⟨β,rfl⟩ := E.pre
  exact ⟨a,by rw [List.getElem?_append_left (List.getElem?_eq_some_iff.mp h1).1]; exact h1,h2⟩
 | .tup ds,_,h => by
  rw [Rep] at h ⊢
  obtain ⟨a,xs,e,h1,h2⟩ := h
  refine ⟨a,xs,e,?_,RepL.kp E h2⟩
  rcases h1 with h1 | h1
  ·exact .inl (E.tup a xs h1)
  ·exact .inr h1
 | .lst ds,_,h => by
  rw [Rep] at h ⊢
  obtain ⟨a,xs,e,n,h1,h2⟩ := h
  exact ⟨a,xs,e,(E.lst a xs n h1).1,(E.lst a xs n h1).2,RepL.kp E h2⟩
 | .scr ds,_,h => by
  rw [Rep] at h ⊢
  obtain ⟨a,xs,e,h1,h2⟩ := h
  exact ⟨a,xs,e,E.lstAt h1,RepL.kp E h2⟩
theorem RepL.kp (E : Kp α H α' H') : ∀ {ds : List D} {vs : List V},RepL K α H ds vs -> RepL K α' H' ds vs
 | [],_,h => by rw [RepL] at h ⊢; exact h
 | _ :: _,_,h => by
  rw [RepL] at h ⊢
  obtain ⟨v,r,e,h1,h2⟩ := h
  exact ⟨v,r,e,Rep.kp E h1,RepL.kp E h2⟩
end
theorem Rep.mono (W : Wd K cl α m H) (E : Ext α H α' H') {d : D} {v : V} (h : Rep K α H d v) : Rep K α' H' d v := h.kp (E.kp W)
theorem RepL.mono (W : Wd K cl α m H) (E : Ext α H α' H') {ds : List D} {vs : List V} (h : RepL K α H ds vs) : RepL K α' H' ds vs := h.kp (E.kp W)
theorem Ext.refl (W : Wd K cl α m H) : Ext α H α H := ⟨⟨[],by simp,fun _ h => nomatch h⟩,fun _ _ h _ => h,fun _ h => W.has h,fun _ _ _ h => h⟩
theorem Ext.trans (a : Ext α H α' H') (b : Ext α' H' α2 H2) : Ext α H α2 H2 := by
 obtain ⟨β,rfl,hb⟩ := a.pre
 obtain ⟨γ,rfl,hc⟩ := b.pre
 refine ⟨⟨β ++ γ,by simp,fun c h => ?_⟩,fun x o h n => b.keep x o (a.keep x o h n) fun z => ?_,fun x h => b.there x (List.mem_append_left _ h),fun x o u h => b.frzs x o u (a.frzs x o u h)⟩
 ·rcases List.mem_append.mp h with h | h
  ·exact hb c h
  ·cases e : H c with
   | none => rfl
   | some o =>
    by_cases hm : c ∈ α
    ·exact absurd (hc c h) (a.there c hm)
    ·have := a.keep c o e hm
     rw [hc c h] at this
     cases this
 ·rcases List.mem_append.mp z with z | z
  ·exact n z
  ·rw [hb x z] at h
   cases h
theorem Ext.of_same (W : Wd K cl α m H) (s : Same H H') : Ext α H α H' := by
 refine ⟨⟨[],by simp,fun _ h => nomatch h⟩,fun a o h _ => s a o h,fun a ha z => ?_,fun a o u h => s a _ h⟩
 cases e : H a with
 | none => exact W.has ha e
 | some o => rw [s a o e] at z; cases z
theorem RepKV.kp (E : Kp α H α' H') : ∀ {ds : List (L2.Key × D)} {vs : List (L2.Key × V)},RepKV K α H ds vs -> RepKV K α' H' ds vs
 | [],_,h => h
 | _ :: _,_,⟨v,r,e,h1,h2⟩ => ⟨v,r,e,Rep.kp E h1,RepKV.kp E h2⟩
theorem RepF.kp (E : Kp α H α' H') : ∀ {ds : List (Str × D)} {vs : List (Str × V)},RepF K α H ds vs -> RepF K α' H' ds vs
 | [],_,h => h
 | _ :: _,_,⟨v,r,e,h1,h2⟩ => ⟨v,r,e,Rep.kp E h1,RepF.kp E h2⟩
theorem RepKV.mono (W : Wd K cl α m H) (E : Ext α H α' H') {ds : List (L2.Key × D)} {vs : List (L2.Key × V)} (h : RepKV K α H ds vs) : RepKV K α' H' ds vs := h.kp (E.kp W)
theorem RepF.mono (W : Wd K cl α m H) (E : Ext α H α' H') {ds : List (Str × D)} {vs : List (Str × V)} (h : RepF K α H ds vs) : RepF K α' H' ds vs := h.kp (E.kp W)
theorem MoRep.kp (E : Kp α H α' H') {a : Addr} (s : ∀ o,H a = some o -> H' a = some o) : ∀ {o : MO},MoRep K cl α H a o -> MoRep K cl α' H' a o
 | .lst _,⟨xs,h1,h2⟩ => ⟨xs,s _ h1,h2.kp E⟩
 | .dct _,⟨xs,h1,h2⟩ => ⟨xs,s _ h1,h2.kp E⟩
 | .ins _ _,⟨dx,xs,h1,h2⟩ => ⟨dx,xs,s _ h1,h2.kp E⟩
 | .hid,⟨o,xs,h1⟩ => ⟨o,xs,s _ h1⟩
theorem MoRep.mono (W : Wd K cl α m H) (E : Ext α H α' H') {a : Addr} (s : ∀ o,H a = some o -> H' a = some o) {o : MO} (h : MoRep K cl α H a o) : MoRep K cl α' H' a o := h.kp (E.kp W) s
theorem Wd.same (W : Wd K cl α m H) (s : Same H H') : Wd K cl α m H' := ⟨W.len,W.nd,fun k a o h1 h2 => (W.at' k a o h1 h2).mono W (Ext.of_same W s) fun o h => s a o h⟩
theorem Wd.join (W : Wd K cl α m H) {p : Addr} {u : HO} {o : MO} (hn : p ∉ α) (kp : Kp α H (α ++ [p]) (upd H p u)) (h : MoRep K cl (α ++ [p]) (upd H p u) p o) : Wd K cl (α ++ [p]) (m ++ [o]) (upd H p u) := by
 refine ⟨by rw [List.length_append,List.length_append,W.len]; rfl,?_,fun k a o' h1 h2 => ?_⟩
 ·rw [List.nodup_append]
  exact ⟨W.nd,by simp,fun a ha b hb e => hn (by rw [<- List.mem_singleton.mp hb,<- e]; exact ha)⟩
 ·by_cases hk : k < α.length
  ·rw [List.getElem?_append_left hk] at h1
   rw [List.getElem?_append_left (by rw [<- W.len]; exact hk)] at h2
   exact (W.at' k a o' h1 h2).kp kp fun o h => by rw [zan (fun z => hn (by rw [<- z]; exact List.mem_of_getElem? h1))]; exact h
  ·have hk2 : k = α.length := by
    have := (List.getElem?_eq_some_iff.mp h1).1
    rw [List.length_append] at this
    have : [p].length = 1 := rfl
    omega
   subst hk2
   rw [List.getElem?_append_right (Nat.le_refl _)] at h1
   rw [W.len,List.getElem?_append_right (Nat.le_refl _)] at h2
   simp at h1 h2
   subst h1 h2
   exact h
theorem Wd.new (W : Wd K cl α m H) {p : Addr} {u : HO} {o : MO} (hp : H p = none) (h : MoRep K cl (α ++ [p]) (upd H p u) p o) : Wd K cl (α ++ [p]) (m ++ [o]) (upd H p u) /\ Ext α H (α ++ [p]) (upd H p u) := by
 have s : Same H (upd H p u) := fun b o e => by rw [zan (zay e hp)]; exact e
 have E : Ext α H (α ++ [p]) (upd H p u) := ⟨⟨[p],rfl,fun b hb => by rw [List.mem_singleton.mp hb]; exact hp⟩,fun a o h _ => s a o h,(Ext.of_same W s).there,fun a o u h => s a _ h⟩
 exact ⟨W.join (fun z => W.has z hp) (E.kp W) h,E⟩
end
theorem ex3 {A B C : Type} {P Q R : A -> B -> C -> Prop} {G : Prop} (h : ∃ a b c,P a b c /\ Q a b c /\ R a b c) (k : ∀ a b c,P a b c -> Q a b c -> R a b c -> G) : G := h.elim fun a h => h.elim fun b h => h.elim fun c h => k a b c h.1 h.2.1 h.2.2
abbrev XD := Exc -> List Addr -> Sto -> Hp -> Prop
abbrev RD (τ : Type) := τ -> List Addr -> Sto -> Hp -> Prop
def PQ (K : PySem.W.Frag) (cl : Str -> Addr) (ex : XD) {τ : Type} (r : Res τ) (α : List Addr) (H : Hp) (R : RD τ) : Prop :=
 Post r (fun d m' => ∀ α' H',Ext α H α' H' -> Wd K cl α' m' H' -> R d α' m' H') fun c m' => ∀ α' H',Ext α H α' H' -> Wd K cl α' m' H' -> ex c α' m' H'
structure RepE (K : PySem.W.Frag) (α : List Addr) (H : Hp) (ρ : En) (σ : L2.St) : Prop where
 len : ρ.length = σ.length
 at' : ∀ (i : Nat) (d : D),ρ[i]? = some (some d) -> ∃ v,σ[i]? = some (some v) /\ Rep K α H d v
section
variable {K : PySem.W.Frag} {cl : Str -> Addr} {ex : XD} {α α' α2 : List Addr} {m m' : Sto} {H H' H2 : Hp} {ρ ρ' : En} {σ σ' : L2.St} {τ υ : Type}
theorem RepE.mono (W : Wd K cl α m H) (E : Ext α H α' H') (h : RepE K α H ρ σ) : RepE K α' H' ρ σ := ⟨h.len,fun i d e => let ⟨v,a,b⟩ := h.at' i d e; ⟨v,a,b.mono W E⟩⟩
theorem RepE.set {i : Nat} {d : D} {v : V} (h : RepE K α H ρ σ) (r : Rep K α H d v) : RepE K α H (ρ.set i (some d)) (σ.set i (some v)) := by
 refine ⟨by rw [List.length_set,List.length_set,h.len],fun j e hj => ?_⟩
 by_cases hij : i = j
 ·subst hij
  have hl : i < ρ.length := by
   have := (List.getElem?_eq_some_iff.mp hj).1
   rwa [List.length_set] at this
  rw [List.getElem?_set_self hl] at hj
  cases hj
  exact ⟨v,List.getElem?_set_self (by rw [<- h.len]; exact hl),r⟩
 ·rw [List.getElem?_set_ne hij] at hj ⊢
  exact h.at' j e hj
theorem RepE.more (h : RepE K α H ρ σ) (n : Nat) : RepE K α H (ρ ++ List.replicate n none) (σ ++ List.replicate n none) := by
 refine ⟨by simp [h.len],fun j e hj => ?_⟩
 by_cases hl : j < ρ.length
 ·rw [List.getElem?_append_left hl] at hj
  rw [List.getElem?_append_left (by rw [<- h.len]; exact hl)]
  exact h.at' j e hj
 ·rw [List.getElem?_append_right (by omega),List.getElem?_replicate] at hj
  split at hj <;> cases hj
theorem PQ.mono {r : Res τ} {R R' : RD τ} (E : Ext α H α' H') (h : PQ K cl ex r α H R) (hR : ∀ d α2 m2 H2,Ext α' H' α2 H2 -> Wd K cl α2 m2 H2 -> R d α2 m2 H2 -> R' d α2 m2 H2) : PQ K cl ex r α' H' R' := by
 cases r with
 | ok d m2 => exact fun α2 H2 E2 W2 => hR d α2 m2 H2 E2 W2 (h α2 H2 (E.trans E2) W2)
 | exc c m2 => exact fun α2 H2 E2 W2 => h α2 H2 (E.trans E2) W2
 | bad => exact h
theorem PQ.bind {r : Res τ} {k : τ -> Sto -> Res υ} {R : RD υ} (h : PQ K cl ex (r.bind k) α H R) : PQ K cl ex r α H fun d α1 m1 H1 => PQ K cl ex (k d m1) α1 H1 R := by
 cases r with
 | ok d m1 => exact fun α1 H1 E1 _ => PQ.mono E1 h fun _ _ _ _ _ _ q => q
 | exc c m1 => exact h
 | bad => exact h
theorem PQ.ok {d : τ} {R : RD τ} (W : Wd K cl α m H) (h : PQ K cl ex (.ok d m) α H R) : R d α m H := h α H (Ext.refl W) W
theorem PQ.okS {d : τ} {R : RD τ} (W : Wd K cl α m H) (s : Same H H') (h : PQ K cl ex (.ok d m) α H R) : R d α m H' := h α H' (Ext.of_same W s) (W.same s)
def tD (K : PySem.W.Frag) (cl : Str -> Addr) (ex : XD) (f : En -> Sto -> Res D) : TE := fun σ H Q => ∃ α ρ m,Wd K cl α m H /\ RepE K α H ρ σ /\ PQ K cl ex (f ρ m) α H fun d α' _ H' => ∀ v,Rep K α' H' d v -> Q v H'
def tDT (K : PySem.W.Frag) (cl : Str -> Addr) (ex : XD) (f : En -> Sto -> Res Bool) : TT := fun σ H Q => ∃ α ρ m,Wd K cl α m H /\ RepE K α H ρ σ /\ PQ K cl ex (f ρ m) α H fun d _ _ H' => Q d H'
def tDA (K : PySem.W.Frag) (cl : Str -> Addr) (ex : XD) (f : En -> Sto -> Res (List D)) : TA := fun σ H Q => ∃ α ρ m,Wd K cl α m H /\ RepE K α H ρ σ /\ PQ K cl ex (f ρ m) α H fun d α' _ H' => ∀ v,RepL K α' H' d v -> Q v H'
theorem tD.use {f : En -> Sto -> Res D} {k : D -> Sto -> Res τ} {R : RD τ} {Q : VK} (W : Wd K cl α m H) (hr : RepE K α H ρ σ) (h : PQ K cl ex ((f ρ m).bind k) α H R)
  (hQ : ∀ α1 m1 H1 d v,Ext α H α1 H1 -> Wd K cl α1 m1 H1 -> RepE K α1 H1 ρ σ -> Rep K α1 H1 d v -> PQ K cl ex (k d m1) α1 H1 R -> Q v H1) : tD K cl ex f σ H Q :=
 ⟨α,ρ,m,W,hr,PQ.mono (Ext.refl W) h.bind fun d α1 m1 H1 E1 W1 q v rv => hQ α1 m1 H1 d v E1 W1 (hr.mono W E1) rv q⟩
theorem tDT.use {f : En -> Sto -> Res Bool} {k : Bool -> Sto -> Res τ} {R : RD τ} {Q : Bool -> Hp -> Prop} (W : Wd K cl α m H) (hr : RepE K α H ρ σ) (h : PQ K cl ex ((f ρ m).bind k) α H R)
  (hQ : ∀ α1 m1 H1 d,Ext α H α1 H1 -> Wd K cl α1 m1 H1 -> RepE K α1 H1 ρ σ -> PQ K cl ex (k d m1) α1 H1 R -> Q d H1) : tDT K cl ex f σ H Q :=
 ⟨α,ρ,m,W,hr,PQ.mono (Ext.refl W) h.bind fun d α1 m1 H1 E1 W1 q => hQ α1 m1 H1 d E1 W1 (hr.mono W E1) q⟩
theorem tDA.use {f : En -> Sto -> Res (List D)} {k : List D -> Sto -> Res τ} {R : RD τ} {Q : List V -> Hp -> Prop} (W : Wd K cl α m H) (hr : RepE K α H ρ σ) (h : PQ K cl ex ((f ρ m).bind k) α H R)
  (hQ : ∀ α1 m1 H1 d v,Ext α H α1 H1 -> Wd K cl α1 m1 H1 -> RepE K α1 H1 ρ σ -> RepL K α1 H1 d v -> PQ K cl ex (k d m1) α1 H1 R -> Q v H1) : tDA K cl ex f σ H Q :=
 ⟨α,ρ,m,W,hr,PQ.mono (Ext.refl W) h.bind fun d α1 m1 H1 E1 W1 q v rv => hQ α1 m1 H1 d v E1 W1 (hr.mono W E1) rv q⟩
end
section
variable (X : Cx) (cl : Str -> Addr) (ex : XD)
abbrev EV := En -> Sto -> Res D
abbrev TV := En -> Sto -> Res Bool
abbrev AV := En -> Sto -> Res (List D)
structure QE (e : Expr) (f : EV) : Prop where
 out : PE X e (tD X.K cl ex f)
structure QT (e : Expr) (f : TV) : Prop where
 out : PT X e (tDT X.K cl ex f)
structure QW (e : Expr) (f : TV) : Prop where
 out : PW X e (tDT X.K cl ex f)
structure QA (es : List Expr) (f : AV) : Prop where
 out : PA X es (tDA X.K cl ex f)
end
theorem PE.weak {X : Cx} {e : Expr} {t t' : TE} (h : PE X e t) (w : ∀ σ H Q,t' σ H Q -> t σ H Q) : PE X e t' := fun pins s σ H Q I q => h pins s σ H Q I (w σ H Q q)
theorem PT.weak {X : Cx} {e : Expr} {t t' : TT} (h : PT X e t) (w : ∀ σ H Q,t' σ H Q -> t σ H Q) : PT X e t' := fun pins s σ H Q I q => h pins s σ H Q I (w σ H Q q)
theorem PW.weak {X : Cx} {e : Expr} {t t' : TT} (h : PW X e t) (w : ∀ σ H Q,t' σ H Q -> t σ H Q) : PW X e t' := fun wh pins s σ H Q I q => h wh pins s σ H Q I (w σ H Q q)
theorem PA.weak {X : Cx} {e : List Expr} {t t' : TA} (h : PA X e t) (w : ∀ σ H Q,t' σ H Q -> t σ H Q) : PA X e t' := fun p pins s σ H Q I q => h p pins s σ H Q I (w σ H Q q)
theorem PS.weak {X : Cx} {e : Stmt} {t t' : TS} (h : PS X e t) (w : ∀ D σ H,t' D σ H -> t D σ H) : PS X e t' := fun pins s σ H D I q => h pins s σ H D I (w D σ H q)
theorem PSs.weak {X : Cx} {e : List Stmt} {t t' : TS} (h : PSs X e t) (w : ∀ D σ H,t' D σ H -> t D σ H) : PSs X e t' := fun pins s σ H D I q => h pins s σ H D I (w D σ H q)
def zae (i : Nat) : EV := fun ρ m => match ρ[i]? with
 | some (some d) => .ok d m
 | _ => .bad
def eC (d : D) : EV := fun _ m => .ok d m
def eOp (g : D -> D -> Sto -> Res D) (fa fb : EV) : EV := fun ρ m => (fa ρ m).bind fun x m1 => (fb ρ m1).bind fun y m2 => g x y m2
def eUn (g : D -> Sto -> Res D) (fa : EV) : EV := fun ρ m => (fa ρ m).bind g
def eIf (c : TV) (fa fb : EV) : EV := fun ρ m => (c ρ m).bind fun b m1 => if b = true then fa ρ m1 else fb ρ m1
def zaj : AV := fun _ m => .ok [] m
def zac (fa : EV) (fr : AV) : AV := fun ρ m => (fa ρ m).bind fun x m1 => (fr ρ m1).bind fun xs m2 => .ok (x :: xs) m2
def eFn (g : List D -> Sto -> Res D) (fa : AV) : EV := fun ρ m => (fa ρ m).bind g
def asB (d : D) (m : Sto) : Res Bool := match d with
 | .bl b => .ok b m
 | _ => .bad
def tV (fa : EV) : TV := fun ρ m => (fa ρ m).bind asB
def zeP (a b : TV) : TV := fun ρ m => (a ρ m).bind fun c m1 => if c = true then b ρ m1 else .ok false m1
def zmg (a b : TV) : TV := fun ρ m => (a ρ m).bind fun c m1 => if c = true then .ok true m1 else b ρ m1
def zjo (a : TV) : TV := fun ρ m => (a ρ m).bind fun c m1 => .ok (!c) m1
def eAnd (a b : EV) : EV := fun ρ m => (a ρ m).bind fun c m1 => (asB c m1).bind fun c m1 => if c = true then b ρ m1 else .ok (.bl false) m1
def eOr (a b : EV) : EV := fun ρ m => (a ρ m).bind fun c m1 => (asB c m1).bind fun c m1 => if c = true then .ok (.bl true) m1 else b ρ m1
def eNot (a : EV) : EV := fun ρ m => (a ρ m).bind fun c m1 => (asB c m1).bind fun c m1 => .ok (.bl (!c)) m1
def OpD (K : PySem.W.Frag) (cl : Str -> Addr) (ex : XD) (r : R2) (g : D -> D -> Sto -> Res D) : Prop :=
 ∀ (α : List Addr) (m : Sto) (H : Hp) (x y : D) (vx vy : V) (Q : VK),Wd K cl α m H -> Rep K α H x vx -> Rep K α H y vy -> PQ K cl ex (g x y m) α H (fun d α' _ H' => ∀ v,Rep K α' H' d v -> Q v H') -> r vx vy H Q
def UnD (K : PySem.W.Frag) (cl : Str -> Addr) (ex : XD) (r : V -> Hp -> VK -> Prop) (g : D -> Sto -> Res D) : Prop :=
 ∀ (α : List Addr) (m : Sto) (H : Hp) (x : D) (vx : V) (Q : VK),Wd K cl α m H -> Rep K α H x vx -> PQ K cl ex (g x m) α H (fun d α' _ H' => ∀ v,Rep K α' H' d v -> Q v H') -> r vx H Q
def FnD (K : PySem.W.Frag) (cl : Str -> Addr) (ex : XD) (r : List V -> Hp -> VK -> Prop) (g : List D -> Sto -> Res D) : Prop :=
 ∀ (α : List Addr) (m : Sto) (H : Hp) (x : List D) (vx : List V) (Q : VK),Wd K cl α m H -> RepL K α H x vx -> PQ K cl ex (g x m) α H (fun d α' _ H' => ∀ v,Rep K α' H' d v -> Q v H') -> r vx H Q
section
variable {X : Cx} {cl : Str -> Addr} {ex : XD} {a b c e : Expr} {es rest : List Expr} {fa fb : EV} {ta tb : TV} {fr : AV} {pos : Pos}
theorem zab (i : Nat) {x : Str} (hN : autoParam (X.N[i]? = some x) AutoP.a3._auto_1) (hv : Vis X.env.scope x := by first | exact Or.inl rfl | exact Or.inr (Or.inl rfl) | exact Or.inr (Or.inr rfl)) (hd : autoParam ((x == ("__debug__" : Str)) = false) AutoP.a1._auto_1) (hcd : autoParam ((x == ("__classdict__" : Str)) = false) AutoP.a1._auto_1) : QE X cl ex (.Name x pos) (zae i) :=
 ⟨PE.weak (pe_var hN hv hd hcd) fun σ H Q hh => ex3 hh fun α ρ m W hr h => by
  unfold zae at h
  split at h
  ·rename_i d e
   obtain ⟨v,e1,r⟩ := hr.at' i d e
   exact ⟨v,e1,PQ.ok W h v r⟩
  ·exact h.elim⟩
theorem qe_c {d : D} {v : V} (h : PE X e (tC v)) (r : ∀ α H,Rep X.K α H d v) : QE X cl ex e (eC d) :=
 ⟨PE.weak h fun σ H Q hh => ex3 hh fun α ρ m W hr h => PQ.ok W h v (r α H)⟩
theorem zad {i : Int} {j} : QE X cl ex (.Constant (.int i) j pos) (eC (.int i)) := qe_c pe_int fun α H => by rw [Rep]
theorem zih {i : Bool} {j} : QE X cl ex (.Constant (.bool i) j pos) (eC (.bl i)) := qe_c pe_bl fun α H => by rw [Rep]
theorem zaW {j} : QE X cl ex (.Constant .none j pos) (eC .non) := qe_c pe_non fun α H => by rw [Rep]
theorem zaq {i : Str} {j} : QE X cl ex (.Constant (.str i) j pos) (eC (.str i)) := qe_c zp0 fun α H => by rw [Rep]
theorem zkn {r : R2} {g : D -> D -> Sto -> Res D} (hd : OpD X.K cl ex r g) : ∀ σ H Q,tD X.K cl ex (eOp g fa fb) σ H Q -> tOp r (tD X.K cl ex fa) (tD X.K cl ex fb) σ H Q := fun σ H Q hh => ex3 hh fun α ρ m W hr h =>
 tD.use W hr h fun α1 m1 H1 d v E1 W1 hr1 rv h1 => tD.use W1 hr1 h1 fun α2 m2 H2 d2 v2 E2 W2 hr2 rv2 h2 => hd α2 m2 H2 d d2 v v2 Q W2 (rv.mono W1 E2) rv2 h2
theorem zal {op : Operator} {r : R2} {g : D -> D -> Sto -> Res D} (ho : OpR X (binaryOp op) r) (hd : OpD X.K cl ex r g) (ha : QE X cl ex a fa) (hb : QE X cl ex b fb) : QE X cl ex (.BinOp a op b pos) (eOp g fa fb) :=
 ⟨PE.weak (pe_op ho ha.out hb.out) (zkn hd)⟩
theorem zln {op : UnaryOp} {r : V -> Hp -> VK -> Prop} {g : D -> Sto -> Res D} (ho : UnR X (unaryOp op) r) (hd : UnD X.K cl ex r g) (ha : QE X cl ex a fa) : QE X cl ex (.UnaryOp op a pos) (eUn g fa) :=
 ⟨PE.weak (pe_un ho ha.out) fun σ H Q hh => ex3 hh fun α ρ m W hr h => tD.use W hr h fun α1 m1 H1 d v E1 W1 hr1 rv h1 => hd α1 m1 H1 d v Q W1 rv h1⟩
theorem qe_ix {r : R2} {g : D -> D -> Sto -> Res D} (ho : IxR X r) (hd : OpD X.K cl ex r g) (ha : QE X cl ex a fa) (hb : QE X cl ex b fb) (hs : zkb b) : QE X cl ex (.Subscript a b pos) (eOp g fa fb) :=
 ⟨PE.weak (pe_ix ho ha.out hb.out hs) (zkn hd)⟩
theorem zdQ {op : CmpOp} {r : R2} {g : D -> D -> Sto -> Res D} (ho : OpR X (compareOp op) r) (hd : OpD X.K cl ex r g) (ha : QE X cl ex a fa) (hb : QE X cl ex b fb) (hm : behindInMarks op b = false) : QE X cl ex (.Compare a [op] [b] pos) (eOp g fa fb) :=
 ⟨PE.weak (zrs ho ha.out hb.out hm) (zkn hd)⟩
theorem zkl {t : TE} (h : ∀ σ H Q,tD X.K cl ex fa σ H Q -> t σ H Q) : ∀ σ H Q,tDT X.K cl ex (tV fa) σ H Q -> tTest t σ H Q := fun σ H Q hh => ex3 hh fun α ρ m W hr q =>
 h σ H _ (tD.use W hr q fun α1 m1 H1 d v E1 W1 hr1 rv h1 => by
  cases d with
  | bl b => rw [Rep] at rv; exact ⟨b,rv,PQ.ok W1 h1⟩
  | _ => exact h1.elim)
theorem zas {op : CmpOp} {r : R2} {g : D -> D -> Sto -> Res D} (ho : OpR X (compareOp op) r) (hd : OpD X.K cl ex r g) (ha : QE X cl ex a fa) (hb : QE X cl ex b fb) (hm : behindInMarks op b = false) : QT X cl ex (.Compare a [op] [b] pos) (tV (eOp g fa fb)) :=
 ⟨PT.weak (zq4 ho ha.out hb.out hm) (zkl (zkn hd))⟩
theorem zey (hq : QE X cl ex e fa) (he : autoParam (∀ whole,isTrue e X.env whole = (do let v <- whole; standAt e.pos; holding [v] (truthy v))) AutoP.a2._auto_1) : QT X cl ex e (tV fa) :=
 ⟨PT.weak (pt_val hq.out he) (zkl fun _ _ _ h => h)⟩
def eChain (g g' : D -> D -> Sto -> Res D) (fa fb fc : EV) : EV := fun ρ m => (fa ρ m).bind fun x m1 => (fb ρ m1).bind fun y m2 => (g x y m2).bind fun z m3 => (asB z m3).bind fun k m3 => if k = true then (fc ρ m3).bind fun w m4 => g' y w m4 else .ok (.bl false) m3
theorem zeg (ha : QT X cl ex a ta) : QW X cl ex (.BoolOp .And [a] pos) ta := ⟨zq2 ha.out⟩
theorem zky (ha : QT X cl ex a ta) : QW X cl ex (.BoolOp .Or [a] pos) ta := ⟨pw_or1 ha.out⟩
theorem zgA (ha : QT X cl ex a ta) (hb : QW X cl ex (.BoolOp .And (b :: rest) pos) tb) : QW X cl ex (.BoolOp .And (a :: b :: rest) pos) (zeP ta tb) :=
 ⟨PW.weak (pw_and ha.out hb.out) fun σ H Q hh => ex3 hh fun α ρ m W hr h => tDT.use W hr h fun α1 m1 H1 d E1 W1 hr1 h1 => by
  cases d with
  | true => exact ⟨α1,ρ,m1,W1,hr1,h1⟩
  | false => exact PQ.ok W1 h1⟩
theorem zmF (ha : QT X cl ex a ta) (hb : QW X cl ex (.BoolOp .Or (b :: rest) pos) tb) : QW X cl ex (.BoolOp .Or (a :: b :: rest) pos) (zmg ta tb) :=
 ⟨PW.weak (pw_or ha.out hb.out) fun σ H Q hh => ex3 hh fun α ρ m W hr h => tDT.use W hr h fun α1 m1 H1 d E1 W1 hr1 h1 => by
  cases d with
  | false => exact ⟨α1,ρ,m1,W1,hr1,h1⟩
  | true => exact PQ.ok W1 h1⟩
theorem zbZ (hq : QW X cl ex a ta) : QT X cl ex a ta := ⟨PW.pt hq.out⟩
theorem zkz (ha : QT X cl ex a ta) : QT X cl ex (.UnaryOp .Not a pos) (zjo ta) :=
 ⟨PT.weak (pt_not ha.out) fun σ H Q hh => ex3 hh fun α ρ m W hr h => tDT.use W hr h fun α1 m1 H1 d E1 W1 hr1 h1 => PQ.ok W1 h1⟩
theorem zig {op} (ha : QE X cl ex a fa) : QE X cl ex (.BoolOp op [a] pos) fa := ⟨pe_one ha.out⟩
theorem asB.use {d : D} {v : V} {τ : Type} {k : Bool -> Sto -> Res τ} {R : RD τ} {α : List Addr} {m : Sto} {H : Hp} (W : Wd X.K cl α m H) (rv : Rep X.K α H d v) (h : PQ X.K cl ex ((asB d m).bind k) α H R) : ∃ b,v = .bl b /\ PQ X.K cl ex (k b m) α H R := by
 cases d with
 | bl b => rw [Rep] at rv; exact ⟨b,rv,h⟩
 | _ => exact h.elim
theorem zkA (ha : QE X cl ex a fa) (hb : QE X cl ex (.BoolOp .And (b :: rest) pos) fb) : QE X cl ex (.BoolOp .And (a :: b :: rest) pos) (eAnd fa fb) :=
 ⟨PE.weak (pe_and ha.out hb.out) fun σ H Q hh => ex3 hh fun α ρ m W hr h => tD.use W hr h fun α1 m1 H1 d v E1 W1 hr1 rv h1 => by
  obtain ⟨c,e,h2⟩ := asB.use W1 rv h1
  refine ⟨c,e,?_⟩
  cases c with
  | true => exact ⟨α1,ρ,m1,W1,hr1,h2⟩
  | false => exact PQ.ok W1 h2 _ (by rw [Rep])⟩
theorem qe_or (ha : QE X cl ex a fa) (hb : QE X cl ex (.BoolOp .Or (b :: rest) pos) fb) : QE X cl ex (.BoolOp .Or (a :: b :: rest) pos) (eOr fa fb) :=
 ⟨PE.weak (pe_or ha.out hb.out) fun σ H Q hh => ex3 hh fun α ρ m W hr h => tD.use W hr h fun α1 m1 H1 d v E1 W1 hr1 rv h1 => by
  obtain ⟨c,e,h2⟩ := asB.use W1 rv h1
  refine ⟨c,e,?_⟩
  cases c with
  | false => exact ⟨α1,ρ,m1,W1,hr1,h2⟩
  | true => exact PQ.ok W1 h2 _ (by rw [Rep])⟩
theorem qe_not (ha : QE X cl ex a fa) : QE X cl ex (.UnaryOp .Not a pos) (eNot fa) :=
 ⟨PE.weak (pe_not ha.out) fun σ H Q hh => ex3 hh fun α ρ m W hr h => tD.use W hr h fun α1 m1 H1 d v E1 W1 hr1 rv h1 => by
  obtain ⟨c,e,h2⟩ := asB.use W1 rv h1
  exact ⟨c,e,PQ.ok W1 h2 _ (by rw [Rep])⟩⟩
theorem zqZ (hc : QT X cl ex c ta) (ha : QE X cl ex a fa) (hb : QE X cl ex b fb) : QE X cl ex (.IfExp c a b pos) (eIf ta fa fb) :=
 ⟨PE.weak (zpa hc.out ha.out hb.out) fun σ H Q hh => ex3 hh fun α ρ m W hr h => tDT.use W hr h fun α1 m1 H1 d E1 W1 hr1 h1 => by
  cases d with
  | true => exact ⟨α1,ρ,m1,W1,hr1,h1⟩
  | false => exact ⟨α1,ρ,m1,W1,hr1,h1⟩⟩
theorem zag : QA X cl ex [] zaj := ⟨PA.weak zfx fun σ H Q hh => ex3 hh fun α ρ m W hr h => PQ.ok W h _ (by rw [RepL])⟩
theorem zaa (ha : QE X cl ex e fa) (hrq : QA X cl ex es fr) (hs : autoParam (starEach (e :: es) X.env = (false,eval e X.env) :: starEach es X.env) AutoP.a3._auto_1) : QA X cl ex (e :: es) (zac fa fr) :=
 ⟨PA.weak (zb2 ha.out hrq.out hs) fun σ H Q hh => ex3 hh fun α ρ m W hr h => tD.use W hr h fun α1 m1 H1 d v E1 W1 hr1 rv h1 => tDA.use W1 hr1 h1 fun α2 m2 H2 d2 v2 E2 W2 hr2 rv2 h2 => PQ.ok W2 h2 _ (by rw [RepL]; exact ⟨v,v2,rfl,rv.mono W1 E2,rv2⟩)⟩
theorem RepL.length {K : PySem.W.Frag} {α : List Addr} {H : Hp} : ∀ {ds : List D} {vs : List V},RepL K α H ds vs -> ds.length = vs.length
 | [],_,h => by rw [RepL] at h; rw [h]; rfl
 | _ :: _,_,h => by
  rw [RepL] at h
  obtain ⟨v,r,rfl,_,h2⟩ := h
  rw [List.length_cons,List.length_cons,RepL.length h2]
def zbG : List D -> Sto -> Res D := fun ds m => if ds.length <= sizeLine then .ok (.tup ds) m else .bad
def zc0 : List D -> Sto -> Res D := fun ds m => if ds.length <= sizeLine then .ok (.lst ds) m else .bad
def znW : List D -> Sto -> Res D := fun ds m => if ds.length <= sizeLine then .ok (.ob m.length) (m ++ [.lst ds]) else .bad
theorem PQ.if {K : PySem.W.Frag} {τ : Type} {c : Prop} [Decidable c] {r : Res τ} {α : List Addr} {H : Hp} {R : RD τ} (h : PQ K cl ex (if c then r else .bad) α H R) : c /\ PQ K cl ex r α H R := by
 by_cases hc : c
 ·rw [if_pos hc] at h; exact ⟨hc,h⟩
 ·rw [if_neg hc] at h; exact h.elim
theorem Same.new {H : Hp} {p : Addr} {o : HO} (hp : H p = none) : Same H (upd H p o) := fun b u e => by rw [zan (zay e hp)]; exact e
theorem zaK {x1} (hq : QA X cl ex es fr) : QE X cl ex (.Tuple es x1 pos) (eFn zbG fr) :=
 ⟨PE.weak (pe_tup hq.out) fun σ H Q hh => ex3 hh fun α ρ m W hr h => tDA.use W hr h fun α1 m1 H1 d v E1 W1 hr1 rv h1 => by
  obtain ⟨hl,h2⟩ := h1.if
  refine ⟨by rw [<- rv.length]; exact hl,fun p hp => ?_⟩
  have s := Same.new (o := .tup v) hp
  exact PQ.okS W1 s h2 _ (by rw [Rep]; exact ⟨p,v,rfl,.inl zax,rv.mono W1 (Ext.of_same W1 s)⟩)⟩
theorem Wd.nin {K : PySem.W.Frag} {α : List Addr} {m : Sto} {H : Hp} (W : Wd K cl α m H) {p : Addr} (hp : H p = none) : p ∉ α := fun z => W.has z hp
theorem zcm {K : PySem.W.Frag} {α : List Addr} {m : Sto} {H : Hp} {p : Addr} {ds : List D} {vs : List V} (W : Wd K cl α m H) (hp : H p = none) (r : RepL K α H ds vs) : Rep K α (upd H p (.lst vs)) (.lst ds) (.ref p) := by
 rw [Rep]
 exact ⟨p,vs,rfl,W.nin hp,.inl zax,r.mono W (Ext.of_same W (Same.new hp))⟩
theorem zbw (hq : QA X cl ex es fr) : QE X cl ex (.List es pos) (eFn zc0 fr) :=
 ⟨PE.weak (zp1 hq.out) fun σ H Q hh => ex3 hh fun α ρ m W hr h => tDA.use W hr h fun α1 m1 H1 d v E1 W1 hr1 rv h1 => by
  obtain ⟨hl,h2⟩ := h1.if
  exact ⟨by rw [<- rv.length]; exact hl,fun p hp => PQ.okS W1 (Same.new hp) h2 _ (zcm W1 hp rv)⟩⟩
theorem zrK {K : PySem.W.Frag} {α : List Addr} {m : Sto} {H : Hp} {p : Addr} {ds : List D} {vs : List V} {R : RD D} (W : Wd K cl α m H) (hp : H p = none) (r : RepL K α H ds vs) (h : PQ K cl ex (.ok (.ob m.length) (m ++ [.lst ds])) α H R) : ∃ α' m',R (.ob m.length) α' m' (upd H p (.lst vs)) /\ Rep K α' (upd H p (.lst vs)) (.ob m.length) (.ref p) := by
 have E0 : Ext α H (α ++ [p]) (upd H p (.lst vs)) := ⟨⟨[p],rfl,fun b hb => by rw [List.mem_singleton.mp hb]; exact hp⟩,fun a o h _ => Same.new hp a o h,(Ext.of_same W (Same.new hp)).there,fun a o u h => Same.new hp a _ h⟩
 obtain ⟨W2,E2⟩ := W.new (u := .lst vs) (o := .lst ds) hp ⟨vs,zax,r.mono W E0⟩
 refine ⟨_,_,h _ _ E2 W2,?_⟩
 rw [Rep]
 refine ⟨p,?_,rfl⟩
 rw [<- W.len,List.getElem?_append_right (Nat.le_refl _)]
 simp
theorem zjx (hq : QA X cl ex es fr) : QE X cl ex (.List es pos) (eFn znW fr) :=
 ⟨PE.weak (zp1 hq.out) fun σ H Q hh => ex3 hh fun α ρ m W hr h => tDA.use W hr h fun α1 m1 H1 d v E1 W1 hr1 rv h1 => by
  obtain ⟨hl,h2⟩ := h1.if
  refine ⟨by rw [<- rv.length]; exact hl,fun p hp => ?_⟩
  obtain ⟨_,_,q,r⟩ := zrK W1 hp rv h2
  exact q _ r⟩
theorem zpU {r : List V -> Hp -> VK -> Prop} {g : List D -> Sto -> Res D} (hd : FnD X.K cl ex r g) : ∀ σ H Q,tD X.K cl ex (eFn g fr) σ H Q -> tCB r (tDA X.K cl ex fr) σ H Q := fun σ H Q hh => ex3 hh fun α ρ m W hr h =>
 tDA.use W hr h fun α1 m1 H1 d v E1 W1 hr1 rv h1 => hd α1 m1 H1 d v Q W1 rv h1
theorem zaD {x : Str} {id : String} {p : Pos} {r : List V -> Hp -> VK -> Prop} {g : List D -> Sto -> Res D} (hc : CallR X (.builtin id) r) (hd : FnD X.K cl ex r g) (hg : Gl X x) (hm : X.mg x = none) (hv : bootBuiltins x = some (.builtin id)) (ha : QA X cl ex (e :: es) fr) (hn : autoParam (x ≠ "__name__") AutoP.a1._auto_1) (hdb : autoParam ((x == ("__debug__" : Str)) = false) AutoP.a1._auto_1)
  (he : autoParam (starEach (e :: es) X.env = (false,eval e X.env) :: starEach es X.env) AutoP.a3._auto_1) (hpl : autoParam ((backTo pos (starEach es X.env)).any (·.1) = false) AutoP.a3._auto_1) : QE X cl ex (.Call (.Name x p) (e :: es) [] pos) (eFn g fr) :=
 ⟨PE.weak (zkD hc hg hm hv ha.out hn hdb he hpl) (zpU hd)⟩
theorem zaS {x : Str} {T : String} {p : Pos} {r : List V -> Hp -> VK -> Prop} {g : List D -> Sto -> Res D} (hc : CallR X (.type T) r) (hd : FnD X.K cl ex r g) (hg : Gl X x) (hm : X.mg x = none) (hv : bootBuiltins x = some (.type T)) (ha : QA X cl ex (e :: es) fr) (hn : autoParam (x ≠ "__name__") AutoP.a1._auto_1) (hdb : autoParam ((x == ("__debug__" : Str)) = false) AutoP.a1._auto_1)
  (he : autoParam (starEach (e :: es) X.env = (false,eval e X.env) :: starEach es X.env) AutoP.a3._auto_1) (hpl : autoParam ((backTo pos (starEach es X.env)).any (·.1) = false) AutoP.a3._auto_1) : QE X cl ex (.Call (.Name x p) (e :: es) [] pos) (eFn g fr) :=
 ⟨PE.weak (zmS hc hg hm hv ha.out hn hdb he hpl) (zpU hd)⟩
end
inductive Fl where
 | nx (ρ : En) | rt (d : D) | bk (ρ : En) | ct (ρ : En)
abbrev SV := En -> Sto -> Res Fl
def zgY (K : PySem.W.Frag) (D : Ends) (fl : Fl) (α : List Addr) (H : Hp) : Prop := match fl with
 | .nx ρ => ∀ σ,RepE K α H ρ σ -> D.nx σ H
 | .rt d => ∀ v,Rep K α H d v -> D.rt v H
 | .bk ρ => ∀ σ,RepE K α H ρ σ -> D.bk σ H
 | .ct ρ => ∀ σ,RepE K α H ρ σ -> D.ct σ H
def tDS (K : PySem.W.Frag) (cl : Str -> Addr) (ex : XD) (f : SV) : TS := fun D σ H => ∃ α ρ m,Wd K cl α m H /\ RepE K α H ρ σ /\ PQ K cl ex (f ρ m) α H fun fl α' _ H' => zgY K D fl α' H'
abbrev GV := D -> En -> Sto -> Res En
def tDG (K : PySem.W.Frag) (cl : Str -> Addr) (ex : XD) (f : GV) : TG := fun v σ H Q => ∃ α ρ m d,Wd K cl α m H /\ RepE K α H ρ σ /\ Rep K α H d v /\ PQ K cl ex (f d ρ m) α H fun ρ' α' _ H' => ∀ σ',RepE K α' H' ρ' σ' -> Q σ' H'
def tDGs (K : PySem.W.Frag) (cl : Str -> Addr) (ex : XD) (f : List D -> En -> Sto -> Res En) : TGs := fun v σ H Q => ∃ α ρ m d,Wd K cl α m H /\ RepE K α H ρ σ /\ RepL K α H d v /\ PQ K cl ex (f d ρ m) α H fun ρ' α' _ H' => ∀ σ',RepE K α' H' ρ' σ' -> Q σ' H'
def ItD (K : PySem.W.Frag) (cl : Str -> Addr) (α : List Addr) (H : Hp) (J : It) (ds : List D) : Prop :=
 ∀ (i : Nat) (α1 : List Addr) (m1 : Sto) (H1 : Hp),Ext α H α1 H1 -> Wd K cl α1 m1 H1 -> (∀ d,ds[i]? = some d -> J.go i H1 /\ ∀ x H2,J.yld i H1 x H2 -> Same H1 H2 /\ Rep K α1 H2 d x) /\ (i = ds.length -> J.stop i H1)
def tDI (K : PySem.W.Frag) (cl : Str -> Addr) (ex : XD) (f : AV) : TI := fun σ H R => ∃ α ρ m,Wd K cl α m H /\ RepE K α H ρ σ /\ PQ K cl ex (f ρ m) α H fun ds α' _ H' => ∀ J,ItD K cl α' H' J ds -> R J H'
section
variable (X : Cx) (cl : Str -> Addr) (ex : XD)
structure QS (st : Stmt) (f : SV) : Prop where
 out : PS X st (tDS X.K cl ex f)
structure QSs (st : List Stmt) (f : SV) : Prop where
 out : PSs X st (tDS X.K cl ex f)
structure QG (tg : Expr) (f : GV) : Prop where
 out : PG X tg (tDG X.K cl ex f)
structure QGs (tg : List Expr) (f : List D -> En -> Sto -> Res En) : Prop where
 out : PGs X tg (tDGs X.K cl ex f)
structure QI (tg it : Expr) (f : AV) : Prop where
 out : PI X tg it (tDI X.K cl ex f)
end
theorem PG.weak {X : Cx} {e : Expr} {t t' : TG} (h : PG X e t) (w : ∀ v σ H Q,t' v σ H Q -> t v σ H Q) : PG X e t' := fun pins s σ H v u Q I r q => h pins s σ H v u Q I r (w v σ H Q q)
theorem PGs.weak {X : Cx} {e : List Expr} {t t' : TGs} (h : PGs X e t) (w : ∀ v σ H Q,t' v σ H Q -> t v σ H Q) : PGs X e t' := fun pins s σ H v u Q I r q => h pins s σ H v u Q I r (w v σ H Q q)
theorem PI.weak {X : Cx} {tg e : Expr} {t t' : TI} (h : PI X tg e t) (w : ∀ σ H Q,t' σ H Q -> t σ H Q) : PI X tg e t' := fun pins s σ H Q I q => h pins s σ H Q I (w σ H Q q)
def zap (f g : SV) : SV := fun ρ m => (f ρ m).bind fun fl m1 => match fl with
 | .nx ρ1 => g ρ1 m1
 | fl => .ok fl m1
def zba : SV := fun ρ m => .ok (.nx ρ) m
def sBad : SV := fun _ _ => .bad
def zaE (f : EV) : SV := fun ρ m => (f ρ m).bind fun d m1 => .ok (.rt d) m1
def sRetN : SV := fun _ m => .ok (.rt .non) m
def zck (f : EV) : SV := fun ρ m => (f ρ m).bind fun _ m1 => .ok (.nx ρ) m1
def sIf (c : TV) (f g : SV) : SV := fun ρ m => (c ρ m).bind fun b m1 => if b = true then f ρ m1 else g ρ m1
def zaH (f : EV) (g : GV) : SV := fun ρ m => (f ρ m).bind fun d m1 => (g d ρ m1).bind fun ρ1 m2 => .ok (.nx ρ1) m2
def gN (i : Nat) : GV := fun d ρ m => .ok (ρ.set i (some d)) m
def zeY : List D -> En -> Sto -> Res En := fun ds ρ m => match ds with
 | [] => .ok ρ m
 | _ :: _ => .bad
def zaP (g : GV) (gs : List D -> En -> Sto -> Res En) : List D -> En -> Sto -> Res En := fun ds ρ m => match ds with
 | [] => .bad
 | d :: r => (g d ρ m).bind fun ρ1 m1 => gs r ρ1 m1
def gT (n : Nat) (gs : List D -> En -> Sto -> Res En) : GV := fun d ρ m => match d with
 | .tup ds => if ds.length = n then gs ds ρ m else .bad
 | _ => .bad
def zqP (i j : Nat) (fa : AV) : SV := fun ρ m => (fa ρ m).bind fun ds m1 => match ds with
 | [x,y] => .ok (.nx ((ρ.set i (some x)).set j (some y))) m1
 | _ => .bad
def zoU (i j k : Nat) (fa : AV) : SV := fun ρ m => (fa ρ m).bind fun ds m1 => match ds with
 | [x,y,z] => .ok (.nx (((ρ.set i (some x)).set j (some y)).set k (some z))) m1
 | _ => .bad
def zfJ (g : GV) (body : SV) : List D -> En -> Sto -> Res Fl
 | [],ρ,m => .ok (.nx ρ) m
 | d :: r,ρ,m => (g d ρ m).bind fun ρ1 m1 => (body ρ1 m1).bind fun fl m2 => match fl with
  | .nx ρ2 => zfJ g body r ρ2 m2
  | .ct ρ2 => zfJ g body r ρ2 m2
  | .bk ρ2 => .ok (.nx ρ2) m2
  | .rt d => .ok (.rt d) m2
def zia (it : AV) (g : GV) (body : SV) : SV := fun ρ m => (it ρ m).bind fun ds m1 => zfJ g body ds ρ m1
def zc8 (c : TV) (body : SV) : Nat -> En -> Sto -> Res Fl
 | 0,_,_ => .bad
 | n + 1,ρ,m => (c ρ m).bind fun b m1 => if b = true then (body ρ m1).bind fun fl m2 => match fl with
  | .nx ρ2 => zc8 c body n ρ2 m2
  | .ct ρ2 => zc8 c body n ρ2 m2
  | .bk ρ2 => .ok (.nx ρ2) m2
  | .rt d => .ok (.rt d) m2 else .ok (.nx ρ) m1
def zdE (n : Nat) (c : TV) (body : SV) : SV := fun ρ m => zc8 c body n ρ m
def zeu (g : GV) (c : TV) (el : EV) (ρ : En) : List D -> Sto -> Res (List D)
 | [],m => .ok [] m
 | d :: r,m => (g d ρ m).bind fun ρ1 m1 => (c ρ1 m1).bind fun b m2 => if b = true then (el ρ1 m2).bind fun x m3 => (zeu g c el ρ r m3).bind fun xs m4 => .ok (x :: xs) m4 else zeu g c el ρ r m2
def zda (n : Nat) (it : AV) (g : GV) (c : TV) (el : EV) : AV := fun ρ m => (it ρ m).bind fun ds m1 => if ds.length <= 1000000 then zeu g c el (ρ ++ List.replicate n none) ds m1 else .bad
def zc6 : TV := fun _ m => .ok true m
section
variable {X : Cx} {cl : Str -> Addr} {ex : XD} {a b c e tg it : Expr} {es : List Expr} {fa fb : EV} {ta tb : TV} {fr : AV} {pos : Pos} {st : Stmt} {sts sts' : List Stmt} {f g : SV} {gt : GV}
theorem zar : QSs X cl ex [] zba := ⟨PSs.weak zq6 fun D σ H hh => ex3 hh fun α ρ m W hr h => PQ.ok W h σ hr⟩
theorem zah (hq : QS X cl ex st f) : QSs X cl ex [st] f := ⟨zq5 hq.out⟩
theorem zaf (h1 : QS X cl ex st f) (h2 : QSs X cl ex sts g) : QSs X cl ex (st :: sts) (zap f g) :=
 ⟨PSs.weak (zo2 h1.out h2.out) fun D σ H hh => ex3 hh fun α ρ m W hr h => ⟨α,ρ,m,W,hr,PQ.mono (Ext.refl W) h.bind fun fl α1 m1 H1 E1 W1 q => by
  cases fl with
  | nx ρ1 => exact fun σ1 hr1 => ⟨α1,ρ1,m1,W1,hr1,q⟩
  | rt d => exact PQ.ok W1 q
  | bk ρ1 => exact PQ.ok W1 q
  | ct ρ1 => exact PQ.ok W1 q⟩⟩
theorem zfd : QS X cl ex st sBad := ⟨PS.weak zo4 fun D σ H hh => ex3 hh fun α ρ m W hr h => h.elim⟩
theorem zak (he : QE X cl ex e fa) : QS X cl ex (.Return (some e) pos) (zaE fa) :=
 ⟨PS.weak (ps_ret he.out) fun D σ H hh => ex3 hh fun α ρ m W hr h => tD.use W hr h fun α1 m1 H1 d v E1 W1 hr1 rv h1 => PQ.ok W1 h1 v rv⟩
theorem zb0 (he : QE X cl ex e fa) (hs : autoParam (swapsWith e none pos.line X.env = pure false) AutoP.a3._auto_1) : QS X cl ex (.Expr e pos) (zck fa) :=
 ⟨PS.weak (zq8 he.out hs) fun D σ H hh => ex3 hh fun α ρ m W hr h => tD.use W hr h fun α1 m1 H1 d v E1 W1 hr1 rv h1 => PQ.ok W1 h1 _ hr1⟩
theorem zaJ (hc : QT X cl ex c ta) (ha : QSs X cl ex sts f) (hb : QSs X cl ex sts' g) : QS X cl ex (.If c sts sts' pos) (sIf ta f g) :=
 ⟨PS.weak (ps_if hc.out ha.out hb.out) fun D σ H hh => ex3 hh fun α ρ m W hr h => tDT.use W hr h fun α1 m1 H1 d E1 W1 hr1 h1 => by
  cases d with
  | true => exact ⟨α1,ρ,m1,W1,hr1,h1⟩
  | false => exact ⟨α1,ρ,m1,W1,hr1,h1⟩⟩
theorem zau {i : Nat} {x : Str} (hN : X.N.Nodup) (hi : X.N[i]? = some x) (hx : Loc X.env.scope x) (hf : autoParam (X.fn x = true ∨ X.env.scope.names.lookup x = some .local) AutoP.a0._auto_1) : QG X cl ex (.Name x pos) (gN i) :=
 ⟨PG.weak (zrn hN hi hx hf) fun v σ H Q ⟨α,ρ,m,d,W,hr,rv,h⟩ => PQ.ok W h _ (hr.set rv)⟩
theorem zcn : QGs X cl ex [] zeY := ⟨PGs.weak zrm fun v σ H Q ⟨α,ρ,m,d,W,hr,rv,h⟩ => by
 cases d with
 | nil => rw [RepL] at rv; exact ⟨rv,PQ.ok W h _ hr⟩
 | cons d r => exact h.elim⟩
theorem zaC {gs : List D -> En -> Sto -> Res En} (h1 : QG X cl ex e gt) (h2 : QGs X cl ex es gs) (hs : autoParam ((assignEach (e :: es) X.env).map (·.2) = assign e X.env :: (assignEach es X.env).map (·.2)) AutoP.a3._auto_1) : QGs X cl ex (e :: es) (zaP gt gs) :=
 ⟨PGs.weak (zo7 h1.out h2.out hs) fun v σ H Q ⟨α,ρ,m,d,W,hr,rv,h⟩ => by
  cases d with
  | nil => exact h.elim
  | cons d r =>
   rw [RepL] at rv
   obtain ⟨v0,vr,rfl,r0,rr⟩ := rv
   refine ⟨v0,vr,rfl,α,ρ,m,d,W,hr,r0,PQ.mono (Ext.refl W) (show PQ X.K cl ex ((gt d ρ m).bind fun ρ1 m1 => gs r ρ1 m1) α H _ from h).bind fun ρ1 α1 m1 H1 E1 W1 q σ1 hr1 => ?_⟩
   exact ⟨α1,ρ1,m1,r,W1,hr1,rr.mono W E1,q⟩⟩
theorem zdP {k n : Nat} {gs : List D -> En -> Sto -> Res En} (hc : X.calm = true) (hq : QGs X cl ex es gs) (hn : autoParam ((assignEach es X.env).length = n) AutoP.a3._auto_1) (hst : autoParam ((assignEach es X.env).findIdx? (·.1) = none) AutoP.a3._auto_1) : QG X cl ex (.Tuple es k pos) (gT n gs) :=
 ⟨PG.weak (pg_tup hc hq.out hn hst) fun v σ H Q ⟨α,ρ,m,d,W,hr,rv,h⟩ => by
  cases d with
  | tup ds =>
   rw [Rep] at rv
   obtain ⟨a,xs,e,h1,h2⟩ := rv
   obtain ⟨hl,h3⟩ := PQ.if h
   exact ⟨a,xs,e,h1.sq,by rw [<- h2.length]; exact hl,α,ρ,m,ds,W,hr,h2,h3⟩
  | _ => exact h.elim⟩
theorem zmi {t : TE} {u : TG} (h1 : ∀ σ H Q,tD X.K cl ex fa σ H Q -> t σ H Q) (h2 : ∀ v σ H Q,tDG X.K cl ex gt v σ H Q -> u v σ H Q) : ∀ D σ H,tDS X.K cl ex (zaH fa gt) D σ H -> tAsg t u D σ H := fun D σ H hh => ex3 hh fun α ρ m W hr h =>
 h1 σ H _ (tD.use W hr h fun α1 m1 H1 d v E1 W1 hr1 rv q => h2 v σ H1 _ ⟨α1,ρ,m1,d,W1,hr1,rv,PQ.mono (Ext.refl W1) q.bind fun ρ2 α2 m2 H2 E2 W2 q2 => PQ.ok W2 q2⟩)
theorem zam {i : Nat} {x : Str} {pos' : Pos} (hN : X.N.Nodup) (hi : X.N[i]? = some x) (hx : Loc X.env.scope x) (he : QE X cl ex e fa) (hs : autoParam (swapsWith e (some (.Name x pos')) pos.line X.env = pure false) AutoP.a3._auto_1) (hf : autoParam (X.fn x = true ∨ X.env.scope.names.lookup x = some .local) AutoP.a0._auto_1) :
  QS X cl ex (.Assign [.Name x pos'] e pos) (zaH fa (gN i)) :=
 ⟨PS.weak (ps_set hN hi hx he.out hs hf) (zmi (fun _ _ _ h => h) fun v σ H Q ⟨α,ρ,m,d,W,hr,rv,h⟩ => PQ.ok W h _ (hr.set rv))⟩
theorem zif (he : QE X cl ex e fa) (hg : QG X cl ex tg gt) (hs : autoParam (swapsWithSole [tg] e pos.line X.env = pure false) AutoP.a3._auto_1) (hw : autoParam (swappedStores [tg] e X.env = pure none) AutoP.a3._auto_1)
  (h1 : autoParam ((assignEach [tg] X.env).map (·.2) = [assign tg X.env]) AutoP.a3._auto_1) : QS X cl ex (.Assign [tg] e pos) (zaH fa gt) :=
 ⟨PS.weak (ps_asg he.out hg.out hs hw h1) (zmi (fun _ _ _ h => h) fun _ _ _ _ h => h)⟩
theorem zmH {i j : Nat} {x y : Str} {px py pt : Pos} {kt k2 pt2} (hc : X.calm = true) (hN : X.N.Nodup) (hi : X.N[i]? = some x) (hj : X.N[j]? = some y) (hij : i ≠ j)
  (hx : X.env.scope.names.lookup x = some .local) (hy : X.env.scope.names.lookup y = some .local) (ha : QA X cl ex [a,b] fr)
  (hw : swappedStores [.Tuple [.Name x px,.Name y py] kt pt] (.Tuple [a,b] k2 pt2) X.env = pure (some [x,y]))
  (hs : autoParam (swapsWithSole [.Tuple [.Name x px,.Name y py] kt pt] (.Tuple [a,b] k2 pt2) pos.line X.env = pure false) AutoP.a3._auto_1) :
  QS X cl ex (.Assign [.Tuple [.Name x px,.Name y py] kt pt] (.Tuple [a,b] k2 pt2) pos) (zqP i j fr) :=
 ⟨PS.weak (ps_par hc hN hi hj hij hx hy ha.out hw hs) fun D σ H hh => ex3 hh fun α ρ m W hr h => tDA.use W hr h fun α1 m1 H1 d v E1 W1 hr1 rv h1 => by
  match d,rv,h1 with
  | [p,q],rv,h1 =>
   rw [RepL] at rv
   obtain ⟨v1,r1,rfl,a1,rv⟩ := rv
   rw [RepL] at rv
   obtain ⟨v2,r2,rfl,a2,rv⟩ := rv
   rw [RepL] at rv
   subst rv
   exact ⟨v1,v2,rfl,PQ.ok W1 h1 _ ((hr1.set a1).set a2)⟩
  | [],_,h1 => exact h1.elim
  | [_],_,h1 => exact h1.elim
  | _ :: _ :: _ :: _,_,h1 => exact h1.elim⟩
theorem zmG {i j k : Nat} {x y z : Str} {px py pz pt : Pos} {kt k2 pt2} (hc : X.calm = true) (hN : X.N.Nodup) (hi : X.N[i]? = some x) (hj : X.N[j]? = some y) (hk : X.N[k]? = some z) (hij : i ≠ j) (hik : i ≠ k) (hjk : j ≠ k)
  (hx : X.env.scope.names.lookup x = some .local) (hy : X.env.scope.names.lookup y = some .local) (hz : X.env.scope.names.lookup z = some .local) (ha : QA X cl ex [a,b,c] fr)
  (hw : swappedStores [.Tuple [.Name x px,.Name y py,.Name z pz] kt pt] (.Tuple [a,b,c] k2 pt2) X.env = pure (some [x,y,z]))
  (hs : autoParam (swapsWithSole [.Tuple [.Name x px,.Name y py,.Name z pz] kt pt] (.Tuple [a,b,c] k2 pt2) pos.line X.env = pure false) AutoP.a3._auto_1) :
  QS X cl ex (.Assign [.Tuple [.Name x px,.Name y py,.Name z pz] kt pt] (.Tuple [a,b,c] k2 pt2) pos) (zoU i j k fr) :=
 ⟨PS.weak (zq7 hc hN hi hj hk hij hik hjk hx hy hz ha.out hw hs) fun D σ H hh => ex3 hh fun α ρ m W hr h => tDA.use W hr h fun α1 m1 H1 d v E1 W1 hr1 rv h1 => by
  match d,rv,h1 with
  | [p,q,o],rv,h1 =>
   rw [RepL] at rv
   obtain ⟨v1,r1,rfl,a1,rv⟩ := rv
   rw [RepL] at rv
   obtain ⟨v2,r2,rfl,a2,rv⟩ := rv
   rw [RepL] at rv
   obtain ⟨v3,r3,rfl,a3,rv⟩ := rv
   rw [RepL] at rv
   subst rv
   exact ⟨v1,v2,v3,rfl,PQ.ok W1 h1 _ (((hr1.set a1).set a2).set a3)⟩
  | [],_,h1 => exact h1.elim
  | [_],_,h1 => exact h1.elim
  | [_,_],_,h1 => exact h1.elim
  | _ :: _ :: _ :: _ :: _,_,h1 => exact h1.elim⟩
theorem zcs (hp : PassesOwn (model X.prog X.w) X.A X.env X.xe) (hc : X.calm = true) (hi : QI X cl ex tg it fr) (hg : QG X cl ex tg gt) (hb : QSs X cl ex sts f)
  (hs : autoParam (∀ x,foldedSetIterable it X.env x = pure x) AutoP.a2._auto_1) : QS X cl ex (.For tg it sts [] pos) (zia fr gt f) :=
 ⟨PS.weak (ps_for hp hc hi.out hg.out hb.out hs) fun D σ H hh => ex3 hh fun α ρ m W hr h => ⟨α,ρ,m,W,hr,PQ.mono (Ext.refl W) h.bind fun ds α1 m1 H1 E1 W1 q J hJ => by
  refine ⟨fun i n σ2 H2 => n = ds.length - i /\ i <= ds.length /\ ∃ α2 m2 ρ2,Ext α1 H1 α2 H2 /\ Wd X.K cl α2 m2 H2 /\ RepE X.K α2 H2 ρ2 σ2 /\ PQ X.K cl ex (zfJ gt f (ds.drop i) ρ2 m2) α2 H2 fun fl α' _ H' => zgY X.K D fl α' H',
   ⟨ds.length,by simp,Nat.zero_le _,α1,m1,ρ,Ext.refl W1,W1,hr.mono W E1,q⟩,?_⟩
  rintro i n σ2 H2 ⟨rfl,hi,α2,m2,ρ2,E2,W2,hr2,q2⟩
  obtain ⟨go,stop⟩ := hJ i α2 m2 H2 E2 W2
  by_cases hlt : i < ds.length
  ·have hd : ds[i]? = some ds[i] := by simp [hlt]
   obtain ⟨g1,g2⟩ := go _ hd
   rw [List.drop_eq_getElem_cons hlt,zfJ] at q2
   refine .inr ⟨g1,fun σ3 H3 => ∃ α3 m3 ρ3,Ext α1 H1 α3 H3 /\ Wd X.K cl α3 m3 H3 /\ RepE X.K α3 H3 ρ3 σ3 /\ PQ X.K cl ex (zfJ gt f (ds.drop (i + 1)) ρ3 m3) α3 H3 fun fl α' _ H' => zgY X.K D fl α' H',
    fun σ3 H3 ⟨α3,m3,ρ3,E3,W3,hr3,q3⟩ => ⟨ds.length - (i + 1),by omega,rfl,hlt,α3,m3,ρ3,E3,W3,hr3,q3⟩,fun x H3 y => ?_⟩
   obtain ⟨sm,rx⟩ := g2 x H3 y
   have Es := Ext.of_same W2 sm
   have W3 := W2.same sm
   refine ⟨α2,ρ2,m2,ds[i],W3,hr2.mono W2 Es,rx,PQ.mono Es q2.bind fun ρ4 α4 m4 H4 E4 W4 q4 σ4 hr4 => ?_⟩
   have E04 := E2.trans (Es.trans E4)
   refine ⟨α4,ρ4,m4,W4,hr4,PQ.mono (Ext.refl W4) q4.bind fun fl α5 m5 H5 E5 W5 q5 => ?_⟩
   cases fl with
   | nx ρ5 => exact fun σ5 hr5 => ⟨α5,m5,ρ5,E04.trans E5,W5,hr5,q5⟩
   | ct ρ5 => exact fun σ5 hr5 => ⟨α5,m5,ρ5,E04.trans E5,W5,hr5,q5⟩
   | bk ρ5 => exact PQ.ok W5 q5
   | rt d => exact PQ.ok W5 q5
  ·have e : i = ds.length := by omega
   subst e
   rw [List.drop_of_length_le (Nat.le_refl _),zfJ] at q2
   exact .inl ⟨stop rfl,PQ.ok W2 q2 σ2 hr2⟩⟩⟩
theorem zhn {n : Nat} (hp : PassesOwn (model X.prog X.w) X.A X.env X.xe) (hc : QT X cl ex c ta) (hb : QSs X cl ex sts f) : QS X cl ex (.While c sts [] pos) (zdE n ta f) :=
 ⟨PS.weak (zo3 hp hc.out hb.out) fun D σ H hh => ex3 hh fun α ρ m W hr h => by
  refine ⟨fun k σ2 H2 => ∃ α2 m2 ρ2,Wd X.K cl α2 m2 H2 /\ RepE X.K α2 H2 ρ2 σ2 /\ PQ X.K cl ex (zc8 ta f k ρ2 m2) α2 H2 fun fl α' _ H' => zgY X.K D fl α' H',⟨n,α,m,ρ,W,hr,h⟩,?_⟩
  rintro k σ2 H2 ⟨α2,m2,ρ2,W2,hr2,q2⟩
  cases k with
  | zero => exact q2.elim
  | succ k =>
   rw [zc8] at q2
   refine tDT.use W2 hr2 q2 fun α3 m3 H3 b E3 W3 hr3 q3 => ?_
   cases b with
   | false => exact PQ.ok W3 q3 σ2 hr3
   | true =>
    refine ⟨fun σ4 H4 => ∃ α4 m4 ρ4,Wd X.K cl α4 m4 H4 /\ RepE X.K α4 H4 ρ4 σ4 /\ PQ X.K cl ex (zc8 ta f k ρ4 m4) α4 H4 fun fl α' _ H' => zgY X.K D fl α' H',fun σ4 H4 q4 => ⟨k,Nat.lt_succ_self _,q4⟩,?_⟩
    refine ⟨α3,ρ2,m3,W3,hr3,PQ.mono (Ext.refl W3) q3.bind fun fl α5 m5 H5 E5 W5 q5 => ?_⟩
    cases fl with
    | nx ρ5 => exact fun σ5 hr5 => ⟨α5,m5,ρ5,W5,hr5,q5⟩
    | ct ρ5 => exact fun σ5 hr5 => ⟨α5,m5,ρ5,W5,hr5,q5⟩
    | bk ρ5 => exact PQ.ok W5 q5
    | rt d => exact PQ.ok W5 q5⟩
end
end MD
namespace L2
open PySem PySem.Spec PyProof.Rows
abbrev CQ := PySem.W.Frag -> Hp -> Addr -> List V -> Prop
structure SeqKd (c : CQ) (IsS : Heap -> Addr -> Array Value -> Prop) (IsI : Heap -> Addr -> Addr -> Nat -> Prop) : Prop where
 obj : ∀ h it l i,IsI h it l i -> ∃ o,h.get? it = some o /\ ∀ v,o.data ≠ .cell v
 kp : ∀ (h h' : Heap) it l i,IsI h it l i -> (∀ o,h.get? it = some o -> h'.get? it = some o) -> IsI h' it l i
 seq : ∀ (X : Cx) (pins : List (Addr × Obj)) (σ : St) (H : Hp) (s : Shared) (l : Addr) (xs : List V),Inv X pins σ H s -> c X.K H l xs -> ∃ its : List Value,Vals xs its /\ IsS s.heap l its.toArray
 dr : ∀ (P : Program) (w : World) (A : Around),A.handled = none -> ∀ (it l : Addr),l ≠ it -> ∀ items : Array Value,Draws P w A it [it,l] items.size (fun i v => items[i]? = some v) (fun i h => IsI h it l i /\ IsS h l items)
 ne : ∀ (X : Cx) (pins : List (Addr × Obj)) (σ : St) (H : Hp) (s : Shared) (l : Addr) (xs : List V) (b : Addr),Inv X pins σ H s -> c X.K H l xs -> zd8 X pins H b -> l ≠ b
 inj : ∀ (X : Cx) (pins : List (Addr × Obj)) (σ : St) (H : Hp) (s : Shared) (l : Addr) (xs ys : List V),Inv X pins σ H s -> c X.K H l xs -> c X.K H l ys -> xs = ys
theorem zor {X : Cx} {pins : List (Addr × Obj)} {σ : St} {H : Hp} {s : Shared} {l b : Addr} {o : Obj} (I : Inv X pins σ H s) (e : X.K.lookup l = some o) (f : zd8 X pins H b) : l ≠ b := fun z => by
 subst z
 have hb : X.base.get? l = some o := I.mod.kin l o e
 rcases f.2.2.2.1 with h | h
 ·exact I.ok.noex l o hb h
 ·have h1 := Heap.lt_size hb
  have h2 := I.ok.bsz
  exact absurd (Nat.lt_of_lt_of_le h1 (Nat.le_trans h2 h)) (Nat.lt_irrefl _)
theorem rd_ne {H : Hp} {l b : Addr} {u : HO} (h : Rd H l u) (n : H b = none) : l ≠ b := by
 rcases h with h | ⟨o,h⟩
 ·exact zay h n
 ·exact zay h n
theorem sq_lst : SeqKd SqL Heap.IsList Heap.IsListIter where
 obj := seq_lst.obj
 kp := seq_lst.kp
 seq := fun X pins σ H s l xs I e => by
  obtain ⟨its,r,p,_⟩ := I.list e
  exact ⟨its,r,p.isList⟩
 dr := seq_lst.dr
 ne := fun X pins σ H s l xs b I e f => by
  rcases e with e | ⟨o,_,_,e,_⟩
  ·exact rd_ne e f.1
  ·exact zor I e f
 inj := fun X pins σ H s l xs ys I => I.list_inj
theorem sq_tup : SeqKd SqT Heap.IsTuple Heap.IsTupleIter where
 obj := seq_tup.obj
 kp := seq_tup.kp
 seq := fun X pins σ H s l xs I e => by
  obtain ⟨its,r,p,_⟩ := I.tuple e
  exact ⟨its,r,p⟩
 dr := seq_tup.dr
 ne := fun X pins σ H s l xs b I e f => by
  rcases e with e | ⟨o,_,_,e,_⟩
  ·exact rd_ne e f.1
  ·exact zor I e f
 inj := fun X pins σ H s l xs ys I => I.tuple_inj
def IteQ (c : CQ) (K : PySem.W.Frag) (l : Addr) : It :=
 ⟨fun i H => ∃ xs x,c K H l xs /\ xs[i]? = some x,fun i H x H' => ∃ T y,H T = none /\ x = .ref T /\ (∀ xs,c K H l xs -> xs[i]? = some y) /\ H' = upd H T (.tup [.int (i : Int),y]),fun i H => ∃ xs,c K H l xs /\ xs.length = i⟩
theorem zlc {c : CQ} {IsS : Heap -> Addr -> Array Value -> Prop} {IsI : Heap -> Addr -> Addr -> Nat -> Prop} (S : SeqKd c IsS IsI) {P : Program} {w : World} {K : PySem.W.Frag} {elts : List Expr} {kt : Nat} {pt : Pos} {e it l : Addr} (hei : e ≠ it) :
  Turn P w K (.Tuple elts kt pt) (IteQ c K l) [e,it] e (fun i h => (∃ old,IsEnum h e it i old) /\ IsI h it l i) where
 mem := by simp
 obj := fun i h st b hb => by
  obtain ⟨⟨old,he⟩,st⟩ := st
  have q : b = e ∨ b = it := by simpa using hb
  rcases q with rfl | rfl
  ·exact ⟨_,he,fun v z => by cases z⟩
  ·exact S.obj _ _ _ _ st
 keep := fun i h h' st k => ⟨let ⟨old,he⟩ := st.1; ⟨old,k e (by simp) _ he⟩,S.kp _ _ _ _ _ st.2 fun o q => k it (by simp) o q⟩
 item := by
  intro X hP' hw hK hc i pins s σ H E I hf st hg
  subst hP' hw hK
  obtain ⟨xs,y,hl,hy⟩ := hg
  obtain ⟨its,rv,p⟩ := S.seq X pins σ H s l xs I hl
  obtain ⟨u,hu,ru⟩ := rv.get hy
  have fe := hf e (by simp)
  have fi := hf it (by simp)
  have hle : l ≠ e := S.ne X pins σ H s l xs e I hl fe
  have hli : l ≠ it := S.ne X pins σ H s l xs it I hl fi
  have hlt : i < its.toArray.size := by
   have := List.getElem?_eq_some_iff.mp hu
   simpa using this.1
  obtain ⟨⟨old,he⟩,hs⟩ := st
  have het : e < s.heap.objs.size := Heap.lt_size he
  have hit : it < s.heap.objs.size := by obtain ⟨o,q,_⟩ := S.obj _ _ _ _ hs; exact Heap.lt_size q
  refine wpAny_pyNext_enum_itemD (S.dr X.prog X.w X.A.in1 (I.ok.hd hc) it l hli its.toArray) he ⟨hs,p⟩ hlt hei (by simp [hei,Ne.symm hle]) fun x h' tk hx ho' hs' hT hsz hk => ?_
  refine ⟨.ref s.heap.objs.size,rfl,wpAny_letOwnedTupleGo_enum (s := { s with heap := h',toks := tk + 1 }) ho' fun h2 he2 hs2 => ?_⟩
  have hxu : x = u := by
   have h1 : its[i]? = some x := by simpa using hx
   rw [hu] at h1
   exact (Option.some.inj h1).symm
  subst hxu
  have hT2 : h2.get? s.heap.objs.size = some { cls := .type "tuple", data := .seq #[.int i tk,x] } := (hs2.2 _ (Nat.ne_of_gt het)).trans hT
  have new : ObjOk X.prog X.w (upd H s.heap.objs.size (.tup [.int (i : Int),y])) h2 s.heap.objs.size (.tup [.int (i : Int),y]) := ⟨(by show 2 <= sizeLine; decide),[.int i tk,x],.cons ⟨tk,rfl⟩ (.cons ru .nil),⟨_,hT2,rfl,_,rfl⟩,_,hT2,rfl⟩
  refine ⟨.ref s.heap.objs.size,_,I.turn2l fe fi (fun c o c1 c2 q => (hs2.2 c c1).trans (hk c o c1 c2 q)) (Nat.le_refl _) new,rfl,⟨s.heap.objs.size,y,I.hok.fresh (Nat.le_refl _),rfl,fun us h => by rw [S.inj X pins σ H s l us xs I h hl]; exact hy,rfl⟩,⟨⟨x,by simpa using he2⟩,S.kp _ _ _ _ _ hs'.1 fun o q => (hs2.2 it (Ne.symm hei)).trans q⟩,fun b hb => ?_⟩
  have q : b = e ∨ b = it := by simpa using hb
  rcases q with rfl | rfl
  ·rw [zan (Nat.ne_of_lt het)]; exact fe.1
  ·rw [zan (Nat.ne_of_lt hit)]; exact fi.1
 done := by
  intro X hP' hw hK hc i pins s σ H E I hf st hg
  subst hP' hw hK
  obtain ⟨xs,hl,hn⟩ := hg
  obtain ⟨its,rv,p⟩ := S.seq X pins σ H s l xs I hl
  have fe := hf e (by simp)
  have fi := hf it (by simp)
  have hle : l ≠ e := S.ne X pins σ H s l xs e I hl fe
  have hli : l ≠ it := S.ne X pins σ H s l xs it I hl fi
  have hi : i = its.toArray.size := by rw [<- hn,rv.length]; simp
  subst hi
  have W := WalksT.enumerateD (S.dr X.prog X.w X.A.in1 (I.ok.hd hc) it l hli its.toArray) e hei (by simp [hei,Ne.symm hle]) (by simp)
  exact W.done s _ _ ⟨st.1,st.2,p⟩ fun h' tk kk => ⟨rfl,I.turn2 fe fi fun c o c1 c2 q => kk c o (by simp [c1,c2]) q⟩
 self := fun A i s Q E st q => by
  obtain ⟨⟨old,he⟩,_⟩ := st
  exact wpAny_pyIter_enum he q
def zqf (c : CQ) (K : PySem.W.Frag) (te : TE) : TI := fun σ H R => te σ H fun x H1 => ∃ l xs,[x] = [V.ref l] /\ c K H1 l xs /\ R (IteQ c K l) H1
section
variable {X : Cx} {elts : List Expr} {kt : Nat} {pt : Pos} {e : Expr} {te : TE} {p pos : Pos}
theorem zi1 {c : CQ} {IsS : Heap -> Addr -> Array Value -> Prop} {IsI : Heap -> Addr -> Addr -> Nat -> Prop} (S : SeqKd c IsS IsI) {pins : List (Addr × Obj)} {σ : St} {H : Hp} {s : Shared} {R : It -> Hp -> Prop} {l : Addr} {h' : Heap} (I : Inv X pins σ H s)
  (he : IsEnum h' (s.heap.objs.size + 1) s.heap.objs.size 0 .none) (hi : IsI h' s.heap.objs.size l 0) (k : ∀ b o,s.heap.get? b = some o -> h'.get? b = some o) (q : R (IteQ c X.K l) H) :
  PIE X pins σ (.Tuple elts kt pt) R (.ref (s.heap.objs.size + 1)) { s with heap := h' } := by
 refine ⟨s.heap.objs.size + 1,[s.heap.objs.size + 1,s.heap.objs.size],_,_,H,rfl,I.kept (t' := s.toks) k,zlc S (Nat.ne_of_gt (Nat.lt_succ_self _)),⟨⟨.none,he⟩,hi⟩,fun b hb => ?_,q⟩
 have e : b = s.heap.objs.size + 1 ∨ b = s.heap.objs.size := by simpa using hb
 rcases e with rfl | rfl
 ·exact I.fpOk (Nat.le_succ _) (I.hok.fresh (Nat.le_succ _))
 ·exact I.fpOk (Nat.le_refl _) (I.hok.fresh (Nat.le_refl _))
theorem zmQ (hg : Gl X "enumerate") (hm : X.mg "enumerate" = none) (he : PE X e te) (hs : autoParam (starEach [e] X.env = [(false,eval e X.env)]) AutoP.a3._auto_1) : PI X (.Tuple elts kt pt) (.Call (.Name "enumerate" p) [e] [] pos) (zqf SqL X.K te) := by
 intro pins s σ H R I h
 refine Call_ (zdW I hg hm boot_enumerate (PyProof.Rows.callWith_type1 (thn (zb2 he zfx hs pos pins s σ H (fun zs H1 => ∃ l xs,zs = [V.ref l] /\ SqL X.K H1 l xs /\ R (IteQ SqL X.K l) H1) I h) fun us s1 ⟨vs,H1,I1,r1,q1⟩ => ?_) hs rfl))
 obtain ⟨l,xs,rfl,hl,q⟩ := q1
 obtain ⟨u,rfl,ru⟩ := zbY r1
 cases ru
 obtain ⟨its,rv,pl⟩ := sq_lst.seq X pins σ H1 s1 l xs I1 hl
 exact call_enumerate_list pl fun h' hen hit _ k => wpAny_pyIter_enum hen (zi1 sq_lst I1 hen hit k q)
theorem zmP (hg : Gl X "enumerate") (hm : X.mg "enumerate" = none) (he : PE X e te) (hs : autoParam (starEach [e] X.env = [(false,eval e X.env)]) AutoP.a3._auto_1) : PI X (.Tuple elts kt pt) (.Call (.Name "enumerate" p) [e] [] pos) (zqf SqT X.K te) := by
 intro pins s σ H R I h
 refine Call_ (zdW I hg hm boot_enumerate (PyProof.Rows.callWith_type1 (thn (zb2 he zfx hs pos pins s σ H (fun zs H1 => ∃ l xs,zs = [V.ref l] /\ SqT X.K H1 l xs /\ R (IteQ SqT X.K l) H1) I h) fun us s1 ⟨vs,H1,I1,r1,q1⟩ => ?_) hs rfl))
 obtain ⟨l,xs,rfl,hl,q⟩ := q1
 obtain ⟨u,rfl,ru⟩ := zbY r1
 cases ru
 obtain ⟨its,rv,pl⟩ := sq_tup.seq X pins σ H1 s1 l xs I1 hl
 exact zd5 pl fun h' hen hit k => wpAny_pyIter_enum hen (zi1 sq_tup I1 hen hit k q)
end
def zl1 (c1 c2 : CQ) (K : PySem.W.Frag) (l1 l2 : Addr) : It :=
 ⟨fun i H => ∃ xs ys x y,c1 K H l1 xs /\ c2 K H l2 ys /\ xs[i]? = some x /\ ys[i]? = some y,fun i H v H' => ∃ T x y,H T = none /\ v = .ref T /\ (∀ xs,c1 K H l1 xs -> xs[i]? = some x) /\ (∀ ys,c2 K H l2 ys -> ys[i]? = some y) /\ H' = upd H T (.tup [x,y]),fun i H => ∃ xs,c1 K H l1 xs /\ xs.length = i⟩
theorem zmc {c1 c2 : CQ} {IsS1 IsS2 : Heap -> Addr -> Array Value -> Prop} {IsI1 IsI2 : Heap -> Addr -> Addr -> Nat -> Prop} (S1 : SeqKd c1 IsS1 IsI1) (S2 : SeqKd c2 IsS2 IsI2) {P : Program} {w : World} {K : PySem.W.Frag} {elts : List Expr} {kt : Nat} {pt : Pos} {z TI TO i1 i2 l1 l2 : Addr} (nTO : TO ≠ z) (nTI : TI ≠ z) (n1z : i1 ≠ z) (n2z : i2 ≠ z) (nTT : TI ≠ TO) (n1I : TI ≠ i1) (n2I : TI ≠ i2) (n1T : i1 ≠ TO) (n2T : i2 ≠ TO) (n12 : i1 ≠ i2) :
  Turn P w K (.Tuple elts kt pt) (zl1 c1 c2 K l1 l2) [z,TI,TO,i1,i2] z (fun i h => IsZip h z TI TO .none /\ IsPair h TI (.ref i1) (.ref i2) /\ (∃ a b,IsPair h TO a b) /\ IsI1 h i1 l1 i /\ IsI2 h i2 l2 i) where
 mem := by simp
 obj := fun i h st b hb => by
  obtain ⟨h1,h2,⟨a,c,h3⟩,h4,h5⟩ := st
  simp only [List.mem_cons,List.not_mem_nil,or_false] at hb
  rcases hb with rfl | rfl | rfl | rfl | rfl
  ·exact ⟨_,h1,fun v z => by cases z⟩
  ·exact ⟨_,h2,fun v z => by cases z⟩
  ·exact ⟨_,h3,fun v z => by cases z⟩
  ·exact S1.obj _ _ _ _ h4
  ·exact S2.obj _ _ _ _ h5
 keep := fun i h h' st k => by
  obtain ⟨h1,h2,⟨a,c,h3⟩,h4,h5⟩ := st
  exact ⟨k _ (by simp) _ h1,k _ (by simp) _ h2,⟨a,c,k _ (by simp) _ h3⟩,S1.kp _ _ _ _ _ h4 fun o q => k _ (by simp) o q,S2.kp _ _ _ _ _ h5 fun o q => k _ (by simp) o q⟩
 item := by
  intro X hP' hw hK hc i pins s σ H E I hf st hg
  subst hP' hw hK
  obtain ⟨xs,ys,x,y,hl1,hl2,hx,hy⟩ := hg
  obtain ⟨its1,rv1,p1⟩ := S1.seq X pins σ H s l1 xs I hl1
  obtain ⟨its2,rv2,p2⟩ := S2.seq X pins σ H s l2 ys I hl2
  obtain ⟨u1,hu1,ru1⟩ := rv1.get hx
  obtain ⟨u2,hu2,ru2⟩ := rv2.get hy
  have fz := hf z (by simp)
  have fT := hf TO (by simp)
  have f1 := hf i1 (by simp)
  have f2 := hf i2 (by simp)
  have hlt1 : i < its1.toArray.size := by
   have := List.getElem?_eq_some_iff.mp hu1
   simpa using this.1
  have hlt2 : i < its2.toArray.size := by
   have := List.getElem?_eq_some_iff.mp hu2
   simpa using this.1
  obtain ⟨h1,h2,⟨a,c,h3⟩,h4,h5⟩ := st
  have a1 := S1.ne X pins σ H s l1 xs z I hl1 fz
  have a2 := S1.ne X pins σ H s l1 xs TO I hl1 fT
  have a3 := S1.ne X pins σ H s l1 xs i1 I hl1 f1
  have a4 := S1.ne X pins σ H s l1 xs i2 I hl1 f2
  have b1 := S2.ne X pins σ H s l2 ys z I hl2 fz
  have b2 := S2.ne X pins σ H s l2 ys TO I hl2 fT
  have b3 := S2.ne X pins σ H s l2 ys i1 I hl2 f1
  have b4 := S2.ne X pins σ H s l2 ys i2 I hl2 f2
  refine zcx (S1.dr X.prog X.w X.A.in1 (I.ok.hd hc) i1 l1 a3 its1.toArray) (S2.dr X.prog X.w X.A.in1 (I.ok.hd hc) i2 l2 b4 its2.toArray) h1 h2 h3 ⟨h4,p1⟩ ⟨h5,p2⟩ hlt1 hlt2 nTO nTI n1z n2z n1T n2T
   (by simp [Ne.symm n1z,Ne.symm a1]) (by simp [Ne.symm n1T,Ne.symm a2]) (by simp [Ne.symm n12,Ne.symm a4]) (by simp [Ne.symm n2z,Ne.symm b1]) (by simp [Ne.symm n2T,Ne.symm b2]) (by simp [n12,Ne.symm b3]) fun v1 v2 h' tk e1 e2 q1 q2 q3 q4 q5 q6 q7 => ?_
  refine ⟨.ref s.heap.objs.size,rfl,wpAny_letOwnedTupleGo_zip (s := { s with heap := h',toks := tk }) q1 fun g r1 r2 => ?_⟩
  have hv1 : v1 = u1 := by
   have h1 : its1[i]? = some v1 := by simpa using e1
   rw [hu1] at h1
   exact (Option.some.inj h1).symm
  have hv2 : v2 = u2 := by
   have h1 : its2[i]? = some v2 := by simpa using e2
   rw [hu2] at h1
   exact (Option.some.inj h1).symm
  subst hv1 hv2
  have hzt : z < s.heap.objs.size := Heap.lt_size h1
  have hT2 : g.get? s.heap.objs.size = some { cls := .type "tuple", data := .seq #[v1,v2] } := (r2.2 _ (Nat.ne_of_gt hzt)).trans q5
  have new : ObjOk X.prog X.w (upd H s.heap.objs.size (.tup [x,y])) g s.heap.objs.size (.tup [x,y]) := ⟨(by show 2 <= sizeLine; decide),[v1,v2],.cons ru1 (.cons ru2 .nil),⟨_,hT2,rfl,_,rfl⟩,_,hT2,rfl⟩
  refine ⟨.ref s.heap.objs.size,_,I.turnNl (ch := [z,TO,i1,i2]) (fun b hb => hf b ?_) (fun c o hc q => (r2.2 c ?_).trans (q7 c o ?_ ?_ ?_ ?_ q)) (Nat.le_refl _) new,rfl,⟨s.heap.objs.size,x,y,I.hok.fresh (Nat.le_refl _),rfl,(fun us h => by rw [S1.inj X pins σ H s l1 us xs I h hl1]; exact hx),(fun us h => by rw [S2.inj X pins σ H s l2 us ys I h hl2]; exact hy),rfl⟩,⟨r1,(r2.2 _ nTI).trans (q7 _ _ nTI nTT n1I n2I h2),⟨_,_,(r2.2 _ nTO).trans q2⟩,S1.kp _ _ _ _ _ q3.1 fun o q => (r2.2 _ n1z).trans q,S2.kp _ _ _ _ _ q4.1 fun o q => (r2.2 _ n2z).trans q⟩,fun b hb => ?_⟩
  ·simp only [List.mem_cons,List.not_mem_nil,or_false] at hb ⊢
   rcases hb with h | h | h | h <;> simp [h]
  ·exact fun z => hc (by simp [z])
  ·exact fun z => hc (by simp [z])
  ·exact fun z => hc (by simp [z])
  ·exact fun z => hc (by simp [z])
  ·exact fun z => hc (by simp [z])
  ·have fb := hf b hb
   have lt : b < s.heap.objs.size := by
    simp only [List.mem_cons,List.not_mem_nil,or_false] at hb
    rcases hb with rfl | rfl | rfl | rfl | rfl
    ·exact hzt
    ·exact Heap.lt_size h2
    ·exact Heap.lt_size h3
    ·obtain ⟨o,q,_⟩ := S1.obj _ _ _ _ h4; exact Heap.lt_size q
    ·obtain ⟨o,q,_⟩ := S2.obj _ _ _ _ h5; exact Heap.lt_size q
   rw [zan (Nat.ne_of_lt lt)]
   exact fb.1
 done := by
  intro X hP' hw hK hc i pins s σ H E I hf st hg
  subst hP' hw hK
  obtain ⟨xs,hl1,hn⟩ := hg
  obtain ⟨its1,rv1,p1⟩ := S1.seq X pins σ H s l1 xs I hl1
  have fz := hf z (by simp)
  have f1 := hf i1 (by simp)
  obtain ⟨h1,h2,⟨a,c,h3⟩,h4,h5⟩ := st
  have a1 := S1.ne X pins σ H s l1 xs z I hl1 fz
  have a3 := S1.ne X pins σ H s l1 xs i1 I hl1 f1
  have hi : i = its1.toArray.size := by rw [<- hn,rv1.length]; simp
  subst hi
  refine zcz (S1.dr X.prog X.w X.A.in1 (I.ok.hd hc) i1 l1 a3 its1.toArray) h1 h2 h3 ⟨h4,p1⟩ nTO n1z (by simp [Ne.symm n1z,Ne.symm a1]) fun h' k => ⟨rfl,I.turnN (t' := s.toks) (ch := [z,TO,i1,i2]) (fun b hb => hf b ?_) fun c o hc q => k c o (fun z => hc (by simp [z])) (fun z => hc (by simp [z])) (fun z => hc (by simp [z])) (fun z => hc (by simp [z])) q⟩
  simp only [List.mem_cons,List.not_mem_nil,or_false] at hb ⊢
  rcases hb with h | h | h | h <;> simp [h]
 self := fun A i s Q E st q => wpAny_pyIter_zip st.1 q
def iZipQ (c1 c2 : CQ) (K : PySem.W.Frag) (te1 te2 : TE) : TI := fun σ H R => te1 σ H fun x H1 => te2 σ H1 fun y H2 => ∃ l1 l2 xs ys,[x,y] = [V.ref l1,V.ref l2] /\ c1 K H2 l1 xs /\ c2 K H2 l2 ys /\ R (zl1 c1 c2 K l1 l2) H2
section
variable {X : Cx} {elts : List Expr} {kt : Nat} {pt : Pos} {e1 e2 : Expr} {te1 te2 : TE} {p pos : Pos}
theorem zkd {c1 c2 : CQ} {IsS1 IsS2 : Heap -> Addr -> Array Value -> Prop} {IsI1 IsI2 : Heap -> Addr -> Addr -> Nat -> Prop} (S1 : SeqKd c1 IsS1 IsI1) (S2 : SeqKd c2 IsS2 IsI2) {pins : List (Addr × Obj)} {σ : St} {H1 : Hp} {s1 : Shared} {R : It -> Hp -> Prop} {l1 l2 : Addr} {h' : Heap} (I1 : Inv X pins σ H1 s1)
  (a1 : IsZip h' (s1.heap.objs.size + 4) (s1.heap.objs.size + 2) (s1.heap.objs.size + 3) .none) (a2 : IsPair h' (s1.heap.objs.size + 2) (.ref s1.heap.objs.size) (.ref (s1.heap.objs.size + 1))) (a3 : IsPair h' (s1.heap.objs.size + 3) .none .none)
  (a4 : IsI1 h' s1.heap.objs.size l1 0) (a5 : IsI2 h' (s1.heap.objs.size + 1) l2 0) (k : ∀ b o,s1.heap.get? b = some o -> h'.get? b = some o) (q : R (zl1 c1 c2 X.K l1 l2) H1) :
  PIE X pins σ (.Tuple elts kt pt) R (.ref (s1.heap.objs.size + 4)) { s1 with heap := h' } := by
 have nn : ∀ i j : Nat,i ≠ j -> s1.heap.objs.size + i ≠ s1.heap.objs.size + j := fun i j h e => h (by exact Nat.add_left_cancel e)
 refine ⟨s1.heap.objs.size + 4,[s1.heap.objs.size + 4,s1.heap.objs.size + 2,s1.heap.objs.size + 3,s1.heap.objs.size,s1.heap.objs.size + 1],_,_,H1,rfl,I1.kept (t' := s1.toks) k,zmc S1 S2 (nn 3 4 (by decide)) (nn 2 4 (by decide)) (nn 0 4 (by decide)) (nn 1 4 (by decide)) (nn 2 3 (by decide)) (nn 2 0 (by decide)) (nn 2 1 (by decide)) (nn 0 3 (by decide)) (nn 1 3 (by decide)) (nn 0 1 (by decide)),⟨a1,a2,⟨_,_,a3⟩,a4,a5⟩,fun b hb => ?_,q⟩
 have le : s1.heap.objs.size <= b := by
  simp only [List.mem_cons,List.not_mem_nil,or_false] at hb
  rcases hb with h | h | h | h | h
  ·rw [h]; exact Nat.le_add_right _ _
  ·rw [h]; exact Nat.le_add_right _ _
  ·rw [h]; exact Nat.le_add_right _ _
  ·rw [h]; exact Nat.le_refl _
  ·rw [h]; exact Nat.le_add_right _ _
 exact I1.fpOk le (I1.hok.fresh le)
theorem zmN (hg : Gl X "zip") (hm : X.mg "zip" = none) (he1 : PE X e1 te1) (he2 : PE X e2 te2) (hs : autoParam (starEach [e1,e2] X.env = (false,eval e1 X.env) :: starEach [e2] X.env) AutoP.a3._auto_1) (hs2 : autoParam (starEach [e2] X.env = [(false,eval e2 X.env)]) AutoP.a3._auto_1) : PI X (.Tuple elts kt pt) (.Call (.Name "zip" p) [e1,e2] [] pos) (iZipQ SqT SqL X.K te1 te2) := by
 intro pins s σ H R I h
 refine Call_ (zdW I hg hm boot_zip (PyProof.Rows.callWith_type1 (thn (zb2 he1 (zb2 he2 zfx hs2) hs pos pins s σ H (fun zs H1 => ∃ l1 l2 xs ys,zs = [V.ref l1,V.ref l2] /\ SqT X.K H1 l1 xs /\ SqL X.K H1 l2 ys /\ R (zl1 SqT SqL X.K l1 l2) H1) I h) fun us s1 ⟨vs,H1,I1,r1,q1⟩ => ?_) hs (by rw [hs2]; rfl)))
 obtain ⟨l1,l2,xs,ys,rfl,hl1,hl2,q⟩ := q1
 obtain ⟨u,v,rfl,ru,rv⟩ := zl9 r1
 cases ru
 cases rv
 obtain ⟨its1,rv1,p1⟩ := sq_tup.seq X pins σ H1 s1 l1 xs I1 hl1
 obtain ⟨its2,rv2,p2⟩ := sq_lst.seq X pins σ H1 s1 l2 ys I1 hl2
 exact zj5 p1 p2 fun h' a1 a2 a3 a4 a5 k => wpAny_pyIter_zip a1 (zkd sq_tup sq_lst I1 a1 a2 a3 a4 a5 k q)
theorem zmM (hg : Gl X "zip") (hm : X.mg "zip" = none) (he1 : PE X e1 te1) (he2 : PE X e2 te2) (hs : autoParam (starEach [e1,e2] X.env = (false,eval e1 X.env) :: starEach [e2] X.env) AutoP.a3._auto_1) (hs2 : autoParam (starEach [e2] X.env = [(false,eval e2 X.env)]) AutoP.a3._auto_1) : PI X (.Tuple elts kt pt) (.Call (.Name "zip" p) [e1,e2] [] pos) (iZipQ SqT SqT X.K te1 te2) := by
 intro pins s σ H R I h
 refine Call_ (zdW I hg hm boot_zip (PyProof.Rows.callWith_type1 (thn (zb2 he1 (zb2 he2 zfx hs2) hs pos pins s σ H (fun zs H1 => ∃ l1 l2 xs ys,zs = [V.ref l1,V.ref l2] /\ SqT X.K H1 l1 xs /\ SqT X.K H1 l2 ys /\ R (zl1 SqT SqT X.K l1 l2) H1) I h) fun us s1 ⟨vs,H1,I1,r1,q1⟩ => ?_) hs (by rw [hs2]; rfl)))
 obtain ⟨l1,l2,xs,ys,rfl,hl1,hl2,q⟩ := q1
 obtain ⟨u,v,rfl,ru,rv⟩ := zl9 r1
 cases ru
 cases rv
 obtain ⟨its1,rv1,p1⟩ := sq_tup.seq X pins σ H1 s1 l1 xs I1 hl1
 obtain ⟨its2,rv2,p2⟩ := sq_tup.seq X pins σ H1 s1 l2 ys I1 hl2
 exact zj4 p1 p2 fun h' a1 a2 a3 a4 a5 k => wpAny_pyIter_zip a1 (zkd sq_tup sq_tup I1 a1 a2 a3 a4 a5 k q)
end
end L2
set_option autoImplicit false
namespace MD
open PySem PySem.Spec PyProof.Rows L2
theorem Res.bind_assoc {α β γ : Type} (r : Res α) (k : α -> Sto -> Res β) (l : β -> Sto -> Res γ) : (r.bind k).bind l = r.bind fun a m => (k a m).bind l := by
 cases r <;> rfl
theorem Res.bind_ok' {α : Type} (r : Res α) : (r.bind fun a m => .ok a m) = r := by cases r <;> rfl
theorem RepL.append {K : PySem.W.Frag} {α : List Addr} {H : Hp} : ∀ {ds es : List D} {vs ws : List V},RepL K α H ds vs -> RepL K α H es ws -> RepL K α H (ds ++ es) (vs ++ ws)
 | [],_,_,_,h1,h2 => by rw [RepL] at h1; subst h1; exact h2
 | _ :: _,_,_,_,h1,h2 => by
  rw [RepL] at h1
  obtain ⟨v,r,rfl,a,b⟩ := h1
  rw [List.cons_append,RepL]
  exact ⟨v,r ++ _,rfl,a,RepL.append b h2⟩
theorem RepL.one {K : PySem.W.Frag} {α : List Addr} {H : Hp} {d : D} {v : V} (h : Rep K α H d v) : RepL K α H [d] [v] := by
 rw [RepL]
 exact ⟨v,[],rfl,h,by rw [RepL]⟩
theorem RepL.get {K : PySem.W.Frag} {α : List Addr} {H : Hp} : ∀ {ds : List D} {vs : List V} {i : Nat} {d : D},RepL K α H ds vs -> ds[i]? = some d -> ∃ v,vs[i]? = some v /\ Rep K α H d v
 | [],_,_,_,_,e => by simp at e
 | _ :: _,_,0,_,h,e => by
  rw [RepL] at h
  obtain ⟨v,r,rfl,a,b⟩ := h
  simp at e
  subst e
  exact ⟨v,rfl,a⟩
 | _ :: _,_,i + 1,d,h,e => by
  rw [RepL] at h
  obtain ⟨v,r,rfl,a,b⟩ := h
  obtain ⟨w,h1,h2⟩ := RepL.get (i := i) (d := d) b (by simpa using e)
  exact ⟨w,by simpa using h1,h2⟩
section
variable {K : PySem.W.Frag} {cl : Str -> Addr} {ex : XD} {gt : GV} {ta : TV} {fa : EV} {fr : AV}
theorem zoG {n : Nat} {fin : List V -> Hp -> Prop} {σ : L2.St} {H : Hp} (h : ∃ α ρ m,Wd K cl α m H /\ RepE K α H ρ σ /\ PQ K cl ex (zda n fr gt ta fa ρ m) α H fun ds α' _ H' => ∀ vs,RepL K α' H' ds vs -> fin vs H') :
  tComp n (tDI K cl ex fr) (tDG K cl ex gt) (tDT K cl ex ta) (tD K cl ex fa) fin σ H := by
 obtain ⟨α,ρ,m,W,hr,h⟩ := h
 refine ⟨α,ρ,m,W,hr,PQ.mono (Ext.refl W) h.bind fun ds α1 m1 H1 E1 W1 q J hJ => ?_⟩
 obtain ⟨hk,q⟩ := PQ.if q
 have hr1 := hr.mono W E1
 refine zoj (k := ds.length) (fun i ys H2 => ∃ α2 m2 done,Ext α1 H1 α2 H2 /\ Wd K cl α2 m2 H2 /\ RepL K α2 H2 done ys /\ done.length <= i /\ PQ K cl ex ((zeu gt ta fa (ρ ++ List.replicate n none) (ds.drop i) m2).bind fun xs m4 => .ok (done ++ xs) m4) α2 H2 fun ds α' _ H' => ∀ vs,RepL K α' H' ds vs -> fin vs H') hk ?_ ?_ ?_ ?_
 ·refine ⟨α1,m1,[],Ext.refl W1,W1,by rw [RepL],Nat.le_refl _,?_⟩
  simp only [List.nil_append,List.drop_zero,Res.bind_ok']
  exact q
 ·rintro i ys H2 ⟨_,_,done,_,_,r,l,_⟩
  rw [<- r.length]
  exact l
 ·rintro i ys H2 hi ⟨α2,m2,done,E2,W2,r2,l2,q2⟩
  have hd : ds[i]? = some ds[i] := by simp [hi]
  obtain ⟨g1,g2⟩ := (hJ i α2 m2 H2 E2 W2).1 _ hd
  refine ⟨g1,fun x H3 y => ?_⟩
  obtain ⟨sm,rx⟩ := g2 x H3 y
  have Es := Ext.of_same W2 sm
  have W3 := W2.same sm
  rw [List.drop_eq_getElem_cons hi,zeu,Res.bind_assoc] at q2
  have E23 := E2.trans Es
  refine ⟨α2,ρ ++ List.replicate n none,m2,ds[i],W3,(hr1.mono W1 E23).more n,rx,PQ.mono Es q2.bind fun ρ4 α4 m4 H4 E4 W4 q4 σ4 hr4 => ?_⟩
  rw [Res.bind_assoc] at q4
  refine tDT.use W4 hr4 q4 fun α5 m5 H5 b E5 W5 hr5 q5 => ?_
  have E45 := E4.trans E5
  cases b with
  | false => exact ⟨α5,m5,done,E23.trans E45,W5,(r2.mono W2 Es).mono W3 E45,Nat.le_succ_of_le l2,q5⟩
  | true =>
   have q5' : PQ K cl ex (((fa ρ4 m5).bind fun x m3 => (zeu gt ta fa (ρ ++ List.replicate n none) (ds.drop (i + 1)) m3).bind fun xs m4 => .ok (x :: xs) m4).bind fun xs m4 => .ok (done ++ xs) m4) α5 H5 fun ds α' _ H' => ∀ vs,RepL K α' H' ds vs -> fin vs H' := q5
   rw [Res.bind_assoc] at q5'
   refine tD.use W5 hr5 q5' fun α6 m6 H6 d v E6 W6 hr6 rv q6 => ?_
   rw [Res.bind_assoc] at q6
   refine ⟨α6,m6,done ++ [d],E23.trans (E45.trans E6),W6,RepL.append (((r2.mono W2 Es).mono W3 E45).mono W5 E6) (RepL.one rv),by rw [List.length_append]; show done.length + 1 <= i + 1; omega,?_⟩
   simp only [List.append_assoc,List.singleton_append]
   exact q6
 ·rintro ys H2 ⟨α2,m2,done,E2,W2,r2,l2,q2⟩
  rw [List.drop_of_length_le (Nat.le_refl _),zeu] at q2
  refine ⟨(hJ ds.length α2 m2 H2 E2 W2).2 rfl,?_⟩
  have q3 : PQ K cl ex (.ok (done ++ []) m2) α2 H2 fun ds α' _ H' => ∀ vs,RepL K α' H' ds vs -> fin vs H' := q2
  rw [List.append_nil] at q3
  exact PQ.ok W2 q3 ys r2
end
def gL1 (ds : List D) (m : Sto) : Res D := .ok (.lst ds) m
def zeR (z : Str) : List D := (List.range z.cps.size).map fun i => .str ⟨#[z.cps.getD i 0]⟩
def zj9 (d : D) (m : Sto) : Res (List D) := match d with
 | .tup ds => .ok ds m
 | .lst ds => .ok ds m
 | .str z => .ok (zeR z) m
 | .scr ds => .ok ds m
 | _ => .bad
def aIt (fa : EV) : AV := fun ρ m => (fa ρ m).bind zj9
def zc9 (lo : Int) (n : Nat) : List D := (List.range n).map fun i => .int (lo + (i : Nat))
def zqS (ds : List D) (m : Sto) : Res (List D) := match ds with
 | [.int j] => if -(2 ^ 62) <= j /\ j < 2 ^ 62 then .ok (zc9 0 j.toNat) m else .bad
 | _ => .bad
theorem zmw : ∃ f : List D -> Sto -> Res (List D),f = zqS := ⟨_,rfl⟩
def zll : List D -> Sto -> Res (List D) := Classical.choose zmw
theorem zmx : zll = zqS := Classical.choose_spec zmw
def zl4 (g : List D -> Sto -> Res (List D)) (fr : AV) : AV := fun ρ m => (fr ρ m).bind g
def zbS (i : Nat) : List D -> List D
 | [] => []
 | d :: r => .tup [.int i,d] :: zbS (i + 1) r
def asSq2 (d : D) (m : Sto) : Res (List D) := match d with
 | .tup ds => .ok ds m
 | .lst ds => .ok ds m
 | _ => .bad
def zl0 (fa : EV) : AV := fun ρ m => (fa ρ m).bind fun d m1 => (asSq2 d m1).bind fun ds m2 => .ok (zbS 0 ds) m2
def zjn : List D -> List D -> List D
 | x :: xs,y :: ys => .tup [x,y] :: zjn xs ys
 | _,_ => []
def zipD3 : List D -> List D -> List D -> List D
 | x :: xs,y :: ys,z :: zs => .tup [x,y,z] :: zipD3 xs ys zs
 | _,_,_ => []
def zoz (x y : D) (m : Sto) : Res (List D) := match x,y with
 | .tup xs,.tup ys => if xs.length <= ys.length then .ok (zjn xs ys) m else .bad
 | .tup xs,.lst ys => if xs.length <= ys.length then .ok (zjn xs ys) m else .bad
 | _,_ => .bad
def aZip (fa fb : EV) : AV := fun ρ m => (fa ρ m).bind fun x m1 => (fb ρ m1).bind fun y m2 => zoz x y m2
def zip3 (x y z : D) (m : Sto) : Res (List D) := match x,y,z with
 | .tup xs,.tup ys,.tup zs => if xs.length <= ys.length /\ xs.length <= zs.length then .ok (zipD3 xs ys zs) m else .bad
 | _,_,_ => .bad
def aZip3 (fa fb fc : EV) : AV := fun ρ m => (fa ρ m).bind fun x m1 => (fb ρ m1).bind fun y m2 => (fc ρ m2).bind fun z m3 => zip3 x y z m3
theorem zi3 : ∀ (ds : List D) (k i : Nat) (d : D),(zbS k ds)[i]? = some d -> ∃ e,ds[i]? = some e /\ d = .tup [.int ((k + i : Nat) : Int),e]
 | [],k,i,d,h => by simp [zbS] at h
 | e :: r,k,0,d,h => by
  simp [zbS] at h
  exact ⟨e,rfl,h.symm⟩
 | e :: r,k,i + 1,d,h => by
  obtain ⟨f,h1,h2⟩ := zi3 r (k + 1) i d (by simpa [zbS] using h)
  refine ⟨f,by simpa using h1,?_⟩
  rw [h2,show k + 1 + i = k + (i + 1) by omega]
theorem zi2 : ∀ (ds : List D) (k : Nat),(zbS k ds).length = ds.length
 | [],_ => rfl
 | _ :: r,k => by rw [zbS,List.length_cons,List.length_cons,zi2 r]
theorem zkf : ∀ (xs ys : List D) (i : Nat) (d : D),(zjn xs ys)[i]? = some d -> ∃ a b,xs[i]? = some a /\ ys[i]? = some b /\ d = .tup [a,b]
 | [],_,i,d,h => by simp [zjn] at h
 | _ :: _,[],i,d,h => by simp [zjn] at h
 | a :: r,b :: s,0,d,h => by
  simp [zjn] at h
  exact ⟨a,b,rfl,rfl,h.symm⟩
 | a :: r,b :: s,i + 1,d,h => by
  obtain ⟨x,y,h1,h2,h3⟩ := zkf r s i d (by simpa [zjn] using h)
  exact ⟨x,y,by simpa using h1,by simpa using h2,h3⟩
theorem zke : ∀ (xs ys : List D),xs.length <= ys.length -> (zjn xs ys).length = xs.length
 | [],_,_ => by simp [zjn]
 | _ :: _,[],h => by simp at h
 | _ :: r,_ :: s,h => by rw [zjn,List.length_cons,List.length_cons,zke r s (by simpa using h)]
section
variable {X : Cx} {N0 : List Str} {cl : Str -> Addr} {ex : XD} {a b c e tg it : Expr} {es ifs : List Expr} {fa fb fc : EV} {ta tb : TV} {fr : AV} {pos p : Pos} {gt : GV} {scope : Scope} {xs : List Str} {clo : List (Str × Addr)}
theorem zcC (hc : X.calm = true) (hx : X.xe = fun _ _ => False) (S : CompOk X N0 scope xs clo) (hi : QI X cl ex tg it fr)
  (hg : ∀ C s H fp,QG (X.comp N0 scope xs clo C s H fp) cl ex tg gt) (hf : ∀ C s H fp,PIf (X.comp N0 scope xs clo C s H fp) ifs (tDT X.K cl ex ta)) (he : ∀ C s H fp,QE (X.comp N0 scope xs clo C s H fp) cl ex e fa)
  (hs : autoParam (∀ x,foldedSetIterable it X.env x = pure x) AutoP.a2._auto_1) : QE X cl ex (.ListComp e [⟨tg,it,ifs,0⟩] scope pos) (eFn gL1 (zda xs.length fr gt ta fa)) :=
 ⟨PE.weak (zrr (g := tDG X.K cl ex gt) (tf := tDT X.K cl ex ta) (te := tD X.K cl ex fa) hc hx S hi.out (fun C s H fp => (hg C s H fp).out) hf (fun C s H fp => (he C s H fp).out) hs) fun σ H Q hh => ex3 hh fun α ρ m W hr h => zoG ⟨α,ρ,m,W,hr,PQ.mono (Ext.refl W) h.bind fun ds α1 m1 H1 E1 W1 q vs rv p hp => PQ.okS W1 (Same.new hp) q _ (zcm W1 hp rv)⟩⟩
theorem zcB : PIf X [] (tDT X.K cl ex zc6) := fun pins s σ H Q I hh => ex3 hh fun α ρ m W hr h => zri pins s σ H Q I (PQ.ok W h)
theorem zhq (hq : QT X cl ex c ta) : PIf X [c] (tDT X.K cl ex ta) := zrh hq.out
theorem PI.or {t t' : TI} (h : PI X tg it t) (h' : PI X tg it t') : PI X tg it fun σ H R => t σ H R ∨ t' σ H R := fun pins s σ H R I q => q.elim (h pins s σ H R I) (h' pins s σ H R I)
end
section
variable {K : PySem.W.Frag} {cl : Str -> Addr} {ex : XD} {α α' : List Addr} {m m1 : Sto} {H H' : Hp} {ρ : En} {σ : L2.St}
theorem tD.at {f : EV} {d : D} {Q : VK} (W : Wd K cl α m H) (hr : RepE K α H ρ σ) (hf : f ρ m = .ok d m1) (hQ : ∀ α1 H1 v,Ext α H α1 H1 -> Wd K cl α1 m1 H1 -> RepE K α1 H1 ρ σ -> Rep K α1 H1 d v -> Q v H1) : tD K cl ex f σ H Q :=
 ⟨α,ρ,m,W,hr,by rw [hf]; exact fun α1 H1 E1 W1 v rv => hQ α1 H1 v E1 W1 (hr.mono W E1) rv⟩
theorem tDA.at {f : AV} {d : List D} {Q : List V -> Hp -> Prop} (W : Wd K cl α m H) (hr : RepE K α H ρ σ) (hf : f ρ m = .ok d m1) (hQ : ∀ α1 H1 v,Ext α H α1 H1 -> Wd K cl α1 m1 H1 -> RepE K α1 H1 ρ σ -> RepL K α1 H1 d v -> Q v H1) : tDA K cl ex f σ H Q :=
 ⟨α,ρ,m,W,hr,by rw [hf]; exact fun α1 H1 E1 W1 v rv => hQ α1 H1 v E1 W1 (hr.mono W E1) rv⟩
theorem tD.exc {f : EV} {τ : Type} {c : Exc} {k : D -> Sto -> Res τ} {R : RD τ} {Q : VK} (W : Wd K cl α m H) (hr : RepE K α H ρ σ) (hf : f ρ m = .exc c m1) (q : PQ K cl ex ((f ρ m).bind k) α H R) : tD K cl ex f σ H Q :=
 ⟨α,ρ,m,W,hr,by rw [hf] at q ⊢; exact q⟩
theorem tDA.exc {f : AV} {τ : Type} {c : Exc} {k : List D -> Sto -> Res τ} {R : RD τ} {Q : List V -> Hp -> Prop} (W : Wd K cl α m H) (hr : RepE K α H ρ σ) (hf : f ρ m = .exc c m1) (q : PQ K cl ex ((f ρ m).bind k) α H R) : tDA K cl ex f σ H Q :=
 ⟨α,ρ,m,W,hr,by rw [hf] at q ⊢; exact q⟩
theorem itd_l {l : Addr} {ds : List D} {vs : List V} (W : Wd K cl α m H) (n : l ∉ α) (h : Rd H l (.lst vs)) (r : RepL K α H ds vs) : ItD K cl α H (Itl K l) ds := fun i α1 m1 H1 E1 W1 => by
 have sq : SqL K H1 l vs := .inl (E1.rd h n)
 refine ⟨fun d e => ?_,fun e => ⟨vs,sq,by rw [e,r.length]; exact Nat.le_refl _⟩⟩
 obtain ⟨v,h1,h2⟩ := (r.mono W E1).get e
 refine ⟨⟨vs,v,sq,h1⟩,fun x H2 y => ?_⟩
 obtain ⟨rfl,y⟩ := y
 have := y vs sq
 rw [h1] at this
 cases this
 exact ⟨Same.refl _,h2⟩
theorem itd_s {l : Addr} {ds : List D} {vs : List V} (W : Wd K cl α m H) (h : LstAt K α H l vs) (r : RepL K α H ds vs) : ItD K cl α H (Itl K l) ds := fun i α1 m1 H1 E1 W1 => by
 have sq : SqL K H1 l vs := ((E1.kp W).lstAt h).sq
 refine ⟨fun d e => ?_,fun e => ⟨vs,sq,by rw [e,r.length]; exact Nat.le_refl _⟩⟩
 obtain ⟨v,h1,h2⟩ := (r.mono W E1).get e
 refine ⟨⟨vs,v,sq,h1⟩,fun x H2 y => ?_⟩
 obtain ⟨rfl,y⟩ := y
 have := y vs sq
 rw [h1] at this
 cases this
 exact ⟨Same.refl _,h2⟩
theorem itd_t {l : Addr} {ds : List D} {vs : List V} (W : Wd K cl α m H) (h : SqT K H l vs) (r : RepL K α H ds vs) : ItD K cl α H (Itt K l) ds := fun i α1 m1 H1 E1 W1 => by
 have sq : SqT K H1 l vs := E1.sqt W h
 refine ⟨fun d e => ?_,fun e => ⟨vs,sq,by rw [e,r.length]; exact Nat.le_refl _⟩⟩
 obtain ⟨v,h1,h2⟩ := (r.mono W E1).get e
 refine ⟨⟨vs,v,sq,h1⟩,fun x H2 y => ?_⟩
 obtain ⟨rfl,y⟩ := y
 have := y vs sq
 rw [h1] at this
 cases this
 exact ⟨Same.refl _,h2⟩
theorem itd_f {f : Nat -> V} {g : Nat -> D} {n : Nat} (hg : ∀ i α H,Rep K α H (g i) (f i)) : ItD K cl α H (Itf f n) ((List.range n).map g) := fun i α1 m1 H1 E1 W1 => by
 refine ⟨fun d e => ?_,fun e => by rw [List.length_map,List.length_range] at e; exact e⟩
 obtain ⟨hi,e⟩ := List.getElem?_eq_some_iff.mp e
 rw [List.length_map,List.length_range] at hi
 simp only [List.getElem_map,List.getElem_range] at e
 subst e
 refine ⟨hi,fun x H2 y => ?_⟩
 obtain ⟨rfl,rfl⟩ := y
 exact ⟨Same.refl _,hg _ _ _⟩
theorem itd_r {lo : Int} {n : Nat} : ItD K cl α H (Itr lo n) (zc9 lo n) := fun i α1 m1 H1 E1 W1 => by
 unfold zc9
 refine ⟨fun d e => ?_,fun e => by rw [List.length_map,List.length_range] at e; exact Nat.le_of_eq e.symm⟩
 obtain ⟨hi,e⟩ := List.getElem?_eq_some_iff.mp e
 rw [List.length_map,List.length_range] at hi
 simp only [List.getElem_map,List.getElem_range] at e
 subst e
 refine ⟨hi,fun x H2 y => ?_⟩
 obtain ⟨rfl,rfl⟩ := y
 exact ⟨Same.refl _,by rw [Rep]⟩
theorem zbo {T : Addr} {ds : List D} {vs : List V} (W : Wd K cl α m H) (hT : H T = none) (r : RepL K α H ds vs) : Rep K α (upd H T (.tup vs)) (.tup ds) (.ref T) := by
 rw [Rep]
 exact ⟨T,vs,rfl,.inl zax,r.mono W (Ext.of_same W (Same.new hT))⟩
theorem RepL.two {d e : D} {v w : V} (h : Rep K α H d v) (h' : Rep K α H e w) : RepL K α H [d,e] [v,w] := RepL.append (RepL.one h) (RepL.one h')
def zow (K : PySem.W.Frag) (cl : Str -> Addr) (c : CQ) (α : List Addr) (H : Hp) (l : Addr) (vs : List V) : Prop := ∀ α1 m1 H1,Ext α H α1 H1 -> Wd K cl α1 m1 H1 -> c K H1 l vs
theorem itd_e {c : CQ} {l : Addr} {ds : List D} {vs : List V} (W : Wd K cl α m H) (h : zow K cl c α H l vs) (r : RepL K α H ds vs) : ItD K cl α H (IteQ c K l) (zbS 0 ds) := fun i α1 m1 H1 E1 W1 => by
 have sq := h α1 m1 H1 E1 W1
 refine ⟨fun d e => ?_,fun e => ⟨vs,sq,by rw [e,zi2,r.length]⟩⟩
 obtain ⟨f,h1,rfl⟩ := zi3 ds 0 i d e
 obtain ⟨v,h2,h3⟩ := (r.mono W E1).get h1
 refine ⟨⟨vs,v,sq,h2⟩,fun x H2 y => ?_⟩
 obtain ⟨T,y,hT,rfl,hy,rfl⟩ := y
 have := hy vs sq
 rw [h2] at this
 cases this
 refine ⟨Same.new hT,zbo W1 hT (RepL.two (by rw [Rep,Nat.zero_add]) h3)⟩
theorem itd_z {c1 c2 : CQ} {l1 l2 : Addr} {xs ys : List D} {vs us : List V} (W : Wd K cl α m H) (h : zow K cl c1 α H l1 vs) (h' : zow K cl c2 α H l2 us) (r : RepL K α H xs vs) (r' : RepL K α H ys us) (hl : xs.length <= ys.length) : ItD K cl α H (zl1 c1 c2 K l1 l2) (zjn xs ys) := fun i α1 m1 H1 E1 W1 => by
 have sq := h α1 m1 H1 E1 W1
 have sq' := h' α1 m1 H1 E1 W1
 refine ⟨fun d e => ?_,fun e => ⟨vs,sq,by rw [e,zke _ _ hl,r.length]⟩⟩
 obtain ⟨x,y,h1,h2,rfl⟩ := zkf xs ys i d e
 obtain ⟨v,h3,h4⟩ := (r.mono W E1).get h1
 obtain ⟨u,h5,h6⟩ := (r'.mono W E1).get h2
 refine ⟨⟨vs,us,v,u,sq,sq',h3,h5⟩,fun x H2 y => ?_⟩
 obtain ⟨T,x,y,hT,rfl,hx,hy,rfl⟩ := y
 have e1 := hx vs sq
 have e2 := hy us sq'
 rw [h3] at e1
 rw [h5] at e2
 cases e1
 cases e2
 exact ⟨Same.new hT,zbo W1 hT (RepL.two h4 h6)⟩
theorem zg6 {l : Addr} {vs : List V} (W : Wd K cl α m H) (h : SqT K H l vs) : zow K cl SqT α H l vs := fun α1 m1 H1 E1 W1 => E1.sqt W h
theorem zmk {l : Addr} {vs : List V} (n : l ∉ α) (h : Rd H l (.lst vs)) : zow K cl SqL α H l vs := fun α1 m1 H1 E1 W1 => .inl (E1.rd h n)
end
section
variable {X : Cx} {cl : Str -> Addr} {ex : XD} {a b c e tg it : Expr} {es ifs : List Expr} {fa fb fc : EV} {ta tb : TV} {fr : AV} {pos p : Pos} {gt : GV}
theorem zdO (hq : QE X cl ex e fa) : QI X cl ex tg e (aIt fa) :=
 ⟨PI.weak (PI.or (zrk hq.out) (PI.or (pi_tup hq.out) (pi_txt hq.out))) fun σ H R hh => ex3 hh fun α ρ m W hr q => by
  unfold aIt at q
  cases hf : fa ρ m with
  | bad => rw [hf] at q; exact q.elim
  | exc c m1 => exact .inl (tD.exc W hr hf q)
  | ok d m1 =>
   rw [hf] at q
   cases d with
   | lst ds =>
    refine .inl (tD.at W hr hf fun α1 H1 v E1 W1 hr1 rv => ?_)
    rw [Rep] at rv
    obtain ⟨l,vs,rfl,n,h1,h2⟩ := rv
    exact ⟨l,rfl,⟨vs,.inl h1⟩,q α1 H1 E1 W1 _ (itd_l W1 n h1 h2)⟩
   | tup ds =>
    refine .inr (.inl (tD.at W hr hf fun α1 H1 v E1 W1 hr1 rv => ?_))
    rw [Rep] at rv
    obtain ⟨l,vs,rfl,h1,h2⟩ := rv
    exact ⟨l,rfl,⟨vs,h1.sq⟩,q α1 H1 E1 W1 _ (itd_t W1 h1.sq h2)⟩
   | str z =>
    refine .inr (.inr (tD.at W hr hf fun α1 H1 v E1 W1 hr1 rv => ?_))
    rw [Rep] at rv
    exact ⟨z,rv,q α1 H1 E1 W1 _ (itd_f fun i α H => by rw [Rep]; rfl)⟩
   | scr ds =>
    refine .inl (tD.at W hr hf fun α1 H1 v E1 W1 hr1 rv => ?_)
    rw [Rep] at rv
    obtain ⟨l,vs,rfl,h1,h2⟩ := rv
    exact ⟨l,rfl,⟨vs,h1.sq⟩,q α1 H1 E1 W1 _ (itd_s W1 h1 h2)⟩
   | _ => exact q.elim⟩
theorem zdn (hg : Gl X "range") (hm : X.mg "range" = none) (ha : QA X cl ex [a] fr) (hs : autoParam (starEach [a] X.env = [(false,eval a X.env)]) AutoP.a3._auto_1) : QI X cl ex tg (.Call (.Name "range" p) [a] [] pos) (zl4 zll fr) :=
 ⟨PI.weak (zmO hg hm ha.out hs) fun σ H R hh => ex3 hh fun α ρ m W hr q => tDA.use W hr q fun α1 m1 H1 d v E1 W1 hr1 rv q1 => by
  rw [zmx] at q1; unfold zqS at q1
  split at q1
  ·obtain ⟨h1,h2⟩ := PQ.if q1
   rw [RepL] at rv
   obtain ⟨v,r,rfl,a1,a2⟩ := rv
   rw [Rep] at a1
   rw [RepL] at a2
   subst a1 a2
   exact ⟨_,rfl,h1.1,h1.2,PQ.ok W1 h2 _ itd_r⟩
  ·exact q1.elim⟩
variable {elts : List Expr} {kt : Nat} {pt : Pos}
theorem zjv (hg : Gl X "enumerate") (hm : X.mg "enumerate" = none) (hq : QE X cl ex e fa) (hs : autoParam (starEach [e] X.env = [(false,eval e X.env)]) AutoP.a3._auto_1) : QI X cl ex (.Tuple elts kt pt) (.Call (.Name "enumerate" p) [e] [] pos) (zl0 fa) :=
 ⟨PI.weak (PI.or (zmQ hg hm hq.out hs) (zmP hg hm hq.out hs)) fun σ H R hh => ex3 hh fun α ρ m W hr q => by
  unfold zl0 at q
  cases hf : fa ρ m with
  | bad => rw [hf] at q; exact q.elim
  | exc c m1 => exact .inl (tD.exc W hr hf q)
  | ok d m1 =>
   rw [hf] at q
   cases d with
   | lst ds =>
    refine .inl (tD.at W hr hf fun α1 H1 v E1 W1 hr1 rv => ?_)
    rw [Rep] at rv
    obtain ⟨l,vs,rfl,n,h1,h2⟩ := rv
    exact ⟨l,vs,rfl,.inl h1,q α1 H1 E1 W1 _ (itd_e W1 (zmk n h1) h2)⟩
   | tup ds =>
    refine .inr (tD.at W hr hf fun α1 H1 v E1 W1 hr1 rv => ?_)
    rw [Rep] at rv
    obtain ⟨l,vs,rfl,h1,h2⟩ := rv
    exact ⟨l,vs,rfl,h1.sq,q α1 H1 E1 W1 _ (itd_e W1 (zg6 W1 h1.sq) h2)⟩
   | _ => exact q.elim⟩
theorem zpZ (hg : Gl X "zip") (hm : X.mg "zip" = none) (h1 : QE X cl ex a fa) (h2 : QE X cl ex b fb) (hs : autoParam (starEach [a,b] X.env = (false,eval a X.env) :: starEach [b] X.env) AutoP.a3._auto_1) (hs2 : autoParam (starEach [b] X.env = [(false,eval b X.env)]) AutoP.a3._auto_1) : QI X cl ex (.Tuple elts kt pt) (.Call (.Name "zip" p) [a,b] [] pos) (aZip fa fb) :=
 ⟨PI.weak (PI.or (zmN hg hm h1.out h2.out hs hs2) (zmM hg hm h1.out h2.out hs hs2)) fun σ H R hh => ex3 hh fun α ρ m W hr q => by
  unfold aZip at q
  cases hf : fa ρ m with
  | bad => rw [hf] at q; exact q.elim
  | exc c m1 => exact .inl (tD.exc W hr hf q)
  | ok d m1 =>
   cases hf2 : fb ρ m1 with
   | bad => rw [hf] at q; exact absurd q (by show ¬ PQ X.K cl ex ((fb ρ m1).bind _) _ _ _; rw [hf2]; exact fun z => z)
   | exc c m2 =>
    refine .inl (tD.at W hr hf fun α1 H1 v E1 W1 hr1 rv => ?_)
    rw [hf] at q
    exact tD.exc (k := fun y m2 => zoz d y m2) W1 hr1 hf2 (PQ.mono E1 q fun _ _ _ _ _ _ z => z)
   | ok d2 m2 =>
    rw [hf] at q
    have q' : PQ X.K cl ex ((fb ρ m1).bind fun y m2 => zoz d y m2) α H fun ds α' _ H' => ∀ J,ItD X.K cl α' H' J ds -> R J H' := q
    rw [hf2] at q'
    have q2 : PQ X.K cl ex (zoz d d2 m2) α H fun ds α' _ H' => ∀ J,ItD X.K cl α' H' J ds -> R J H' := q'
    unfold zoz at q2
    split at q2
    ·obtain ⟨hl,q3⟩ := PQ.if q2
     refine .inr (tD.at W hr hf fun α1 H1 v E1 W1 hr1 rv => tD.at W1 hr1 hf2 fun α2 H2 v2 E2 W2 hr2 rv2 => ?_)
     have rv := rv.mono W1 E2
     rw [Rep] at rv rv2
     obtain ⟨l1,vs,rfl,h1,r1⟩ := rv
     obtain ⟨l2,us,rfl,h2,r2⟩ := rv2
     exact ⟨l1,l2,vs,us,rfl,h1.sq,h2.sq,q3 α2 H2 (E1.trans E2) W2 _ (itd_z W2 (zg6 W2 h1.sq) (zg6 W2 h2.sq) r1 r2 hl)⟩
    ·obtain ⟨hl,q3⟩ := PQ.if q2
     refine .inl (tD.at W hr hf fun α1 H1 v E1 W1 hr1 rv => tD.at W1 hr1 hf2 fun α2 H2 v2 E2 W2 hr2 rv2 => ?_)
     have rv := rv.mono W1 E2
     rw [Rep] at rv; rw [Rep] at rv2
     obtain ⟨l1,vs,rfl,h1,r1⟩ := rv
     obtain ⟨l2,us,rfl,n,h2,r2⟩ := rv2
     exact ⟨l1,l2,vs,us,rfl,h1.sq,.inl h2,q3 α2 H2 (E1.trans E2) W2 _ (itd_z W2 (zg6 W2 h1.sq) (zmk n h2) r1 r2 hl)⟩
    ·exact q2.elim⟩
end
def ziZ (fl : Fl) (m : Sto) : Res D := match fl with
 | .nx _ => .ok .non m
 | .rt d => .ok d m
 | _ => .bad
def za8 (n : Nat) (body : SV) : List D -> Sto -> Res D := fun ds m => (body (ds.map some ++ List.replicate (n - ds.length) none) m).bind ziZ
def spD (K : PySem.W.Frag) (cl : Str -> Addr) (ex : XD) (n : Nat) (g : List D -> Sto -> Res D) : Sp := fun vs H Q _ => vs.length = n /\ ∃ α m ds,Wd K cl α m H /\ RepL K α H ds vs /\ PQ K cl ex (g ds m) α H fun d α' _ H' => ∀ v,Rep K α' H' d v -> Q v H'
theorem zlm {K : PySem.W.Frag} {α : List Addr} {H : Hp} {N : List Str} : ∀ {ds : List D} {vs : List V},RepL K α H ds vs -> RepE K α H (ds.map some ++ List.replicate (N.length - ds.length) none) (L2.start N vs) := by
 intro ds vs r
 unfold L2.start
 rw [r.length]
 refine RepE.more ⟨by rw [List.length_map,List.length_map,r.length],fun i d e => ?_⟩ _
 rw [List.getElem?_map] at e
 cases h : ds[i]? with
 | none => rw [h] at e; cases e
 | some d' =>
  rw [h] at e
  cases e
  obtain ⟨v,h1,h2⟩ := r.get h
  exact ⟨v,by rw [List.getElem?_map,h1]; rfl,h2⟩
theorem fn_d {K : PySem.W.Frag} {cl : Str -> Addr} {ex : XD} {n : Nat} {N : List Str} {body : SV} {vs : List V} {H : Hp} {Q : VK} {E : XK} (h : spD K cl ex n (za8 N.length body) vs H Q E) : tDS K cl ex body { nx := fun _ H' => Q .non H',rt := Q } (L2.start N vs) H := by
 obtain ⟨_,α,m,ds,W,r,q⟩ := h
 refine ⟨α,_,m,W,zlm r,PQ.mono (Ext.refl W) q.bind fun fl α1 m1 H1 E1 W1 q1 => ?_⟩
 cases fl with
 | nx ρ => exact fun σ _ => PQ.ok W1 q1 _ (by rw [Rep])
 | rt d => exact PQ.ok W1 q1
 | bk ρ => exact q1.elim
 | ct ρ => exact q1.elim
def X0 : XD := fun _ _ _ _ => False
theorem zq1 {X : Cx} {cl : Str -> Addr} {e : Expr} {es : List Expr} {fr : AV} {p pos : Pos} {x : Str} {k n : Nat} {f : Addr} {fd : FuncData} {ps : List Str} {g : List D -> Sto -> Res D} (F : FnOk X.prog X.w X.K X.mg X.base CX0 k f fd ps (spD X.K cl X0 n g)) (hn : n = (e :: es).length) (hr : Room k X.A) (hg : Gl X x) (hm : X.mg x = some (.ref f)) (hk : PySem.W.keepIn X.K (.ref f) = true) (hb : Binds X.K fd ps [])
  (ha : QA X cl X0 (e :: es) fr) (hlen : ∀ ρ m ds m1,fr ρ m = .ok ds m1 -> ds.length = (e :: es).length) (hdb : autoParam ((x == ("__debug__" : Str)) = false) AutoP.a1._auto_1) (he : autoParam (starEach (e :: es) X.env = (false,eval e X.env) :: starEach es X.env) AutoP.a3._auto_1) (hpl : autoParam ((backTo pos (starEach es X.env)).any (·.1) = false) AutoP.a3._auto_1) :
  QE X cl X0 (.Call (.Name x p) (e :: es) [] pos) (eFn g fr) :=
 ⟨PE.weak (zrt (E := E0) F hr hg hm hk hb .nil zpf ha.out hdb he hpl) fun σ H Q hh => ex3 hh fun α ρ m W hr h => by
  unfold eFn at h
  cases hf : fr ρ m with
  | bad => rw [hf] at h; exact h.elim
  | exc c m1 => exact tDA.exc W hr hf h
  | ok ds m1 =>
   rw [hf] at h
   refine tDA.at W hr hf fun α1 H1 v E1 W1 hr1 rv => ?_
   refine ⟨?_,α1,m1,ds,W1,by rw [List.append_nil]; exact rv,PQ.mono E1 h fun _ _ _ _ _ _ z => z⟩
   rw [List.append_nil,<- rv.length,hlen ρ m ds m1 hf,hn]⟩
theorem aNil_len : ∀ ρ m ds m1,zaj ρ m = .ok ds m1 -> ds.length = ([] : List Expr).length := fun ρ m ds m1 h => by cases h; rfl
theorem aCons_len {fa : EV} {fr : AV} {e : Expr} {es : List Expr} (h : ∀ ρ m ds m1,fr ρ m = .ok ds m1 -> ds.length = es.length) : ∀ ρ m ds m1,zac fa fr ρ m = .ok ds m1 -> ds.length = (e :: es).length := fun ρ m ds m1 q => by
 unfold zac at q
 cases hf : fa ρ m with
 | ok x m2 =>
  rw [hf] at q
  have q : ((fr ρ m2).bind fun xs m3 => Res.ok (x :: xs) m3) = .ok ds m1 := q
  cases hr : fr ρ m2 with
  | ok xs m3 => rw [hr] at q; cases q; rw [List.length_cons,List.length_cons,h ρ m2 xs _ hr]
  | _ => rw [hr] at q; cases q
 | _ => rw [hf] at q; cases q
end MD
set_option autoImplicit false
namespace L2
open PySem PySem.Spec PyProof.Rows
section
variable {X : Cx}
def rCatQ (K : PySem.W.Frag) : R2 := fun x y H Q => ∃ a b xs ys,x = .ref a /\ y = .ref b /\ MD.TupAt K H a xs /\ MD.TupAt K H b ys /\ xs.length + ys.length <= sizeLine /\ ∀ r H',MD.TupAt K H' r (xs ++ ys) -> Same H H' -> Q (.ref r) H'
end
end L2
namespace MD
open PySem PySem.Spec PyProof.Rows L2
def zbm (x y : D) (m : Sto) : Res D := match x,y with
 | .int i,.int j => .ok (.int (i + j)) m
 | .str a,.str b => if a.length + b.length <= sizeLine then .ok (.str (a ++ b)) m else .bad
 | .tup a,.tup b => if a.length + b.length <= sizeLine then .ok (.tup (a ++ b)) m else .bad
 | .lst a,.lst b => if a.length + b.length <= sizeLine then .ok (.lst (a ++ b)) m else .bad
 | _,_ => .bad
def zfl (x y : D) (m : Sto) : Res D := match x,y with
 | .int i,.int j => .ok (.int (i - j)) m
 | _,_ => .bad
def mulR (x y : D) (m : Sto) : Res D := match x,y with
 | .int i,.int j => if (-(2 ^ 64) < i /\ i < 2 ^ 64) ∨ (-(2 ^ 64) < j /\ j < 2 ^ 64) then .ok (.int (i * j)) m else .bad
 | .str z,.int n => if 0 <= n /\ n <= 1000 /\ z.length <= 1000 then .ok (.str (Txt.mul z n)) m else .bad
 | .tup [d],.int n => if 1 <= n /\ n <= 1000 then .ok (.tup (List.replicate n.toNat d)) m else .bad
 | _,_ => .bad
theorem znn : ∃ f : D -> D -> Sto -> Res D,f = mulR := ⟨_,rfl⟩
def zdh : D -> D -> Sto -> Res D := Classical.choose znn
theorem zfG : zdh = mulR := Classical.choose_spec znn
def zr9 (x y : D) (m : Sto) : Res D := match x,y with
 | .int i,.int j => if 0 < j /\ j < 2 ^ 64 then .ok (.int (i / j)) m else .bad
 | _,_ => .bad
theorem zkW : ∃ f : D -> D -> Sto -> Res D,f = zr9 := ⟨_,rfl⟩
def zhM : D -> D -> Sto -> Res D := Classical.choose zkW
theorem zkX : zhM = zr9 := Classical.choose_spec zkW
def zd9 (x y : D) (m : Sto) : Res D := match x,y with
 | .int i,.int j => if 0 < j then .ok (.int (i % j)) m else .bad
 | _,_ => .bad
def zrb (x y : D) (m : Sto) : Res D := match x,y with
 | .int i,.int j => if 0 <= j /\ j <= 1000000 /\ i.natAbs < 2 ^ 64 then .ok (.int (i ^ j.toNat)) m else .bad
 | _,_ => .bad
theorem zmJ : ∃ f : D -> D -> Sto -> Res D,f = zrb := ⟨_,rfl⟩
def zkC : D -> D -> Sto -> Res D := Classical.choose zmJ
theorem zfu : zkC = zrb := Classical.choose_spec zmJ
def shlR (x y : D) (m : Sto) : Res D := match x,y with
 | .int i,.int j => if 0 <= j /\ j <= 1000000 /\ i.natAbs < 2 ^ 64 then .ok (.int (i * 2 ^ j.toNat)) m else .bad
 | _,_ => .bad
theorem zmn : ∃ f : D -> D -> Sto -> Res D,f = shlR := ⟨_,rfl⟩
def zg8 : D -> D -> Sto -> Res D := Classical.choose zmn
theorem zmo : zg8 = shlR := Classical.choose_spec zmn
def zlG (x : D) (m : Sto) : Res D := match x with
 | .int i => .ok (.int (-i)) m
 | _ => .bad
section
variable {X : Cx} {K : PySem.W.Frag} {cl : Str -> Addr} {ex : XD}
theorem zeS {α : List Addr} {H : Hp} {i : Int} : Rep K α H (.int i) (.int i) := by rw [Rep]
theorem repS {α : List Addr} {H : Hp} {i : Str} : Rep K α H (.str i) (.str i) := by rw [Rep]
theorem zju {α : List Addr} {H : Hp} {i : Bool} : Rep K α H (.bl i) (.bl i) := by rw [Rep]
theorem repN {α : List Addr} {H : Hp} : Rep K α H .non .non := by rw [Rep]
theorem zbM : OpD K cl ex (rI0 fun i j => .int (i - j)) zfl := fun α m H x y vx vy Q W rx ry h => by
 unfold zfl at h
 split at h
 ·rw [Rep] at rx ry; exact ⟨_,_,rx,ry,PQ.ok W h _ zeS⟩
 ·exact h.elim
theorem zjL : OpD K cl ex (rI (fun _ j => 0 < j /\ j < 2 ^ 64) fun i j => .int (i / j)) zhM := fun α m H x y vx vy Q W rx ry h => by
 rw [zkX] at h; unfold zr9 at h
 split at h
 ·rw [Rep] at rx ry; obtain ⟨hc,h⟩ := PQ.if h; exact ⟨_,_,rx,ry,hc,PQ.ok W h _ zeS⟩
 ·exact h.elim
theorem zbl : OpD K cl ex (rI (fun _ j => 0 < j) fun i j => .int (i % j)) zd9 := fun α m H x y vx vy Q W rx ry h => by
 unfold zd9 at h
 split at h
 ·rw [Rep] at rx ry; obtain ⟨hc,h⟩ := PQ.if h; exact ⟨_,_,rx,ry,hc,PQ.ok W h _ zeS⟩
 ·exact h.elim
theorem zeB : OpD K cl ex (rI CPow fun i j => .int (i ^ j.toNat)) zkC := fun α m H x y vx vy Q W rx ry h => by
 rw [zfu] at h; unfold zrb at h
 split at h
 ·rw [Rep] at rx ry; obtain ⟨hc,h⟩ := PQ.if h; exact ⟨_,_,rx,ry,hc,PQ.ok W h _ zeS⟩
 ·exact h.elim
theorem zcu : OpD K cl ex (rI CPow fun i j => .int (i * 2 ^ j.toNat)) zg8 := fun α m H x y vx vy Q W rx ry h => by
 rw [zmo] at h; unfold shlR at h
 split at h
 ·rw [Rep] at rx ry; obtain ⟨hc,h⟩ := PQ.if h; exact ⟨_,_,rx,ry,hc,PQ.ok W h _ zeS⟩
 ·exact h.elim
theorem zgu : UnD K cl ex (rU fun i => .int (-i)) zlG := fun α m H x vx Q W rx h => by
 unfold zlG at h
 split at h
 ·rw [Rep] at rx; exact ⟨_,rx,PQ.ok W h _ zeS⟩
 ·exact h.elim
theorem zrD : OpR X (binaryOp .Add) (rCatQ X.K) := by
 intro pins s σ H x y v u Q I rx ry h
 obtain ⟨a,b,xs,ys,rfl,rfl,ha,hb,hz,q⟩ := h
 by_cases hx : xs = []
 ·subst hx
  cases rx
  cases ry
  obtain ⟨its,r1,p1,_⟩ := I.tuple ha.sq
  obtain ⟨its2,r2,p2,_⟩ := I.tuple hb.sq
  cases r1
  obtain ⟨⟨cls,dd,data,sl⟩,ho,hc,n,hd⟩ := id p1
  obtain ⟨⟨cls2,dd2,data2,sl2⟩,ho2,hc2,n2,hd2⟩ := id p2
  simp only at hc hd hc2 hd2
  subst hc hd hc2 hd2
  exact concat_meets ⟨_,ho,rfl⟩ ⟨_,ho2,rfl⟩ noFill_tuple_add seq_tuple_add PySem.F.slot_tuple_add PySem.F.entry_tuple_add (PySem.F.args_tuple_add_2 _ _)
   (tuple_addW0 a b #[] its2.toArray n n2 dd dd2 sl sl2 rfl) ⟨ho,ho2,⟨.ref b,H,I,rfl,q b H (by rw [List.nil_append]; exact hb) (L2.Same.refl H)⟩⟩
 ·refine zrB pins s σ H (.ref a) (.ref b) v u Q I rx ry ⟨a,b,xs,ys,rfl,rfl,ha.sq,hb.sq,hx,hz,fun e => ?_,fun _ p hp => ?_⟩
  ·subst e
   exact q a H (by rw [List.append_nil]; exact ha) (L2.Same.refl H)
  ·exact q p _ (.inl zax) (MD.Same.new hp)
def rCatR : R2 := fun x y H Q => ∃ l b xs zs,x = .ref l /\ y = .ref b /\ Rd H l (.lst xs) /\ Rd H b (.lst zs) /\ xs.length + zs.length <= sizeLine /\ ∀ p,H p = none -> Q (.ref p) (upd H p (.lst (xs ++ zs)))
theorem zrC : OpR X (binaryOp .Add) rCatR := by
 intro pins s σ H x y v u Q I rx ry h
 obtain ⟨l,b,xs,zs,rfl,rfl,hH,hB,hz,q⟩ := h
 cases rx
 cases ry
 obtain ⟨z,its,n,r,e⟩ := hH.ok I.hok
 obtain ⟨z2,its2,n2,r2,e2⟩ := hB.ok I.hok
 have hl := r.length
 have hl2 := r2.length
 refine PySem.P.add_list e e2 ?_ (by rw [List.size_toArray,List.size_toArray]; omega)
 have ea : its.toArray ++ its2.toArray = (its ++ its2).toArray := by simp
 rw [ea]
 exact ⟨.ref _,_,I.lnew (t' := s.toks) (r.append r2) (by rw [List.length_append]; omega),rfl,q _ I.fresh⟩
def rAddA (K : PySem.W.Frag) : R2 := fun x y H Q => (rI0 (fun i j => .int (i + j))) x y H Q ∨ (∃ i j,x = .str i /\ y = .str j /\ i.length + j.length <= sizeLine /\ Q (.str (i ++ j)) H) ∨ rCatQ K x y H Q ∨ rCatR x y H Q
theorem zat : OpR X (binaryOp .Add) (rAddA X.K) := OpR.or op_add (OpR.or zlr (OpR.or zrD zrC))
theorem zaz : OpD K cl ex (rAddA K) zbm := fun α m H x y vx vy Q W rx ry h => by
 unfold zbm at h
 split at h
 ·rw [Rep] at rx ry; exact .inl ⟨_,_,rx,ry,PQ.ok W h _ zeS⟩
 ·rw [Rep] at rx ry; obtain ⟨hc,h⟩ := PQ.if h; exact .inr (.inl ⟨_,_,rx,ry,hc,PQ.ok W h _ repS⟩)
 ·obtain ⟨hc,h⟩ := PQ.if h
  rw [Rep] at rx ry
  obtain ⟨a,xs,rfl,h1,r1⟩ := rx
  obtain ⟨b,ys,rfl,h2,r2⟩ := ry
  refine .inr (.inr (.inl ⟨a,b,xs,ys,rfl,rfl,h1,h2,by rw [<- r1.length,<- r2.length]; exact hc,fun r H' hr sm => ?_⟩))
  exact PQ.okS W sm h _ (by rw [Rep]; exact ⟨r,_,rfl,hr,(RepL.append r1 r2).mono W (Ext.of_same W sm)⟩)
 ·obtain ⟨hc,h⟩ := PQ.if h
  rw [Rep] at rx ry
  obtain ⟨a,xs,rfl,n1,h1,r1⟩ := rx
  obtain ⟨b,ys,rfl,n2,h2,r2⟩ := ry
  refine .inr (.inr (.inr ⟨a,b,xs,ys,rfl,rfl,h1,h2,by rw [<- r1.length,<- r2.length]; exact hc,fun p hp => ?_⟩))
  exact PQ.okS W (Same.new hp) h _ (zcm W hp (RepL.append r1 r2))
 ·exact h.elim
def rMulQ (K : PySem.W.Frag) : R2 := fun x y H Q => ∃ a v n,x = .ref a /\ y = .int n /\ TupAt K H a [v] /\ 1 <= n /\ n <= 1000 /\ ∀ r H',TupAt K H' r (List.replicate n.toNat v) -> L2.Same H H' -> Q (.ref r) H'
theorem zry : OpR X (binaryOp .Mult) (rMulQ X.K) := by
 intro pins s σ H x y v u Q I rx ry h
 obtain ⟨a,w,n,rfl,rfl,ha,n1,n2,q⟩ := h
 cases rx
 obtain ⟨t,rfl⟩ := ry
 obtain ⟨its,r1,p1,_⟩ := I.tuple ha.sq
 obtain ⟨u,rfl,ru⟩ := zbY r1
 obtain ⟨⟨cls,dd,data,sl⟩,ho,hc,k,hd⟩ := id p1
 simp only at hc hd
 subst hc hd
 refine wpAny_binaryOp_repeat_ref (by decide) ⟨_,ho,rfl⟩ (fun s' => typeIs_int s' n t) zeW F.fills_int_mul F.slot_int_rmul zib F.slot_int_index.lookup
  (call_meets F.slot_int_rmul (typeIs_int s n t) F.entry_int_rmul (F.args_int_rmul_2 _ _) (ziG n t a _ k dd sl) ⟨ho,rfl,⟨_,ho,rfl⟩,?_⟩)
 by_cases e : n = 1
 ·subst e
  exact call_meets F.slot_tuple_mul ⟨_,ho,rfl⟩ F.entry_tuple_mul (F.args_tuple_mul_2 _ _) (zoD a u t k dd sl) ⟨ho,⟨.ref a,H,I,rfl,q a H ha (L2.Same.refl H)⟩⟩
 ·refine call_meets F.slot_tuple_mul ⟨_,ho,rfl⟩ F.entry_tuple_mul (F.args_tuple_mul_2 _ _) (zoC a u n t k dd sl (by omega) n2) ⟨ho,?_⟩
  rw [zkU]
  have z : (List.replicate n.toNat w).length <= sizeLine := by
   rw [List.length_replicate]
   have : sizeLine = 16777216 := by decide
   omega
  exact ⟨.ref s.heap.objs.size,upd H s.heap.objs.size (.tup (List.replicate n.toNat w)),I.laid (t' := s.toks) (fun b o e => Heap.get?_push_of_some _ e) (Nat.le_refl _) ⟨z,List.replicate n.toNat u,zkg ru _,⟨_,Heap.get?_push_size _ rfl,rfl,0,rfl⟩,_,Heap.get?_push_size _ rfl,rfl⟩,rfl,q _ _ (.inl zax) (Same.new (I.hok.fresh (Nat.le_refl _)))⟩
theorem zjN {z : Str} {n : Int} (h : 0 <= n /\ n <= 1000 /\ z.length <= 1000) : MulOk z n := by
 obtain ⟨h0,h1,h2⟩ := h
 refine ⟨by simp; omega,fun h3 _ => ?_,fun h3 _ => ?_⟩
 ·have h4 : (1000 : Int) <= (2 ^ 63 - 1) / n := (Int.le_ediv_iff_mul_le (by omega)).mpr (by omega)
  omega
 ·have h6 : z.length * n.toNat <= 1000 * 1000 := Nat.mul_le_mul h2 (by omega)
  have h7 := sizeLine_eq
  unfold Builtin.Str.tooLong
  simp
  omega
def rMulA (K : PySem.W.Frag) : R2 := fun x y H Q => (rI CMul fun i j => .int (i * j)) x y H Q ∨ (∃ z n,x = .str z /\ y = .int n /\ MulOk z n /\ Q (.str (Txt.mul z n)) H) ∨ rMulQ K x y H Q
theorem zaV : OpR X (binaryOp .Mult) (rMulA X.K) := OpR.or op_mul (OpR.or zlq zry)
theorem RepL.rep {α : List Addr} {H : Hp} {d : D} {v : V} (h : Rep K α H d v) : ∀ n : Nat,RepL K α H (List.replicate n d) (List.replicate n v)
 | 0 => by simp [RepL]
 | n + 1 => by
  rw [List.replicate_succ,List.replicate_succ,RepL]
  exact ⟨v,_,rfl,h,RepL.rep h n⟩
theorem zbn : OpD K cl ex (rMulA K) zdh := fun α m H x y vx vy Q W rx ry h => by
 rw [zfG] at h; unfold mulR at h
 split at h
 ·rw [Rep] at rx ry; obtain ⟨hc,h⟩ := PQ.if h; exact .inl ⟨_,_,rx,ry,hc,PQ.ok W h _ zeS⟩
 ·rw [Rep] at rx; rw [Rep] at ry; obtain ⟨hc,h⟩ := PQ.if h; exact .inr (.inl ⟨_,_,rx,ry,zjN hc,PQ.ok W h _ repS⟩)
 ·obtain ⟨hc,h⟩ := PQ.if h
  rw [Rep] at rx
  rw [Rep] at ry
  obtain ⟨a,xs,rfl,h1,r1⟩ := rx
  rw [RepL] at r1
  obtain ⟨v,r,rfl,rv,r2⟩ := r1
  rw [RepL] at r2
  subst r2
  refine .inr (.inr ⟨a,v,_,rfl,ry,h1,hc.1,hc.2,fun r H' hr sm => ?_⟩)
  exact PQ.okS W sm h _ (by rw [Rep]; exact ⟨r,_,rfl,hr,(RepL.rep rv _).mono W (Ext.of_same W sm)⟩)
 ·exact h.elim
end
mutual
def py : D -> PyData
 | .bl b => .bool b
 | .int i => .int i
 | .str x => .str x
 | .tup ds => .tuple (pyL ds)
 | .lst ds => .list (pyL ds)
 | _ => .none
def pyL : List D -> List PyData
 | [] => []
 | d :: r => py d :: pyL r
end
mutual
def zge : D -> Bool
 | .non => true
 | .bl _ => true
 | .int _ => true
 | .str _ => true
 | .tup ds => pyOkL ds
 | .lst ds => pyOkL ds
 | _ => false
def pyOkL : List D -> Bool
 | [] => true
 | d :: r => zge d && pyOkL r
end
def zea (d : D) : Bool := zge d && SeqAt.shaped (py d)
def eqB (x y : D) : Option Bool := match x,y with
 | .int i,.int j => some (decide (i = j))
 | .str a,.str b => some (decide (a = b))
 | .bl a,.bl b => some (decide (a = b))
 | .non,.non => some true
 | .non,.int _ => some false
 | .non,.str _ => some false
 | .non,.bl _ => some false
 | .int _,.non => some false
 | .str _,.non => some false
 | .bl _,.non => some false
 | .int _,.str _ => some false
 | .str _,.int _ => some false
 | .bl _,.str _ => some false
 | .str _,.bl _ => some false
 | x,y => if zea x && zea y then some (PyData.eqv (py x) (py y)) else none
def rs (m : Sto) (d : D) : D := match d with
 | .ob k => match m[k]? with
  | some (.lst xs) => .lst xs
  | _ => .ob k
 | d => d
def eqD (x y : D) (m : Sto) : Res D := match eqB (rs m x) (rs m y) with
 | some b => .ok (.bl b) m
 | none => .bad
def neD (x y : D) (m : Sto) : Res D := match eqB (rs m x) (rs m y) with
 | some b => .ok (.bl (!b)) m
 | none => .bad
section
variable {X : Cx} {K : PySem.W.Frag} {cl : Str -> Addr} {ex : XD} {pins : List (Addr × Obj)} {σ : L2.St} {H : Hp} {s : Shared} {α : List Addr}
mutual
theorem zbj (I : Inv X pins σ H s) : ∀ {d : D} {v : V} {u : Value},zge d = true -> Rep X.K α H d v -> RelV v u -> ∃ as,Reads s.heap u (py d) as
 | .non,v,u,_,r,rv => by rw [Rep] at r; subst r; cases rv; exact ⟨_,.none⟩
 | .bl b,v,u,_,r,rv => by rw [Rep] at r; subst r; cases rv; exact ⟨_,.bool b⟩
 | .int i,v,u,_,r,rv => by rw [Rep] at r; subst r; obtain ⟨t,rfl⟩ := rv; exact ⟨_,.int i t⟩
 | .str x,v,u,_,r,rv => by rw [Rep] at r; subst r; obtain ⟨t,rfl⟩ := rv; exact ⟨_,.str x t⟩
 | .tup ds,v,u,ok,r,rv => by
  rw [Rep] at r
  obtain ⟨a,xs,rfl,h1,h2⟩ := r
  cases rv
  obtain ⟨its,r1,⟨o,e1,e2,n,e3⟩,_⟩ := I.tuple h1.sq
  obtain ⟨as,h⟩ := rep_readsL I (by rw [zge] at ok; exact ok) h2 r1
  exact ⟨as,.tuple e1 e2 e3 (by simpa using h)⟩
 | .lst ds,v,u,ok,r,rv => by
  rw [Rep] at r
  obtain ⟨a,xs,rfl,_,h1,h2⟩ := r
  cases rv
  obtain ⟨its,r1,⟨o,n,e1,e2,_,e3⟩,_⟩ := I.list (xs := xs) (.inl h1)
  obtain ⟨as,h⟩ := rep_readsL I (by rw [zge] at ok; exact ok) h2 r1
  exact ⟨_,.list e1 e2 e3 (by simpa using h)⟩
 | .flt _,_,_,ok,_,_ => by simp [zge] at ok
 | .byt _,_,_,ok,_,_ => by simp [zge] at ok
 | .ob _,_,_,ok,_,_ => by simp [zge] at ok
 | .scr _,_,_,ok,_,_ => by simp [zge] at ok
theorem rep_readsL (I : Inv X pins σ H s) : ∀ {ds : List D} {vs : List V} {us : List Value},pyOkL ds = true -> RepL X.K α H ds vs -> Vals vs us -> ∃ as,ReadsAll s.heap us (pyL ds) as
 | [],vs,us,_,r,rv => by rw [RepL] at r; subst r; cases rv; exact ⟨_,.nil⟩
 | d :: ds,vs,us,ok,r,rv => by
  rw [RepL] at r
  obtain ⟨v,r',rfl,h1,h2⟩ := r
  rw [pyOkL,Bool.and_eq_true] at ok
  cases rv with
  | cons a b =>
   obtain ⟨as,q1⟩ := zbj I ok.1 h1 a
   obtain ⟨bs,q2⟩ := rep_readsL I ok.2 h2 b
   exact ⟨_,.cons q1 q2⟩
end
def zoZ (K : PySem.W.Frag) (f : Bool -> Bool) : R2 := fun vx vy H Q => ∃ x y α,Rep K α H x vx /\ Rep K α H y vy /\ zea x = true /\ zea y = true /\ Q (.bl (f (PyData.eqv (py x) (py y)))) H
theorem zm3 (hu : X.A.units + 64 < cLine) : OpR X (compareOp .Eq) (zoZ X.K id) := by
 intro pins s σ H vx vy v u Q I rx ry h
 obtain ⟨x,y,α,r1,r2,d1,d2,q⟩ := h
 rw [zea,Bool.and_eq_true] at d1 d2
 obtain ⟨as,h1⟩ := zbj I d1.1 r1 rx
 obtain ⟨bs,h2⟩ := zbj I d2.1 r2 ry
 exact eq_dataH h1 h2 d1.2 d2.2 hu ⟨.bl _,H,I,rfl,q⟩
theorem zm0 (hu : X.A.units + 64 < cLine) : OpR X (compareOp .NotEq) (zoZ X.K not) := by
 intro pins s σ H vx vy v u Q I rx ry h
 obtain ⟨x,y,α,r1,r2,d1,d2,q⟩ := h
 rw [zea,Bool.and_eq_true] at d1 d2
 obtain ⟨as,h1⟩ := zbj I d1.1 r1 rx
 obtain ⟨bs,h2⟩ := zbj I d2.1 r2 ry
 exact ne_dataH h1 h2 d1.2 d2.2 hu ⟨.bl _,H,I,rfl,q⟩
def rEqA (K : PySem.W.Frag) : R2 := fun x y H Q => rEq x y H Q ∨ zoZ K id x y H Q
def rNeA (K : PySem.W.Frag) : R2 := fun x y H Q => rNe x y H Q ∨ zoZ K not x y H Q
theorem zbx (hu : X.A.units + 64 < cLine) : OpR X (compareOp .Eq) (rEqA X.K) := OpR.or op_eq (zm3 hu)
theorem zdf (hu : X.A.units + 64 < cLine) : OpR X (compareOp .NotEq) (rNeA X.K) := OpR.or op_ne (zm0 hu)
mutual
theorem Rep.bare {K : PySem.W.Frag} {α : List Addr} {H : Hp} : ∀ {d : D} {v : V},zge d = true -> Rep K α H d v -> Rep K [] H d v
 | .non,_,_,h => by simpa [Rep] using h
 | .bl _,_,_,h => by simpa [Rep] using h
 | .int _,_,_,h => by simpa [Rep] using h
 | .str _,_,_,h => by simpa [Rep] using h
 | .flt _,_,c,_ => by simp [zge] at c
 | .byt _,_,c,_ => by simp [zge] at c
 | .ob _,_,c,_ => by simp [zge] at c
 | .scr _,_,c,_ => by simp [zge] at c
 | .tup ds,_,c,h => by
  rw [Rep] at h ⊢
  obtain ⟨a,xs,e,h1,h2⟩ := h
  rw [zge] at c
  exact ⟨a,xs,e,h1,RepL.bare c h2⟩
 | .lst ds,_,c,h => by
  rw [Rep] at h ⊢
  obtain ⟨a,xs,e,n,h1,h2⟩ := h
  rw [zge] at c
  exact ⟨a,xs,e,(by simp),h1,RepL.bare c h2⟩
theorem RepL.bare {K : PySem.W.Frag} {α : List Addr} {H : Hp} : ∀ {ds : List D} {vs : List V},pyOkL ds = true -> RepL K α H ds vs -> RepL K [] H ds vs
 | [],_,_,h => by rw [RepL] at h ⊢; exact h
 | _ :: _,_,c,h => by
  rw [RepL] at h ⊢
  obtain ⟨v,r,e,h1,h2⟩ := h
  rw [pyOkL,Bool.and_eq_true] at c
  exact ⟨v,r,e,Rep.bare c.1 h1,RepL.bare c.2 h2⟩
end
def RepW (K : PySem.W.Frag) (α : List Addr) (H : Hp) (x : D) (v : V) : Prop := Rep K α H x v ∨ ∃ xs a ys,x = .lst xs /\ v = .ref a /\ H a = some (.lst ys) /\ RepL K α H xs ys
theorem RepW.bare {x : D} {v : V} (c : zea x = true) (h : RepW K α H x v) : Rep K [] H x v := by
 rw [zea,Bool.and_eq_true] at c
 rcases h with h | ⟨xs,a,ys,rfl,rfl,h1,h2⟩
 ·exact h.bare c.1
 ·rw [Rep]
  have c1 := c.1
  rw [zge] at c1
  exact ⟨a,ys,rfl,(by simp),.inl h1,h2.bare c1⟩
theorem zku {m : Sto} (W : Wd K cl α m H) {x : D} {v : V} (r : Rep K α H x v) : RepW K α H (rs m x) v := by
 unfold rs
 split
 ·split
  ·rename_i xs hx
   rw [Rep] at r
   obtain ⟨a,h1,rfl⟩ := r
   obtain ⟨ys,h2,h3⟩ := (show MoRep K cl α H a (.lst xs) from W.at' _ a _ h1 hx)
   exact .inr ⟨_,a,ys,rfl,rfl,h2,h3⟩
  ·exact .inl r
 ·exact .inl r
theorem zn6 {x y : D} {vx vy : V} {b : Bool} (e : eqB x y = some b) (rx : RepW K α H x vx) (ry : RepW K α H y vy) : (scal vx vy = true /\ decide (vx = vy) = b) ∨ (zea x = true /\ zea y = true /\ PyData.eqv (py x) (py y) = b) := by
 unfold eqB at e
 split at e
 case h_15 =>
  split at e
  ·rename_i hc
   rw [Bool.and_eq_true] at hc
   exact .inr ⟨hc.1,hc.2,Option.some.inj e⟩
  ·cases e
 all_goals (
  rcases rx with rx | ⟨_,_,_,z,_⟩
  case inr => cases z
  rcases ry with ry | ⟨_,_,_,z,_⟩
  case inr => cases z
  rw [Rep] at rx; rw [Rep] at ry; subst rx ry; refine .inl ⟨rfl,?_⟩; rw [<- Option.some.inj e]; simp)
theorem zcD : OpD K cl ex (rEqA K) eqD := fun α m H x y vx vy Q W rx ry h => by
 unfold eqD at h
 split at h
 ·rename_i b e
  have rx := zku W rx
  have ry := zku W ry
  rcases zn6 e rx ry with ⟨h1,h2⟩ | ⟨h1,h2,h3⟩
  ·exact .inl ⟨h1,by rw [h2]; exact PQ.ok W h _ zju⟩
  ·exact .inr ⟨_,_,[],rx.bare h1,ry.bare h2,h1,h2,by rw [h3]; exact PQ.ok W h _ zju⟩
 ·exact h.elim
theorem zgj : OpD K cl ex (rNeA K) neD := fun α m H x y vx vy Q W rx ry h => by
 unfold neD at h
 split at h
 ·rename_i b e
  have rx := zku W rx
  have ry := zku W ry
  rcases zn6 e rx ry with ⟨h1,h2⟩ | ⟨h1,h2,h3⟩
  ·exact .inl ⟨h1,by rw [h2]; exact PQ.ok W h _ zju⟩
  ·exact .inr ⟨_,_,[],rx.bare h1,ry.bare h2,h1,h2,by rw [h3]; exact PQ.ok W h _ zju⟩
 ·exact h.elim
end
def ltS (x y : Str) : Bool := decide (x.cps.toList < y.cps.toList)
def ltD (x y : D) (m : Sto) : Res D := match x,y with
 | .int i,.int j => .ok (.bl (decide (i < j))) m
 | .str a,.str b => .ok (.bl (ltS a b)) m
 | _,_ => .bad
def leD (x y : D) (m : Sto) : Res D := match x,y with
 | .int i,.int j => .ok (.bl (decide (i <= j))) m
 | .str a,.str b => .ok (.bl (!ltS b a)) m
 | _,_ => .bad
def gtD (x y : D) (m : Sto) : Res D := match x,y with
 | .int i,.int j => .ok (.bl (decide (j < i))) m
 | _,_ => .bad
def geD (x y : D) (m : Sto) : Res D := match x,y with
 | .int i,.int j => .ok (.bl (decide (j <= i))) m
 | _,_ => .bad
def isB (x y : D) : Option Bool := match x,y with
 | .bl a,.bl b => some (a == b)
 | .non,.non => some true
 | _,.non => some false
 | _,_ => none
def isD (x y : D) (m : Sto) : Res D := match isB x y with
 | some b => .ok (.bl b) m
 | none => .bad
def zeX (x y : D) (m : Sto) : Res D := match isB x y with
 | some b => .ok (.bl (!b)) m
 | none => .bad
section
variable {X : Cx} {K : PySem.W.Frag} {cl : Str -> Addr} {ex : XD}
def rLtA : R2 := fun x y H Q => (rI0 (fun i j => .bl (decide (i < j)))) x y H Q ∨ ∃ i j,x = .str i /\ y = .str j /\ Q (.bl (decide (i.cps.toList < j.cps.toList))) H
theorem zbW : OpR X (compareOp .Lt) rLtA := OpR.or op_lt zm1
theorem zdT : OpD K cl ex rLtA ltD := fun α m H x y vx vy Q W rx ry h => by
 unfold ltD at h
 split at h
 ·rw [Rep] at rx ry; exact .inl ⟨_,_,rx,ry,PQ.ok W h _ zju⟩
 ·rw [Rep] at rx ry; exact .inr ⟨_,_,rx,ry,PQ.ok W h _ zju⟩
 ·exact h.elim
theorem zrH : OpD K cl ex (rI0 (fun i j => .bl (decide (j < i)))) gtD := fun α m H x y vx vy Q W rx ry h => by
 unfold gtD at h
 split at h
 ·rw [Rep] at rx ry; exact ⟨_,_,rx,ry,PQ.ok W h _ zju⟩
 ·exact h.elim
theorem zrI : OpD K cl ex (rI0 (fun i j => .bl (decide (j <= i)))) geD := fun α m H x y vx vy Q W rx ry h => by
 unfold geD at h
 split at h
 ·rw [Rep] at rx ry; exact ⟨_,_,rx,ry,PQ.ok W h _ zju⟩
 ·exact h.elim
def rIs (f : Bool -> Bool) : R2 := fun x y H Q => (y = .non /\ Q (.bl (f (decide (x = .non)))) H) ∨ ∃ b c,x = .bl b /\ y = .bl c /\ Q (.bl (f (b == c))) H
theorem zdg : OpR X (compareOp .Is) (rIs id) := OpR.or op_isN op_isT
theorem zdS : OpR X (compareOp .IsNot) (rIs not) := OpR.or zrx zpi
def isNon : D -> Bool
 | .non => true
 | _ => false
theorem zmA {α : List Addr} {H : Hp} {x : D} {vx : V} (rx : Rep K α H x vx) : decide (vx = .non) = isNon x := by
 cases x <;> rw [Rep] at rx
 case ob => obtain ⟨_,_,rfl⟩ := rx; rfl
 case tup => obtain ⟨_,_,rfl,_⟩ := rx; rfl
 case lst => obtain ⟨_,_,rfl,_⟩ := rx; rfl
 case scr => obtain ⟨_,_,rfl,_⟩ := rx; rfl
 all_goals (subst rx; rfl)
theorem znN {α : List Addr} {H : Hp} {x y : D} {vx vy : V} {b : Bool} {f : Bool -> Bool} {Q : VK} (e : isB x y = some b) (rx : Rep K α H x vx) (ry : Rep K α H y vy) (q : Q (.bl (f b)) H) : rIs f vx vy H Q := by
 unfold isB at e
 split at e
 ·rw [Rep] at rx ry
  exact .inr ⟨_,_,rx,ry,by rw [Option.some.inj e]; exact q⟩
 ·have h := zmA rx
  rw [Rep] at ry
  exact .inl ⟨ry,by rw [h]; show Q (.bl (f true)) H; rw [Option.some.inj e]; exact q⟩
 ·rename_i hn
  have h := zmA rx
  rw [Rep] at ry
  refine .inl ⟨ry,?_⟩
  have : isNon x = false := by
   cases x with
   | non => exact (hn rfl).elim
   | _ => rfl
  rw [h,this,Option.some.inj e]
  exact q
 ·cases e
theorem zgk : OpD K cl ex (rIs id) isD := fun α m H x y vx vy Q W rx ry h => by
 unfold isD at h
 split at h
 ·exact znN (f := id) ‹_› rx ry (PQ.ok W h _ zju)
 ·exact h.elim
theorem zfD : OpD K cl ex (rIs not) zeX := fun α m H x y vx vy Q W rx ry h => by
 unfold zeX at h
 split at h
 ·exact znN (f := not) ‹_› rx ry (PQ.ok W h _ zju)
 ·exact h.elim
end
section
variable {K : PySem.W.Frag} {cl : Str -> Addr} {ex : XD} {α : List Addr} {m : Sto} {H : Hp}
theorem Wd.lst (W : Wd K cl α m H) {k : Nat} {a : Addr} {ds : List D} (h1 : α[k]? = some a) (h2 : m[k]? = some (.lst ds)) : ∃ xs,H a = some (.lst xs) /\ RepL K α H ds xs := W.at' k a _ h1 h2
theorem Wd.dct (W : Wd K cl α m H) {k : Nat} {a : Addr} {ds : List (L2.Key × D)} (h1 : α[k]? = some a) (h2 : m[k]? = some (.dct ds)) : ∃ xs,H a = some (.dK xs) /\ RepKV K α H ds xs := W.at' k a _ h1 h2
theorem Wd.set (W : Wd K cl α m H) {k : Nat} {a : Addr} {u : HO} {o : MO} (h1 : α[k]? = some a) (h2 : ∀ _ : Ext α H α (upd H a u),MoRep K cl α (upd H a u) a o) (hn : autoParam (∀ o v,H a ≠ some (.frz o v)) AutoP.a4._auto_1) : Wd K cl α (m.set k o) (upd H a u) /\ Ext α H α (upd H a u) := by
 have ha : a ∈ α := List.mem_of_getElem? h1
 have E : Ext α H α (upd H a u) := by
  refine ⟨⟨[],by simp,fun _ h => nomatch h⟩,fun b o h n => by rw [zan (fun z => n (by rw [z]; exact ha))]; exact h,fun b hb => ?_,fun b o v q => by rw [zan fun z => hn o v (by rw [<- z]; exact q)]; exact q⟩
  by_cases hba : b = a
  ·rw [hba,zax]; exact fun z => nomatch z
  ·rw [zan hba]; exact W.has hb
 refine ⟨⟨by rw [List.length_set]; exact W.len,W.nd,fun j b o' e1 e2 => ?_⟩,E⟩
 by_cases hj : k = j
 ·subst hj
  rw [h1] at e1
  cases e1
  have hk : k < m.length := by rw [<- W.len]; exact (List.getElem?_eq_some_iff.mp h1).1
  rw [List.getElem?_set_self hk] at e2
  cases e2
  exact h2 E
 ·rw [List.getElem?_set_ne hj] at e2
  have hne : b ≠ a := fun z => by
   subst z
   obtain ⟨hk,e3⟩ := List.getElem?_eq_some_iff.mp h1
   obtain ⟨hk2,e4⟩ := List.getElem?_eq_some_iff.mp e1
   exact hj ((List.getElem_inj W.nd).mp (e3.trans e4.symm))
  exact (W.at' j b o' e1 e2).mono W E fun o h => by rw [zan hne]; exact h
end
theorem RepL.atI {K : PySem.W.Frag} {α : List Addr} {H : Hp} {ds : List D} {vs : List V} {i : Int} {d : D} (r : RepL K α H ds vs) (h : L2.atI ds i = some d) : ∃ v,L2.atI vs i = some v /\ Rep K α H d v := by
 unfold L2.atI at h ⊢
 rw [r.length] at h
 cases e : ixN vs.length i with
 | none => rw [e] at h; cases h
 | some j =>
  rw [e] at h
  exact r.get (i := j) h
def zdc (kvs : List (L2.Key × D)) (k : L2.Key) : Option D := match kvs with
 | [] => none
 | p :: r => if p.1 = k then some p.2 else zdc r k
def zgB (kvs : List (L2.Key × D)) (k : L2.Key) (d : D) : List (L2.Key × D) := match kvs with
 | [] => [(k,d)]
 | p :: r => if p.1 = k then (p.1,d) :: r.map (fun q => if q.1 = k then (q.1,d) else q) else p :: zgB r k d
theorem RepKV.val {K : PySem.W.Frag} {α : List Addr} {H : Hp} {k : L2.Key} : ∀ {ds : List (L2.Key × D)} {vs : List (L2.Key × V)},RepKV K α H ds vs -> (∀ d,zdc ds k = some d -> ∃ v,zhV vs k = some v /\ Rep K α H d v) /\ (zdc ds k = none -> zhV vs k = none)
 | [],_,h => by
  cases (show _ = [] from h)
  exact ⟨fun d e => (nomatch e),fun _ => rfl⟩
 | p :: r,_,⟨v,r',e,h1,h2⟩ => by
  subst e
  have ih := RepKV.val (k := k) h2
  unfold zdc
  by_cases hk : p.1 = k
  ·rw [if_pos hk,ze1 hk]
   exact ⟨fun d e => by cases e; exact ⟨v,rfl,h1⟩,fun e => nomatch e⟩
  ·rw [if_neg hk,ze2 hk]
   exact ih
theorem RepKV.length {K : PySem.W.Frag} {α : List Addr} {H : Hp} : ∀ {ds : List (L2.Key × D)} {vs : List (L2.Key × V)},RepKV K α H ds vs -> ds.length = vs.length
 | [],_,h => by
  have h : _ = [] := h
  subst h; rfl
 | p :: r,_,⟨v,r',e,h1,h2⟩ => by subst e; rw [List.length_cons,List.length_cons,RepKV.length h2]
theorem RepKV.map {K : PySem.W.Frag} {α : List Addr} {H : Hp} {k : L2.Key} {d : D} {v : V} (r : Rep K α H d v) : ∀ {ds : List (L2.Key × D)} {vs : List (L2.Key × V)},RepKV K α H ds vs -> RepKV K α H (ds.map fun q => if q.1 = k then (q.1,d) else q) (vs.map fun q => if q.1 = k then (q.1,v) else q)
 | [],_,h => by
  have h : _ = [] := h
  subst h; rfl
 | p :: t,_,⟨w,r',e,h1,h2⟩ => by
  subst e
  rw [List.map_cons,List.map_cons]
  by_cases hk : p.1 = k
  ·rw [if_pos hk,if_pos hk]
   exact ⟨v,_,rfl,r,RepKV.map r h2⟩
  ·rw [if_neg hk,if_neg hk]
   exact ⟨w,_,rfl,h1,RepKV.map r h2⟩
theorem RepKV.put {K : PySem.W.Frag} {α : List Addr} {H : Hp} {k : L2.Key} {d : D} {v : V} (r : Rep K α H d v) : ∀ {ds : List (L2.Key × D)} {vs : List (L2.Key × V)},RepKV K α H ds vs -> RepKV K α H (zgB ds k d) (zdR vs k v)
 | [],_,h => by
  have h : _ = [] := h
  subst h
  exact ⟨v,[],rfl,r,rfl⟩
 | p :: t,_,⟨w,r',e,h1,h2⟩ => by
  subst e
  unfold zgB
  by_cases hk : p.1 = k
  ·rw [if_pos hk]
   have e2 : zdR ((p.1,w) :: r') k v = (p.1,v) :: r'.map fun q => if q.1 = k then (q.1,v) else q := by
    unfold zdR
    rw [if_pos (by simp [hk]),List.map_cons,if_pos hk]
   rw [e2]
   exact ⟨v,_,rfl,r,RepKV.map r h2⟩
  ·rw [if_neg hk]
   have ih := RepKV.put (k := k) r h2
   have e2 : zdR ((p.1,w) :: r') k v = (p.1,w) :: zdR r' k v := by
    unfold zdR
    by_cases ha : (r'.any fun kv => decide (kv.1 = k)) = true
    ·rw [if_pos (by rw [List.any_cons,ha,Bool.or_true]),if_pos ha,List.map_cons,if_neg hk]
    ·rw [if_neg ha,if_neg (by rw [List.any_cons]; simp only [decide_eq_false hk,Bool.false_or]; exact ha)]
     rfl
   rw [e2]
   exact ⟨w,_,rfl,h1,ih⟩
def opt {τ : Type} (o : Option τ) (m : Sto) : Res τ := match o with
 | some d => .ok d m
 | none => .bad
def ixD (x y : D) (m : Sto) : Res D := match x,y with
 | .tup ds,.int i => opt (L2.atI ds i) m
 | .lst ds,.int i => opt (L2.atI ds i) m
 | .str z,.int i => if z.length <= sizeLine then opt ((L2.atI z.cps.toList i).map fun c => D.str ⟨#[c]⟩) m else .bad
 | .ob k,.int i => match m[k]? with
  | some (.lst ds) => opt (L2.atI ds i) m
  | some (.dct kvs) => opt (zdc kvs (.inl i)) m
  | _ => .bad
 | .ob k,.str z => match m[k]? with
  | some (.dct kvs) => opt (zdc kvs (.inr z)) m
  | _ => .bad
 | _,_ => .bad
section
variable {X : Cx} {K : PySem.W.Frag} {cl : Str -> Addr} {ex : XD}
def rIxD : R2 := fun x y H Q => ∃ a v,x = .ref a /\ DGet H a y (some v) /\ Q v H
theorem zr5 (hu : X.A.units + 1 < cLine) : IxR X rIxD := by
 intro value slice pins s σ H x y v u Q I rx ry h hs
 obtain ⟨a,w,rfl,g,q⟩ := h
 cases rx
 have hT := zj1 I g
 unfold subscriptTail
 refine wpAny_bind ?_
 rw [getitemInPython_of_ne hT.not_modules]
 refine wpAny_bind (wpAny_specialOf hT PySem.F.slot_dict_getitem.lookup ?_)
 have fin : wpAny (model X.prog X.w) X.A (subscripted slice false (.ref a) u) (fun r s₃ => wpAny (model X.prog X.w) X.A (letTemporaryGo value (.ref a) r >>= fun _ => pure r) (EP X pins σ Q) X.xe s₃) X.xe s := by
  rw [hs]
  exact wpAny_operating (wpAny_mono (zog hu I g ry fun w' s3 I3 rw' => (⟨w,H,I3,rw',q⟩ : EP X pins σ Q w' s3)) (fun r s₃ h₃ => wpAny_bind (wpAny_letTemporaryGo (wpAny_pure h₃))) fun _ _ x => x)
 first
  | exact wpAny_pure (wpAny_bind fin)
  | exact wpAny_bind (wpAny_pure (wpAny_bind fin))
  | exact wpAny_bind fin
def rIxA (K : PySem.W.Frag) : R2 := fun x y H Q => rIx K x y H Q ∨ rIxD x y H Q
theorem ix_A (hu : X.A.units + 1 < cLine) : IxR X (rIxA X.K) := IxR.or ix_seq (zr5 hu)
theorem zeh {τ : Type} {o : Option τ} {α : List Addr} {m : Sto} {H : Hp} {R : RD τ} (h : PQ K cl ex (opt o m) α H R) : ∃ d,o = some d /\ PQ K cl ex (.ok d m) α H R := by
 cases o with
 | none => exact h.elim
 | some d => exact ⟨d,rfl,h⟩
theorem od_ix : OpD K cl ex (rIxA K) ixD := fun α m H x y vx vy Q W rx ry h => by
 unfold ixD at h
 split at h
 ·obtain ⟨d,e,h⟩ := zeh h
  rw [Rep] at rx
  rw [Rep] at ry
  obtain ⟨a,xs,rfl,h1,r1⟩ := rx
  obtain ⟨v,e2,rv⟩ := r1.atI e
  exact .inl (.inr (.inl ⟨a,xs,_,v,rfl,ry,h1.sq,e2,PQ.ok W h _ rv⟩))
 ·obtain ⟨d,e,h⟩ := zeh h
  rw [Rep] at rx
  rw [Rep] at ry
  obtain ⟨a,xs,rfl,_,h1,r1⟩ := rx
  obtain ⟨v,e2,rv⟩ := r1.atI e
  exact .inl (.inl ⟨a,xs,_,v,rfl,ry,.inl h1,e2,PQ.ok W h _ rv⟩)
 ·obtain ⟨hc,h⟩ := PQ.if h
  obtain ⟨d,e,h⟩ := zeh h
  rw [Rep] at rx
  rw [Rep] at ry
  obtain ⟨c,e2,rfl⟩ := Option.map_eq_some_iff.mp e
  exact .inl (.inr (.inr ⟨_,_,c,rx,ry,hc,e2,PQ.ok W h _ repS⟩))
 ·rw [Rep] at rx
  rw [Rep] at ry
  obtain ⟨a,ha,rfl⟩ := rx
  split at h
  ·obtain ⟨d,e,h⟩ := zeh h
   obtain ⟨xs,h1,r1⟩ := W.lst ha ‹_›
   obtain ⟨v,e2,rv⟩ := r1.atI e
   exact .inl (.inl ⟨a,xs,_,v,rfl,ry,SqL.of h1,e2,PQ.ok W h _ rv⟩)
  ·obtain ⟨d,e,h⟩ := zeh h
   obtain ⟨xs,h1,r1⟩ := W.dct ha ‹_›
   obtain ⟨v,e2,rv⟩ := (RepKV.val r1).1 d e
   refine .inr ⟨a,v,rfl,?_,PQ.ok W h _ rv⟩
   rw [ry,<- e2]
   exact DGet.k (k := .inl _) h1
  ·exact h.elim
 ·rw [Rep] at rx
  rw [Rep] at ry
  obtain ⟨a,ha,rfl⟩ := rx
  split at h
  ·obtain ⟨d,e,h⟩ := zeh h
   obtain ⟨xs,h1,r1⟩ := W.dct ha ‹_›
   obtain ⟨v,e2,rv⟩ := (RepKV.val r1).1 d e
   refine .inr ⟨a,v,rfl,?_,PQ.ok W h _ rv⟩
   rw [ry,<- e2]
   exact DGet.k (k := .inr _) h1
  ·exact h.elim
 ·exact h.elim
end
def zoh {τ : Type} (xs : List τ) (lo hi : Option Int) : List τ := (xs.drop (HT.sIx xs.length 0 lo)).take (HT.sIx xs.length xs.length hi - HT.sIx xs.length 0 lo)
theorem RepL.take {K : PySem.W.Frag} {α : List Addr} {H : Hp} : ∀ {ds : List D} {vs : List V} (n : Nat),RepL K α H ds vs -> RepL K α H (ds.take n) (vs.take n)
 | [],_,_,h => by rw [RepL] at h; subst h; simp [RepL]
 | _ :: _,_,0,h => by simp [RepL]
 | _ :: _,_,n + 1,h => by
  rw [RepL] at h
  obtain ⟨v,r,rfl,a,b⟩ := h
  rw [List.take_succ_cons,List.take_succ_cons,RepL]
  exact ⟨v,_,rfl,a,RepL.take n b⟩
theorem RepL.drop {K : PySem.W.Frag} {α : List Addr} {H : Hp} : ∀ {ds : List D} {vs : List V} (n : Nat),RepL K α H ds vs -> RepL K α H (ds.drop n) (vs.drop n)
 | _,_,0,h => h
 | [],_,n + 1,h => by rw [RepL] at h; subst h; simp [RepL]
 | _ :: _,_,n + 1,h => by
  rw [RepL] at h
  obtain ⟨v,r,rfl,a,b⟩ := h
  exact RepL.drop n b
theorem RepL.cut {K : PySem.W.Frag} {α : List Addr} {H : Hp} {ds : List D} {vs : List V} (lo hi : Option Int) (r : RepL K α H ds vs) : RepL K α H (zoh ds lo hi) (zqp vs lo hi) := by
 unfold zoh zqp
 rw [r.length]
 exact RepL.take _ (RepL.drop _ r)
abbrev OV := En -> Sto -> Res (Option Int)
def zlD : OV := fun _ m => .ok none m
def zeV (f : EV) : OV := fun ρ m => (f ρ m).bind fun d m1 => match d with
 | .int i => .ok (some i) m1
 | _ => .bad
def tDO (K : PySem.W.Frag) (cl : Str -> Addr) (ex : XD) (f : OV) : TO := fun σ H Q => ∃ α ρ m,Wd K cl α m H /\ RepE K α H ρ σ /\ PQ K cl ex (f ρ m) α H fun d _ _ H' => Q d H'
structure QO (X : Cx) (cl : Str -> Addr) (ex : XD) (e : Option Expr) (f : OV) : Prop where
 out : PO X e (tDO X.K cl ex f)
theorem PO.weak {X : Cx} {e : Option Expr} {t t' : TO} (h : PO X e t) (w : ∀ σ H Q,t' σ H Q -> t σ H Q) : PO X e t' := fun pins s σ H Q I q => h pins s σ H Q I (w σ H Q q)
def slD (x : D) (lo hi : Option Int) (m : Sto) : Res D := match x with
 | .tup ds => if HT.sIx ds.length 0 lo = 0 /\ HT.sIx ds.length ds.length hi = ds.length then .bad else .ok (.tup (zoh ds lo hi)) m
 | .lst ds => .ok (.lst (zoh ds lo hi)) m
 | .scr ds => .ok (.lst (zoh ds lo hi)) m
 | .str z => if z.length <= sizeLine then .ok (.str (Txt.slice z lo hi)) m else .bad
 | .ob k => match m[k]? with
  | some (.lst ds) => .ok (.lst (zoh ds lo hi)) m
  | _ => .bad
 | _ => .bad
def eSl (f : EV) (lo hi : OV) : EV := fun ρ m => (f ρ m).bind fun x m1 => (lo ρ m1).bind fun l m2 => (hi ρ m2).bind fun h m3 => slD x l h m3
section
variable {X : Cx} {cl : Str -> Addr} {ex : XD} {e : Expr} {fa : EV} {lo hi : OV} {el eh : Option Expr} {pos p2 : Pos}
theorem zhp : QO X cl ex none zlD := ⟨PO.weak zrf fun σ H Q hh => ex3 hh fun α ρ m W hr h => PQ.ok W h⟩
theorem zb1 (hq : QE X cl ex e fa) : QO X cl ex (some e) (zeV fa) := ⟨PO.weak (zre hq.out) fun σ H Q hh => ex3 hh fun α ρ m W hr h => tD.use W hr h fun α1 m1 H1 d v E1 W1 hr1 rv q1 => by
 split at q1
 ·rw [Rep] at rv; exact ⟨_,rv,PQ.ok W1 q1⟩
 ·exact q1.elim⟩
theorem tDO.use {K : PySem.W.Frag} {α : List Addr} {m : Sto} {H : Hp} {ρ : En} {σ : L2.St} {τ : Type} {f : OV} {k : Option Int -> Sto -> Res τ} {R : RD τ} {Q : Option Int -> Hp -> Prop} (W : Wd K cl α m H) (hr : RepE K α H ρ σ) (h : PQ K cl ex ((f ρ m).bind k) α H R)
  (hQ : ∀ α1 m1 H1 d,Ext α H α1 H1 -> Wd K cl α1 m1 H1 -> RepE K α1 H1 ρ σ -> PQ K cl ex (k d m1) α1 H1 R -> Q d H1) : tDO K cl ex f σ H Q :=
 ⟨α,ρ,m,W,hr,PQ.mono (Ext.refl W) h.bind fun d α1 m1 H1 E1 W1 q => hQ α1 m1 H1 d E1 W1 (hr.mono W E1) q⟩
theorem zjw (he : QE X cl ex e fa) (hl : QO X cl ex el lo) (hh : QO X cl ex eh hi) : QE X cl ex (.Subscript e (.Slice el eh none p2) pos) (eSl fa lo hi) :=
 ⟨PE.weak (zo8 (SlR.or sl_tup (SlR.or zqJ sl_txt)) he.out hl.out hh.out) fun σ H Q hh => ex3 hh fun α ρ m W hr h =>
  tD.use W hr h fun α1 m1 H1 d v E1 W1 hr1 rv q1 => tDO.use W1 hr1 q1 fun α2 m2 H2 l E2 W2 hr2 q2 => tDO.use W2 hr2 q2 fun α3 m3 H3 u E3 W3 hr3 q3 => by
   have rv := rv.mono W1 (E2.trans E3)
   unfold slD at q3
   split at q3
   ·split at q3
    ·exact q3.elim
    ·rename_i hn
     rw [Rep] at rv
     obtain ⟨a,xs,rfl,h1,r1⟩ := rv
     refine .inl ⟨a,xs,rfl,h1.sq,by rw [<- r1.length]; exact hn,fun p hp => ?_⟩
     exact PQ.okS W3 (Same.new hp) q3 _ (zbo W3 hp (r1.cut l u))
   ·rw [Rep] at rv
    obtain ⟨a,xs,rfl,_,h1,r1⟩ := rv
    exact .inr (.inl ⟨a,xs,rfl,.inl h1,fun p hp => PQ.okS W3 (Same.new hp) q3 _ (zcm W3 hp (r1.cut l u))⟩)
   ·rw [Rep] at rv
    obtain ⟨a,xs,rfl,h1,r1⟩ := rv
    exact .inr (.inl ⟨a,xs,rfl,h1.sq,fun p hp => PQ.okS W3 (Same.new hp) q3 _ (zcm W3 hp (r1.cut l u))⟩)
   ·rw [Rep] at rv
    obtain ⟨hc,q3⟩ := PQ.if q3
    exact .inr (.inr ⟨_,rv,hc,PQ.ok W3 q3 _ repS⟩)
   ·rw [Rep] at rv
    obtain ⟨a,ha,rfl⟩ := rv
    split at q3
    ·obtain ⟨xs,h1,r1⟩ := W3.lst ha ‹_›
     exact .inr (.inl ⟨a,xs,rfl,SqL.of h1,fun p hp => PQ.okS W3 (Same.new hp) q3 _ (zcm W3 hp (r1.cut l u))⟩)
    ·exact q3.elim
   ·exact q3.elim⟩
end
section
variable {X : Cx} {K : PySem.W.Frag} {cl : Str -> Addr} {ex : XD} {α : List Addr} {m : Sto} {H : Hp}
theorem RepL.one_of {d : D} {vs : List V} (h : RepL K α H [d] vs) : ∃ v,vs = [v] /\ Rep K α H d v := by
 rw [RepL] at h
 obtain ⟨v,r,rfl,a,b⟩ := h
 rw [RepL] at b
 subst b
 exact ⟨v,rfl,a⟩
theorem RepL.two_of {d e : D} {vs : List V} (h : RepL K α H [d,e] vs) : ∃ v w,vs = [v,w] /\ Rep K α H d v /\ Rep K α H e w := by
 rw [RepL] at h
 obtain ⟨v,r,rfl,a,b⟩ := h
 obtain ⟨w,rfl,c⟩ := b.one_of
 exact ⟨v,w,rfl,a,c⟩
def ziA (ds : List D) (m : Sto) : Res D := match ds with
 | [.tup xs] => .ok (.int xs.length) m
 | [.lst xs] => .ok (.int xs.length) m
 | [.scr xs] => .ok (.int xs.length) m
 | [.str z] => if z.length <= sizeLine then .ok (.int z.length) m else .bad
 | [.ob k] => match m[k]? with
  | some (.lst xs) => .ok (.int xs.length) m
  | some (.dct xs) => .ok (.int xs.length) m
  | _ => .bad
 | _ => .bad
def rLen (K : PySem.W.Frag) : List V -> Hp -> VK -> Prop := fun xs H Q => (∃ p ys,xs = [.ref p] /\ (SqL K H p ys ∨ SqT K H p ys) /\ Q (.int ys.length) H) ∨ (∃ z,xs = [.str z] /\ z.length <= sizeLine /\ Q (.int z.length) H) ∨ ∃ a kvs,xs = [V.ref a] /\ H a = some (.dK kvs) /\ Q (.int kvs.length) H
theorem zon : CallR X (.builtin "len") (fun xs H Q => ∃ a kvs,xs = [V.ref a] /\ H a = some (.dK kvs) /\ Q (.int kvs.length) H) := by
 intro pins s σ H xs us Q I r h
 obtain ⟨a,kvs,rfl,e,q⟩ := h
 obtain ⟨u,rfl,ru⟩ := zbY r
 cases ru
 exact d_len I (.inl e) fun t s' I' => ⟨.int kvs.length,H,I',⟨t,rfl⟩,q⟩
theorem za1 : CallR X (.builtin "len") (rLen X.K) := CallR.or zjc (CallR.or zjb zon)
theorem zcM : FnD K cl ex (rLen K) ziA := fun α m H x vx Q W rx h => by
 unfold ziA at h
 split at h
 ·obtain ⟨v,rfl,rv⟩ := rx.one_of
  rw [Rep] at rv
  obtain ⟨a,xs,rfl,h1,r1⟩ := rv
  exact .inl ⟨a,xs,rfl,.inr h1.sq,by rw [<- r1.length]; exact PQ.ok W h _ zeS⟩
 ·obtain ⟨v,rfl,rv⟩ := rx.one_of
  rw [Rep] at rv
  obtain ⟨a,xs,rfl,_,h1,r1⟩ := rv
  exact .inl ⟨a,xs,rfl,.inl (.inl h1),by rw [<- r1.length]; exact PQ.ok W h _ zeS⟩
 ·obtain ⟨v,rfl,rv⟩ := rx.one_of
  rw [Rep] at rv
  obtain ⟨a,xs,rfl,h1,r1⟩ := rv
  exact .inl ⟨a,xs,rfl,.inl h1.sq,by rw [<- r1.length]; exact PQ.ok W h _ zeS⟩
 ·obtain ⟨v,rfl,rv⟩ := rx.one_of
  rw [Rep] at rv
  subst rv
  obtain ⟨hc,h⟩ := PQ.if h
  exact .inr (.inl ⟨_,rfl,hc,PQ.ok W h _ zeS⟩)
 ·obtain ⟨v,rfl,rv⟩ := rx.one_of
  rw [Rep] at rv
  obtain ⟨a,ha,rfl⟩ := rv
  split at h
  ·obtain ⟨xs,h1,r1⟩ := W.lst ha ‹_›
   exact .inl ⟨a,xs,rfl,.inl (SqL.of h1),by rw [<- r1.length]; exact PQ.ok W h _ zeS⟩
  ·obtain ⟨xs,h1,r1⟩ := W.dct ha ‹_›
   exact .inr (.inr ⟨a,xs,rfl,h1,by rw [<- r1.length]; exact PQ.ok W h _ zeS⟩)
  ·exact h.elim
 ·exact h.elim
def zqe (ds : List D) (m : Sto) : Res D := match ds with
 | [.int i] => .ok (.int i) m
 | [.bl b] => .ok (.int (if b then 1 else 0)) m
 | [.str z] => match PySem.intText? z with
  | some n => if z.length <= 640 then .ok (.int n) m else .bad
  | none => .bad
 | _ => .bad
def rInt : List V -> Hp -> VK -> Prop := fun xs H Q => ((∃ i,xs = [.int i] /\ Q (.int i) H) ∨ ∃ k,xs = [.bl k] /\ Q (.int (if k then 1 else 0)) H) ∨ ∃ z n,xs = [.str z] /\ PySem.intText? z = some n /\ z.length <= 640 /\ Q (.int n) H
theorem zje : CallR X (.type "int") rInt := CallR.or zop zjd
theorem zql : FnD K cl ex rInt zqe := fun α m H x vx Q W rx h => by
 unfold zqe at h
 split at h
 ·obtain ⟨v,rfl,rv⟩ := rx.one_of
  rw [Rep] at rv; subst rv
  exact .inl (.inl ⟨_,rfl,PQ.ok W h _ zeS⟩)
 ·obtain ⟨v,rfl,rv⟩ := rx.one_of
  rw [Rep] at rv; subst rv
  exact .inl (.inr ⟨_,rfl,PQ.ok W h _ zeS⟩)
 ·obtain ⟨v,rfl,rv⟩ := rx.one_of
  rw [Rep] at rv; subst rv
  split at h
  ·obtain ⟨hc,h⟩ := PQ.if h
   exact .inr ⟨_,_,rfl,‹_›,hc,PQ.ok W h _ zeS⟩
  ·exact h.elim
 ·exact h.elim
def strF (ds : List D) (m : Sto) : Res D := match ds with
 | [.int i] => if i.natAbs.log2 < 1920 then .ok (.str (toString i)) m else .bad
 | _ => .bad
theorem fd_str : FnD K cl ex (fun xs H Q => ∃ i,xs = [.int i] /\ i.natAbs.log2 < 1920 /\ Q (.str (toString i)) H) strF := fun α m H x vx Q W rx h => by
 unfold strF at h
 split at h
 ·obtain ⟨v,rfl,rv⟩ := rx.one_of
  rw [Rep] at rv; subst rv
  obtain ⟨hc,h⟩ := PQ.if h
  exact ⟨_,rfl,hc,PQ.ok W h _ repS⟩
 ·exact h.elim
def absF (ds : List D) (m : Sto) : Res D := match ds with
 | [.int i] => .ok (.int (if i < 0 then -i else i)) m
 | _ => .bad
theorem zqm : FnD K cl ex (fun xs H Q => ∃ i,xs = [.int i] /\ Q (.int (if i < 0 then -i else i)) H) absF := fun α m H x vx Q W rx h => by
 unfold absF at h
 split at h
 ·obtain ⟨v,rfl,rv⟩ := rx.one_of
  rw [Rep] at rv; subst rv
  exact ⟨_,rfl,PQ.ok W h _ zeS⟩
 ·exact h.elim
def zhH (ds : List D) (m : Sto) : Res D := match ds with
 | [.int i,.int j] => .ok (.int (if j > i then j else i)) m
 | _ => .bad
theorem zn4 : FnD K cl ex (fun xs H Q => ∃ i j,xs = [.int i,.int j] /\ Q (.int (if j > i then j else i)) H) zhH := fun α m H x vx Q W rx h => by
 unfold zhH at h
 split at h
 ·obtain ⟨v,w,rfl,rv,rw'⟩ := rx.two_of
  rw [Rep] at rv rw'; subst rv rw'
  exact ⟨_,_,rfl,PQ.ok W h _ zeS⟩
 ·exact h.elim
def zlJ (ds : List D) (m : Sto) : Res D := match ds with
 | [.int i,.int j] => .ok (.int (if j < i then j else i)) m
 | _ => .bad
theorem zn3 : FnD K cl ex (fun xs H Q => ∃ i j,xs = [.int i,.int j] /\ Q (.int (if j < i then j else i)) H) zlJ := fun α m H x vx Q W rx h => by
 unfold zlJ at h
 split at h
 ·obtain ⟨v,w,rfl,rv,rw'⟩ := rx.two_of
  rw [Rep] at rv rw'; subst rv rw'
  exact ⟨_,_,rfl,PQ.ok W h _ zeS⟩
 ·exact h.elim
def zox (ds : List D) (m : Sto) : Res D := match ds with
 | [.lst xs] => .ok (.tup xs) m
 | [.tup xs] => .ok (.tup xs) m
 | [.ob k] => match m[k]? with
  | some (.lst xs) => .ok (.tup xs) m
  | _ => .bad
 | [.str z] => if z.cps.size <= sizeLine then .ok (.tup (zeR z)) m else .bad
 | _ => .bad
def rTup (K : PySem.W.Frag) : List V -> Hp -> VK -> Prop := fun xs H Q => (∃ p ys,xs = [.ref p] /\ ((SqL K H p ys /\ ∀ l,H l = none -> Q (.ref l) (upd H l (.tup ys))) ∨ (SqT K H p ys /\ Q (.ref p) H))) ∨ ∃ z,xs = [.str z] /\ z.cps.size <= sizeLine /\ ∀ l,H l = none -> Q (.ref l) (upd H l (.tup ((List.range z.cps.size).map (sgn z))))
theorem zca (hc : X.calm = true) : CallR X (.type "tuple") (rTup X.K) := CallR.or zhT (zgp hc)
theorem zmz {z : Str} : RepL K α H (zeR z) ((List.range z.cps.size).map (sgn z)) := by
 unfold zeR
 generalize List.range z.cps.size = l
 induction l with
 | nil => simp [RepL]
 | cons i r ih => rw [List.map_cons,List.map_cons,RepL]; exact ⟨_,_,rfl,by rw [Rep]; rfl,ih⟩
theorem zgQ : FnD K cl ex (rTup K) zox := fun α m H x vx Q W rx h => by
 unfold zox at h
 split at h
 ·obtain ⟨v,rfl,rv⟩ := rx.one_of
  rw [Rep] at rv
  obtain ⟨a,xs,rfl,_,h1,r1⟩ := rv
  exact .inl ⟨a,xs,rfl,.inl ⟨.inl h1,fun l hl => PQ.okS W (Same.new hl) h _ (zbo W hl r1)⟩⟩
 ·obtain ⟨v,rfl,rv⟩ := rx.one_of
  have rv2 := rv
  rw [Rep] at rv
  obtain ⟨a,xs,rfl,h1,r1⟩ := rv
  exact .inl ⟨a,xs,rfl,.inr ⟨h1.sq,PQ.ok W h _ rv2⟩⟩
 ·obtain ⟨v,rfl,rv⟩ := rx.one_of
  rw [Rep] at rv
  obtain ⟨a,ha,rfl⟩ := rv
  split at h
  ·obtain ⟨xs,h1,r1⟩ := W.lst ha ‹_›
   exact .inl ⟨a,xs,rfl,.inl ⟨SqL.of h1,fun l hl => PQ.okS W (Same.new hl) h _ (zbo W hl r1)⟩⟩
  ·exact h.elim
 ·obtain ⟨v,rfl,rv⟩ := rx.one_of
  rw [Rep] at rv; subst rv
  obtain ⟨hc,h⟩ := PQ.if h
  exact .inr ⟨_,rfl,hc,fun l hl => PQ.okS W (Same.new hl) h _ (zbo W hl zmz)⟩
 ·exact h.elim
def zd7 : List D -> Option (List Int)
 | [] => some []
 | .int i :: r => (zd7 r).map (i :: ·)
 | _ => none
def zlX : List D -> Option (List Bool)
 | [] => some []
 | .bl i :: r => (zlX r).map (i :: ·)
 | _ => none
def asStrs : List D -> Option (List Str)
 | [] => some []
 | .str i :: r => (asStrs r).map (i :: ·)
 | _ => none
theorem zc5 : ∀ {ds : List D} {ns : List Int} {vs : List V},zd7 ds = some ns -> RepL K α H ds vs -> vs = ns.map V.int
 | [],ns,vs,e,r => by cases e; rw [RepL] at r; exact r
 | d :: t,ns,vs,e,r => by
  unfold zd7 at e
  split at e
  ·exact absurd ‹d :: t = []› (by simp)
  ·rename_i i t' e1
   cases e1
   obtain ⟨ms,e2,rfl⟩ := Option.map_eq_some_iff.mp e
   rw [RepL] at r
   obtain ⟨v,r',rfl,a,b⟩ := r
   rw [Rep] at a
   subst a
   rw [zc5 e2 b]
   rfl
  ·cases e
theorem zjk : ∀ {ds : List D} {ns : List Bool} {vs : List V},zlX ds = some ns -> RepL K α H ds vs -> vs = ns.map V.bl
 | [],ns,vs,e,r => by cases e; rw [RepL] at r; exact r
 | d :: t,ns,vs,e,r => by
  unfold zlX at e
  split at e
  ·exact absurd ‹d :: t = []› (by simp)
  ·rename_i i t' e1
   cases e1
   obtain ⟨ms,e2,rfl⟩ := Option.map_eq_some_iff.mp e
   rw [RepL] at r
   obtain ⟨v,r',rfl,a,b⟩ := r
   rw [Rep] at a
   subst a
   rw [zjk e2 b]
   rfl
  ·cases e
def lOf (d : D) (m : Sto) : Option (List D) := match d with
 | .lst xs => some xs
 | .ob k => match m[k]? with
  | some (.lst xs) => some xs
  | _ => none
 | _ => none
theorem zjT {d : D} {v : V} {xs : List D} (W : Wd K cl α m H) (e : lOf d m = some xs) (rv : Rep K α H d v) : ∃ p ys,v = .ref p /\ SqL K H p ys /\ RepL K α H xs ys := by
 unfold lOf at e
 split at e
 ·cases e; rw [Rep] at rv; obtain ⟨a,ys,rfl,_,h1,r1⟩ := rv; exact ⟨a,ys,rfl,.inl h1,r1⟩
 ·rw [Rep] at rv
  obtain ⟨a,ha,rfl⟩ := rv
  split at e
  ·cases e; obtain ⟨ys,h1,r1⟩ := W.lst ha ‹_›; exact ⟨a,ys,rfl,SqL.of h1,r1⟩
  ·cases e
 ·cases e
def zqC (ns : List Int) : Prop := (∀ a,a ∈ ns -> 0 <= a /\ a <= 2 ^ 50) /\ ns.length <= 1000
instance (ns : List Int) : Decidable (zqC ns) := by unfold zqC; infer_instance
def zqE (ds : List D) (m : Sto) : Res D := match ds with
 | [d] => match (lOf d m).bind zd7 with
  | some ns => if zqC ns then .ok (.int ns.sum) m else .bad
  | none => .bad
 | _ => .bad
theorem zqk : FnD K cl ex (fun xs H Q => ∃ (l : Addr) (ns : List Int),xs = [.ref l] /\ SqL K H l (ns.map V.int) /\ (∀ a,a ∈ ns -> 0 <= a /\ a <= 2 ^ 50) /\ ns.length <= 1000 /\ Q (.int ns.sum) H) zqE := fun α m H x vx Q W rx h => by
 unfold zqE at h
 split at h
 ·split at h
  ·rename_i ns e
   obtain ⟨hc,h⟩ := PQ.if h
   obtain ⟨v,rfl,rv⟩ := rx.one_of
   obtain ⟨xs,e1,e2⟩ := Option.bind_eq_some_iff.mp e
   obtain ⟨p,ys,rfl,h1,r1⟩ := zjT W e1 rv
   rw [zc5 e2 r1] at h1
   exact ⟨p,ns,rfl,h1,hc.1,hc.2,PQ.ok W h _ zeS⟩
  ·exact h.elim
 ·exact h.elim
def allF (ds : List D) (m : Sto) : Res D := match ds with
 | [d] => match (lOf d m).bind zlX with
  | some bs => .ok (.bl (bs.all id)) m
  | none => .bad
 | _ => .bad
theorem fd_all : FnD K cl ex (fun xs H Q => ∃ (l : Addr) (bs : List Bool),xs = [.ref l] /\ SqL K H l (bs.map V.bl) /\ Q (.bl (bs.all id)) H) allF := fun α m H x vx Q W rx h => by
 unfold allF at h
 split at h
 ·split at h
  ·rename_i ns e
   obtain ⟨v,rfl,rv⟩ := rx.one_of
   obtain ⟨xs,e1,e2⟩ := Option.bind_eq_some_iff.mp e
   obtain ⟨p,ys,rfl,h1,r1⟩ := zjT W e1 rv
   rw [zjk e2 r1] at h1
   exact ⟨p,ns,rfl,h1,PQ.ok W h _ zju⟩
  ·exact h.elim
 ·exact h.elim
end
def zer (ty : D -> Sto -> Bool) (g : D -> List D -> Sto -> Res D) (fo : EV) (fr : AV) : EV := fun ρ m => (fo ρ m).bind fun o m1 => if ty o m1 = true then (fr ρ m1).bind fun ds m2 => g o ds m2 else .bad
def MtD (K : PySem.W.Frag) (cl : Str -> Addr) (ex : XD) (r : V -> List V -> Hp -> VK -> Prop) (g : D -> List D -> Sto -> Res D) : Prop :=
 ∀ (α : List Addr) (m : Sto) (H : Hp) (x : D) (xs : List D) (vx : V) (vs : List V) (Q : VK),Wd K cl α m H -> Rep K α H x vx -> RepL K α H xs vs -> PQ K cl ex (g x xs m) α H (fun d α' _ H' => ∀ v,Rep K α' H' d v -> Q v H') -> r vx vs H Q
def isStr (d : D) (_ : Sto) : Bool := match d with
 | .str _ => true
 | _ => false
def zfQ (d : D) (m : Sto) : Bool := match d with
 | .lst _ => true
 | .ob k => match m[k]? with
  | some (.lst _) => true
  | _ => false
 | _ => false
def zr6 (d : D) (_ : Sto) : Bool := match d with
 | .tup _ => true
 | _ => false
section
variable {X : Cx} {K : PySem.W.Frag} {cl : Str -> Addr} {ex : XD} {α : List Addr} {m : Sto} {H : Hp} {o e : Expr} {es : List Expr} {fo : EV} {fr : AV} {name : Str} {apos cpos : Pos} {T id : String} {r : V -> List V -> Hp -> VK -> Prop} {g : D -> List D -> Sto -> Res D} {ty : D -> Sto -> Bool}
theorem zkj {d : D} {v : V} (h : zfQ d m = true) (W : Wd K cl α m H) (r : Rep K α H d v) : tyV K "list" v H := by
 unfold zfQ at h
 split at h
 ·rw [Rep] at r; obtain ⟨a,ys,rfl,_,h1,r1⟩ := r; exact .inl ⟨rfl,ys,.inl h1⟩
 ·rw [Rep] at r
  obtain ⟨a,ha,rfl⟩ := r
  split at h
  ·obtain ⟨ys,h1,_⟩ := W.lst ha ‹_›; exact .inl ⟨rfl,ys,SqL.of h1⟩
  ·cases h
 ·cases h
theorem tBM_of (hty : ∀ {α : List Addr} {m : Sto} {H : Hp} {d : D} {v : V},ty d m = true -> Wd X.K cl α m H -> Rep X.K α H d v -> tyV X.K T v H) (hd : MtD X.K cl ex r g) : ∀ σ H Q,tD X.K cl ex (zer ty g fo fr) σ H Q -> tBM X.K T r (tD X.K cl ex fo) (tDA X.K cl ex fr) σ H Q := fun σ H Q hh => ex3 hh fun α ρ m W hr h =>
 tD.use W hr h fun α1 m1 H1 d v E1 W1 hr1 rv q1 => by
  obtain ⟨ht,q1⟩ := PQ.if q1
  exact ⟨hty ht W1 rv,tDA.use W1 hr1 q1 fun α2 m2 H2 ds vs E2 W2 hr2 rvs q2 => hd α2 m2 H2 d ds v vs Q W2 (rv.mono W1 E2) rvs q2⟩
theorem zo1 (pa : PlainAttrs T) (slot : Slot T name id) (hty : typeOf (.builtin id) = pure (.type "method_descriptor")) (hm : MtR X id r) (hT : ∀ {α : List Addr} {m : Sto} {H : Hp} {d : D} {v : V},ty d m = true -> Wd X.K cl α m H -> Rep X.K α H d v -> tyV X.K T v H) (hd : MtD X.K cl ex r g) (ho : QE X cl ex o fo) (ha : QA X cl ex (e :: es) fr)
  (hbase : autoParam (attributeBase o name X.env (eval o X.env) = eval o X.env) AutoP.a3._auto_1)
  (hfew : autoParam (((backTo cpos (starEach (e :: es) X.env)).all (fun x => !x.1) && (backToKw cpos (keywordEach [] X.env)).all (fun x => x.1.isSome)
   && decide ((e :: es).length + ([] : List Keyword).length + (if ([] : List Keyword).isEmpty then 0 else 1) < 30)) = true) AutoP.a3._auto_1)
  (hline : autoParam ((apos.endLine == cpos.line) = true) AutoP.a3._auto_1) (hs : autoParam (starEach (e :: es) X.env = (false,eval e X.env) :: starEach es X.env) AutoP.a3._auto_1) (hplain : autoParam ((backTo cpos (starEach es X.env)).any (·.1) = false) AutoP.a3._auto_1) :
  QE X cl ex (.Call (.Attribute o name apos) (e :: es) [] cpos) (zer ty g fo fr) :=
 ⟨PE.weak (pe_bm pa slot hty hm ho.out ha.out hbase hfew hline hs hplain) (tBM_of hT hd)⟩
def zdA (o : D) (ds : List D) (m : Sto) : Res D := match o,ds with
 | .ob k,[d] => match m[k]? with
  | some (.lst xs) => if xs.length < sizeLine then .ok .non (m.set k (.lst (xs ++ [d]))) else .bad
  | _ => .bad
 | _,_ => .bad
theorem zfI : MtD K cl ex zmE zdA := fun α m H x xs vx vs Q W rx rxs h => by
 unfold zdA at h
 split at h
 ·split at h
  ·rename_i k d _ ds e
   obtain ⟨hc,h⟩ := PQ.if h
   rw [Rep] at rx
   obtain ⟨a,ha,rfl⟩ := rx
   obtain ⟨v,rfl,rv⟩ := rxs.one_of
   obtain ⟨ys,h1,r1⟩ := W.lst ha e
   obtain ⟨W2,E2⟩ := W.set (u := .lst (ys ++ [v])) (o := .lst (ds ++ [d])) ha fun E => ⟨_,zax,RepL.append (r1.mono W E) (RepL.one (rv.mono W E))⟩
   exact ⟨a,ys,v,rfl,rfl,h1,by rw [<- r1.length]; exact hc,h _ _ E2 W2 _ repN⟩
  ·exact h.elim
 ·exact h.elim
def popM (o : D) (ds : List D) (m : Sto) : Res D := match o,ds with
 | .ob k,[.int i] => match m[k]? with
  | some (.lst xs) => if -(2 ^ 63) <= i /\ i < 2 ^ 63 then match seqIndex? i xs.length with
   | some j => match xs[j]? with
    | some d => .ok d (m.set k (.lst (xs.eraseIdx j)))
    | none => .bad
   | none => .bad else .bad
  | _ => .bad
 | _,_ => .bad
theorem RepL.erase {ds : List D} {vs : List V} (j : Nat) (r : RepL K α H ds vs) : RepL K α H (ds.eraseIdx j) (vs.eraseIdx j) := by
 rw [List.eraseIdx_eq_take_drop_succ,List.eraseIdx_eq_take_drop_succ]
 exact RepL.append (r.take j) (r.drop (j + 1))
theorem md_pop : MtD K cl ex zpW popM := fun α m H x xs vx vs Q W rx rxs h => by
 unfold popM at h
 split at h
 ·split at h
  ·rename_i k i _ ds e
   obtain ⟨hc,h⟩ := PQ.if h
   rw [Rep] at rx
   obtain ⟨a,ha,rfl⟩ := rx
   obtain ⟨v,rfl,rv⟩ := rxs.one_of
   rw [Rep] at rv
   subst rv
   obtain ⟨ys,h1,r1⟩ := W.lst ha e
   split at h
   ·rename_i j ej
    split at h
    ·rename_i d ed
     obtain ⟨w,hw,rw'⟩ := r1.get ed
     obtain ⟨W2,E2⟩ := W.set (u := .lst (ys.eraseIdx j)) (o := .lst (ds.eraseIdx j)) ha fun E => ⟨_,zax,(r1.mono W E).erase j⟩
     exact ⟨a,ys,i,j,w,rfl,rfl,h1,hc.1,hc.2,by rw [<- r1.length]; exact ej,hw,h _ _ E2 W2 _ (rw'.mono W E2)⟩
    ·exact h.elim
   ·exact h.elim
  ·exact h.elim
 ·exact h.elim
end
section
variable {X : Cx} {K : PySem.W.Frag} {cl : Str -> Addr} {ex : XD} {α : List Addr} {m : Sto} {H : Hp}
theorem zlI : MtM X "tuple.index" (fun x xs H Q => ∃ (a : Addr) (ns : List Int) (v : Int) (j : Nat) (h : j < ns.length),x = .ref a /\ xs = [.int v] /\ SqT X.K H a (ns.map V.int) /\ ns[j] = v /\ (∀ m (hm : m < ns.length),m < j -> ns[m] ≠ v) /\ Q (.int (j : Int)) H) := by
 intro pins s σ H x xs v us Q I rx rs h
 obtain ⟨a,ns,z,j,hj,rfl,rfl,ha,hz,hno,q⟩ := h
 cases rx
 obtain ⟨u,rfl,t,rfl⟩ := zbY rs
 obtain ⟨its,r,p,_⟩ := I.tuple ha
 have hlen : ns.length = its.length := by rw [<- r.length,List.length_map]
 have hat : ∀ m (hm : m < ns.length),∃ t',its[m]'(by omega) = .int ns[m] t' := fun m hm => by
  obtain ⟨t',e⟩ := zl8 r (i := m) (v := its[m]'(by omega)) (by simp)
  refine ⟨t',?_⟩
  rw [e,znU hm]
 have f1 : ziY (.int z) = true := rfl
 have f2 : (ns.map V.int).all ziY = true := by simp [ziY]
 obtain ⟨⟨cls,dd,data,sl⟩,ho,hc,n,hd⟩ := id p
 simp only at hc hd
 subst hc hd
 refine call_meets PySem.F.slot_tuple_index ⟨_,ho,rfl⟩ PySem.F.entry_tuple_index (PySem.F.args_tuple_index_2 _ _) (zg3 a its.toArray n dd sl (.int z t) (eqU (.int z)) j (by simp; omega) ?_ ?_) ⟨ho,?_,?_⟩
 ·obtain ⟨t',e⟩ := hat j hj
  simp only [List.getElem_toArray]
  rw [e,hz]
  show eqV (.int z) (.int z) = true
  simp [eqV]
 ·intro m hm hmj
  have hm2 : m < ns.length := by simp at hm; omega
  obtain ⟨t',e⟩ := hat m hm2
  simp only [List.getElem_toArray]
  rw [e]
  show eqV (.int ns[m]) (.int z) = false
  have := hno m hm2 hmj
  simp [eqV,this]
 ·intro y hy
  exact zkH (x := .int z) ⟨t,rfl⟩ f1 r f2 y (by simpa using hy)
 ·exact ⟨.int (j : Int),H,I.tok _,⟨_,rfl⟩,q⟩
def tBMQ (K : PySem.W.Frag) (r : V -> List V -> Hp -> VK -> Prop) (to : TE) (t : TA) : TE := fun σ H Q => to σ H fun x H1 => (∃ p xs,x = .ref p /\ TupAt K H1 p xs) /\ t σ H1 fun ys H2 => r x ys H2 Q
theorem pe_bmQ {o e : Expr} {to : TE} {t : TA} {name : Str} {apos cpos : Pos} {id : String} {r : V -> List V -> Hp -> VK -> Prop} (slot : Slot "tuple" name id) (hty : typeOf (.builtin id) = pure (.type "method_descriptor")) (hm : MtR X id r) (ho : PE X o to) (ha : PA X [e] t)
  (hbase : autoParam (attributeBase o name X.env (eval o X.env) = eval o X.env) AutoP.a3._auto_1)
  (hfew : autoParam (((backTo cpos (starEach [e] X.env)).all (fun x => !x.1) && (backToKw cpos (keywordEach [] X.env)).all (fun x => x.1.isSome) && decide (([e] : List Expr).length + ([] : List Keyword).length + (if ([] : List Keyword).isEmpty then 0 else 1) < 30)) = true) AutoP.a3._auto_1)
  (hline : autoParam ((apos.endLine == cpos.line) = true) AutoP.a3._auto_1) (hs : autoParam (starEach [e] X.env = [(false,eval e X.env)]) AutoP.a3._auto_1) :
  PE X (.Call (.Attribute o name apos) [e] [] cpos) (tBMQ X.K r to t) := by
 intro pins s σ H Q I h
 refine wpAny_Call_method_late hbase hfew hline rfl (thn (ho pins s σ H _ I h) fun v s1 ⟨x,H1,I1,r1,⟨p,xs,ex,hp⟩,q1⟩ => ?_)
 subst ex
 cases r1
 obtain ⟨ob,h1,h2,h3⟩ : ∃ ob,s1.heap.get? p = some ob /\ ob.cls = .type "tuple" /\ ob.dict = none := by
  rcases hp with hp | ⟨o,_,_,k1,k2,k3,_⟩
  ·obtain ⟨_,_,_,⟨ob,h1,h2,_⟩,od,h3,h4⟩ := (show ObjOk X.prog X.w H1 s1.heap p (.tup xs) from I1.hok p _ hp)
   rw [h1] at h3
   cases h3
   exact ⟨ob,h1,h2,h4⟩
  ·exact ⟨o,I1.kIn p o k1,k2,k3⟩
 refine ⟨"tuple", id,PySem.F.plainAttrs_tuple,slot,hty,⟨ob,h1,h2⟩,fun a e => by cases e; exact ⟨ob,h1,h3⟩,?_⟩
 have hA := ha cpos pins s1 σ H1 _ I1 q1
 rw [hs] at hA ⊢
 refine Calls.callWith_builtin rfl (Calls.evalArgs_plain ?_)
 exact thn hA fun us s2 ⟨vs,H2,I2,r2,q2⟩ => hm pins s2 σ H2 (.ref p) vs (.ref p) us Q I2 rfl r2 q2
def zee (o : D) (ds : List D) (m : Sto) : Res D := match o,ds with
 | .tup xs,[.int v] => match zd7 xs with
  | some ns => if v ∈ ns then .ok (.int (ns.idxOf v)) m else .bad
  | none => .bad
 | _,_ => .bad
theorem zns : MtD K cl ex (fun x xs H Q => ∃ (a : Addr) (ns : List Int) (v : Int) (j : Nat) (h : j < ns.length),x = .ref a /\ xs = [.int v] /\ SqT K H a (ns.map V.int) /\ ns[j] = v /\ (∀ m (hm : m < ns.length),m < j -> ns[m] ≠ v) /\ Q (.int (j : Int)) H) zee := fun α m H x xs vx vs Q W rx rxs h => by
 unfold zee at h
 split at h
 ·split at h
  ·rename_i ns e
   obtain ⟨hc,h⟩ := PQ.if h
   rw [Rep] at rx
   obtain ⟨a,ys,rfl,h1,r1⟩ := rx
   obtain ⟨v,rfl,rv⟩ := rxs.one_of
   rw [Rep] at rv
   subst rv
   have hl := List.idxOf_lt_length_of_mem hc
   rw [zc5 e r1] at h1
   refine ⟨a,ns,_,_,hl,rfl,rfl,h1.sq,List.getElem_idxOf hl,fun k hk hlt z => ?_,PQ.ok W h _ zeS⟩
   have := List.not_of_lt_findIdx (xs := ns) (p := (· == _)) (by unfold List.idxOf at hlt; exact hlt)
   simp [z] at this
  ·exact h.elim
 ·exact h.elim
theorem zmI {o e : Expr} {fo : EV} {fr : AV} {apos cpos : Pos} (ho : QE X cl ex o fo) (ha : QA X cl ex [e] fr)
  (hbase : autoParam (attributeBase o "index" X.env (eval o X.env) = eval o X.env) AutoP.a3._auto_1)
  (hfew : autoParam (((backTo cpos (starEach [e] X.env)).all (fun x => !x.1) && (backToKw cpos (keywordEach [] X.env)).all (fun x => x.1.isSome) && decide (([e] : List Expr).length + ([] : List Keyword).length + (if ([] : List Keyword).isEmpty then 0 else 1) < 30)) = true) AutoP.a3._auto_1)
  (hline : autoParam ((apos.endLine == cpos.line) = true) AutoP.a3._auto_1) (hs : autoParam (starEach [e] X.env = [(false,eval e X.env)]) AutoP.a3._auto_1) :
  QE X cl ex (.Call (.Attribute o "index" apos) [e] [] cpos) (zer zr6 zee fo fr) :=
 ⟨PE.weak (pe_bmQ PySem.F.slot_tuple_index PySem.F.type_tuple_index zlI ho.out ha.out hbase hfew hline hs) fun σ H Q hh => ex3 hh fun α ρ m W hr h => tD.use W hr h fun α1 m1 H1 d v E1 W1 hr1 rv q1 => by
  obtain ⟨ht,q1⟩ := PQ.if q1
  refine ⟨?_,tDA.use W1 hr1 q1 fun α2 m2 H2 ds vs E2 W2 hr2 rvs q2 => zns α2 m2 H2 d ds v vs Q W2 (rv.mono W1 E2) rvs q2⟩
  cases d with
  | tup ds => rw [Rep] at rv; obtain ⟨a,ys,rfl,h1,_⟩ := rv; exact ⟨a,ys,rfl,h1⟩
  | _ => cases ht⟩
def tyN (d : D) (m : Sto) : Option String := match d with
 | .non => some "NoneType"
 | .bl _ => some "bool"
 | .int _ => some "int"
 | .str _ => some "str"
 | .flt _ => some "float"
 | .tup _ => some "tuple"
 | .lst _ => some "list"
 | .ob k => match m[k]? with
  | some (.lst _) => some "list"
  | some (.dct _) => some "dict"
  | _ => none
 | _ => none
def isiB (t n : String) : Bool := t == n || (t == "bool" && n == "int")
def zhW (n : String) (d : D) (m : Sto) : Res D := match tyN d m with
 | some t => .ok (.bl (isiB t n)) m
 | none => .bad
def zpP : List String := ["int", "bool", "str", "tuple", "list", "dict"]
theorem zr0 {d : D} {t n : String} (h : tyN d m = some t) (hn : n ∈ zpP) : PySem.W.kitOne K (.type t) (.type n) = some (isiB t n) := by
 have ht : t ∈ ["NoneType", "bool", "int", "str", "float", "tuple", "list", "dict"] := by
  unfold tyN at h
  split at h <;> first | (cases h; simp; done) | (split at h <;> first | (cases h; simp; done) | cases h) | cases h
 simp only [zpP,List.mem_cons,List.not_mem_nil,or_false] at hn ht
 rcases hn with rfl | rfl | rfl | rfl | rfl | rfl <;> rcases ht with rfl | rfl | rfl | rfl | rfl | rfl | rfl | rfl <;> rfl
theorem zoo {n : String} (hn : n ∈ zpP) : CallR X (.builtin "isinstance") (fun xs H Q => ∃ cl α m d v t,xs = [v,.ty n] /\ Wd X.K cl α m H /\ Rep X.K α H d v /\ tyN d m = some t /\ Q (.bl (isiB t n)) H) := by
 intro pins s σ H xs us Q I r h
 obtain ⟨cl,α,m,d,v,t,rfl,W,rv,ht,q⟩ := h
 obtain ⟨u,w,rfl,ru,rw'⟩ := zl9 r
 cases rw'
 have kt := zr0 (K := X.K) ht hn
 have old : ∀ {t' : Value},TyOf X.K H v t' -> t' = .type t -> wpAny (model X.prog X.w) X.A (call (.builtin "isinstance") [u,.type n]) (EP X pins σ Q) X.xe s := fun {t'} ty e => by
  subst e
  exact znL I ru ty kt fun tk => ⟨.bl _,H,I.tok _,rfl,q⟩
 unfold tyN at ht
 split at ht
 ·cases ht; rw [Rep] at rv; subst rv; exact old .non rfl
 ·cases ht; rw [Rep] at rv; subst rv; exact old (.bl _) rfl
 ·cases ht; rw [Rep] at rv; subst rv; exact old (.int _) rfl
 ·cases ht; rw [Rep] at rv; subst rv; exact old (.str _) rfl
 ·cases ht; rw [Rep] at rv; subst rv; exact old (.flt _) rfl
 ·cases ht
  rw [Rep] at rv
  obtain ⟨a,xs,rfl,h1,_⟩ := rv
  rcases h1 with h1 | ⟨o,_,_,k1,k2,_⟩
  ·exact old (.tup h1) rfl
  ·cases ru
   exact PySem.W.kia_one PySem.W.kitx_tuple I.kIn ⟨o,I.kIn a o k1,k2⟩ kt (fun z => nomatch z) fun tk => ⟨.bl _,H,I.tok _,rfl,q⟩
 ·cases ht
  rw [Rep] at rv
  obtain ⟨a,xs,rfl,_,h1,_⟩ := rv
  rcases h1 with h1 | ⟨o,h1⟩
  ·exact old (.lst h1) rfl
  ·exact old (.frz h1) rfl
 ·rw [Rep] at rv
  obtain ⟨a,ha,rfl⟩ := rv
  split at ht
  ·cases ht; obtain ⟨xs,h1,_⟩ := W.lst ha ‹_›; exact old (.lst h1) rfl
  ·cases ht; obtain ⟨xs,h1,_⟩ := W.dct ha ‹_›; exact old (.dK h1) rfl
  ·cases ht
 ·cases ht
theorem zft {e : Expr} {fa : EV} {p p2 pos : Pos} {x : Str} {n : String} (hn : n ∈ zpP) (hg : Gl X "isinstance") (hm : X.mg "isinstance" = none) (hg2 : Gl X x) (hm2 : X.mg x = none) (hv : bootBuiltins x = some (.type n)) (ha : QE X cl ex e fa) (hx : autoParam (x ≠ "__name__") AutoP.a1._auto_1) (hdb : autoParam ((x == ("__debug__" : Str)) = false) AutoP.a1._auto_1)
  (he : autoParam (starEach [e,.Name x p2] X.env = (false,eval e X.env) :: starEach [.Name x p2] X.env) AutoP.a3._auto_1) (he2 : autoParam (starEach [.Name x p2] X.env = (false,eval (.Name x p2) X.env) :: starEach [] X.env) AutoP.a3._auto_1) (hpl : autoParam ((backTo pos (starEach [.Name x p2] X.env)).any (·.1) = false) AutoP.a3._auto_1) :
  QE X cl ex (.Call (.Name "isinstance" p) [e,.Name x p2] [] pos) (eUn (zhW n) fa) :=
 ⟨PE.weak (zkD (zoo hn) hg hm boot_isinstance (zb2 ha.out (zb2 (zru (v := .ty n) hg2 hm2 hv rfl hx hdb) zfx he2) he) (by decide) (by decide) he hpl) fun σ H Q hh => ex3 hh fun α ρ m W hr h => tD.use W hr h fun α1 m1 H1 d v E1 W1 hr1 rv q1 => by
  unfold zhW at q1
  split at q1
  ·exact ⟨cl,α1,m1,d,v,_,rfl,W1,rv,‹_›,PQ.ok W1 q1 _ zju⟩
  ·exact q1.elim⟩
def inB (x : D) (ds : List D) : Option Bool := if zea x && (pyOkL ds && PyData.canLayAll0 (pyL ds)) then some ((pyL ds).any fun y => PyData.eqv y (py x)) else none
def inO (x y : D) (m : Sto) : Option Bool := match y with
 | .tup ds => inB x ds
 | .lst ds => inB x ds
 | .ob k => match m[k]? with
  | some (.lst ds) => inB x ds
  | some (.dct kvs) => match x with
   | .int i => some (zdc kvs (.inl i)).isSome
   | .str z => some (zdc kvs (.inr z)).isSome
   | _ => none
  | _ => none
 | .str j => match x with
  | .str i => some (!(Builtin.Str.occurrences j i 0 j.length 1).isEmpty)
  | _ => none
 | _ => none
def inD (x y : D) (m : Sto) : Res D := match inO x y m with
 | some b => .ok (.bl b) m
 | none => .bad
def zis (x y : D) (m : Sto) : Res D := match inO x y m with
 | some b => .ok (.bl (!b)) m
 | none => .bad
def rInS (K : PySem.W.Frag) (f : Bool -> Bool) : R2 := fun vx vy H Q => ∃ (α : List Addr) (x : D) (ds : List D) (p : Addr) (ys : List V),vy = .ref p /\ (SqL K H p ys ∨ SqT K H p ys) /\ RepL K α H ds ys /\ Rep K α H x vx /\ zea x = true /\ pyOkL ds = true /\ PyData.canLayAll0 (pyL ds) = true /\ Q (.bl (f ((pyL ds).any fun y => PyData.eqv y (py x)))) H
def rInD (f : Bool -> Bool) : R2 := fun x y H Q => ∃ a o,y = .ref a /\ DGet H a x o /\ Q (.bl (f o.isSome)) H
def rInT (f : Bool -> Bool) : R2 := fun x y H Q => ∃ i j,x = .str i /\ y = .str j /\ Q (.bl (f (!(Builtin.Str.occurrences j i 0 j.length 1).isEmpty))) H
def zqV (K : PySem.W.Frag) (f : Bool -> Bool) : R2 := fun x y H Q => rInS K f x y H Q ∨ rInD f x y H Q ∨ rInT f x y H Q
theorem op_inS (hu : X.A.units + 65 < cLine) : OpR X (compareOp .In) (rInS X.K id) := by
 intro pins s σ H vx vy v u Q I rx ry h
 obtain ⟨α,x,ds,p,ys,rfl,sq,r1,r2,d1,ok,cL,q⟩ := h
 cases ry
 rw [zea,Bool.and_eq_true] at d1
 obtain ⟨bs,h2⟩ := zbj I d1.1 r2 rx
 have c2 := SeqAt.canLay_of_shaped d1.2
 have rm := PyProof.Rows.room_in_shaped (A := X.A) (xs := pyL ds) d1.2 hu
 rcases sq with sq | sq
 ·obtain ⟨its,rv,⟨o,n,e1,e2,_,e3⟩,_⟩ := I.list sq
  obtain ⟨as,h1⟩ := rep_readsL I ok r1 rv
  exact SeqAt.in_list_reads (Reads.list e1 e2 e3 (by simpa using h1)) h2 cL c2 rm ⟨.bl _,H,I,rfl,q⟩
 ·obtain ⟨its,rv,⟨o,e1,e2,n,e3⟩,_⟩ := I.tuple sq
  obtain ⟨as,h1⟩ := rep_readsL I ok r1 rv
  exact SeqAt.in_tuple_reads (Reads.tuple e1 e2 e3 (by simpa using h1)) h2 cL c2 rm ⟨.bl _,H,I,rfl,q⟩
theorem zmX (hu : X.A.units + 65 < cLine) : OpR X (compareOp .NotIn) (rInS X.K not) := by
 intro pins s σ H vx vy v u Q I rx ry h
 obtain ⟨α,x,ds,p,ys,rfl,sq,r1,r2,d1,ok,cL,q⟩ := h
 cases ry
 rw [zea,Bool.and_eq_true] at d1
 obtain ⟨bs,h2⟩ := zbj I d1.1 r2 rx
 have c2 := SeqAt.canLay_of_shaped d1.2
 have rm := PyProof.Rows.room_in_shaped (A := X.A) (xs := pyL ds) d1.2 hu
 rcases sq with sq | sq
 ·obtain ⟨its,rv,⟨o,n,e1,e2,_,e3⟩,_⟩ := I.list sq
  obtain ⟨as,h1⟩ := rep_readsL I ok r1 rv
  exact SeqAt.notIn_list_reads (Reads.list e1 e2 e3 (by simpa using h1)) h2 cL c2 rm ⟨.bl _,H,I,rfl,q⟩
 ·obtain ⟨its,rv,⟨o,e1,e2,n,e3⟩,_⟩ := I.tuple sq
  obtain ⟨as,h1⟩ := rep_readsL I ok r1 rv
  exact SeqAt.notIn_tuple_reads (Reads.tuple e1 e2 e3 (by simpa using h1)) h2 cL c2 rm ⟨.bl _,H,I,rfl,q⟩
theorem op_inD (hu : X.A.units + 1 < cLine) : OpR X (compareOp .In) (rInD id) := by
 intro pins s σ H x y v u Q I rx ry h
 obtain ⟨a,o,rfl,g,q⟩ := h
 cases ry
 exact d_in hu I g rx fun s' I' => ⟨.bl _,H,I',rfl,q⟩
theorem zmY (hu : X.A.units + 1 < cLine) : OpR X (compareOp .NotIn) (rInD not) := by
 intro pins s σ H x y v u Q I rx ry h
 obtain ⟨a,o,rfl,g,q⟩ := h
 cases ry
 exact zsd hu I g rx fun s' I' => ⟨.bl _,H,I',rfl,q⟩
theorem hu65 {A : Around} {k : Nat} (hr : Room k A) : A.units + 65 < cLine := by have := hr.un; omega
theorem zp3 {k : Nat} (hr : Room k X.A) : OpR X (compareOp .In) (zqV X.K id) := OpR.or (op_inS (hu65 hr)) (OpR.or (op_inD (zjY hr)) zm2)
theorem zmZ {k : Nat} (hr : Room k X.A) : OpR X (compareOp .NotIn) (zqV X.K not) := OpR.or (zmX (hu65 hr)) (OpR.or (zmY (zjY hr)) zii)
theorem znP {f : Bool -> Bool} {x y : D} {vx vy : V} {b : Bool} {Q : VK} (W : Wd K cl α m H) (e : inO x y m = some b) (rx : Rep K α H x vx) (ry : Rep K α H y vy) (q : Q (.bl (f b)) H) : zqV K f vx vy H Q := by
 have seq : ∀ {ds : List D} {p : Addr} {ys : List V},inB x ds = some b -> vy = .ref p -> (SqL K H p ys ∨ SqT K H p ys) -> RepL K α H ds ys -> zqV K f vx vy H Q := fun {ds p ys} e1 e2 e3 e4 => by
  unfold inB at e1
  split at e1
  ·rename_i hc
   rw [Bool.and_eq_true,Bool.and_eq_true] at hc
   exact .inl ⟨α,x,ds,p,ys,e2,e3,e4,rx,hc.1,hc.2.1,hc.2.2,by rw [Option.some.inj e1]; exact q⟩
  ·cases e1
 unfold inO at e
 split at e
 ·rw [Rep] at ry; obtain ⟨a,ys,rfl,h1,r1⟩ := ry; exact seq e rfl (.inr h1.sq) r1
 ·rw [Rep] at ry; obtain ⟨a,ys,rfl,_,h1,r1⟩ := ry; exact seq e rfl (.inl (.inl h1)) r1
 ·rw [Rep] at ry
  obtain ⟨a,ha,rfl⟩ := ry
  split at e
  ·obtain ⟨ys,h1,r1⟩ := W.lst ha ‹_›; exact seq e rfl (.inl (SqL.of h1)) r1
  ·obtain ⟨ys,h1,r1⟩ := W.dct ha ‹_›
   have key : ∀ {k : L2.Key},vx = kV k -> some (zdc _ k).isSome = some b -> zqV K f vx (.ref a) H Q := fun {k} e1 e2 => by
    refine .inr (.inl ⟨a,zhV ys k,rfl,by rw [e1]; exact DGet.k h1,?_⟩)
    have : (zhV ys k).isSome = b := by
     rw [<- Option.some.inj e2]
     cases h : zdc _ k with
     | none => rw [(RepKV.val r1).2 h]; rfl
     | some d => obtain ⟨v,hv,_⟩ := (RepKV.val r1).1 d h; rw [hv]; rfl
    rw [this]
    exact q
   split at e
   ·rw [Rep] at rx; exact key (k := .inl _) rx e
   ·rw [Rep] at rx; exact key (k := .inr _) rx e
   ·cases e
  ·cases e
 ·split at e
  ·rw [Rep] at rx; rw [Rep] at ry; exact .inr (.inr ⟨_,_,rx,ry,by rw [Option.some.inj e]; exact q⟩)
  ·cases e
 ·cases e
theorem od_in : OpD K cl ex (zqV K id) inD := fun α m H x y vx vy Q W rx ry h => by
 unfold inD at h
 split at h
 ·exact znP (f := id) W ‹_› rx ry (PQ.ok W h _ zju)
 ·exact h.elim
theorem zpk : OpD K cl ex (zqV K not) zis := fun α m H x y vx vy Q W rx ry h => by
 unfold zis at h
 split at h
 ·exact znP (f := not) W ‹_› rx ry (PQ.ok W h _ zju)
 ·exact h.elim
end
section
variable {X : Cx} {cl : Str -> Addr} {ex : XD} {o i e value : Expr} {fo fi fv : EV} {fr : AV} {pos p pos' : Pos}
def zgn (d : D) : Option L2.Key := match d with
 | .int i => some (.inl i)
 | .str z => some (.inr z)
 | _ => none
def putS (x y v : D) (m : Sto) : Res Unit := match x with
 | .ob k => match m[k]?,zgn y with
  | some (.dct kvs),some q => if kvs.length < sizeLine then .ok () (m.set k (.dct (zgB kvs q v))) else .bad
  | some (.lst ds),some (.inl i) => match ixN ds.length i with
   | some j => .ok () (m.set k (.lst (ds.set j v)))
   | none => .bad
  | _,_ => .bad
 | _ => .bad
theorem zfN {K : PySem.W.Frag} {α : List Addr} {H : Hp} {d : D} {v : V} {k : L2.Key} (h : zgn d = some k) (r : Rep K α H d v) : v = kV k := by
 unfold zgn at h
 split at h
 ·cases h; rw [Rep] at r; exact r
 ·cases h; rw [Rep] at r; exact r
 ·cases h
def zgg (x y v : D) (m : Sto) : Res Unit := match x with
 | .ob k => match m[k]? with
  | some (.dct kvs) => match zgn y with
   | some q => if kvs.length < sizeLine then .ok () (m.set k (.dct (zgB kvs q v))) else .bad
   | none => .bad
  | _ => .bad
 | _ => .bad
def zgc (fo fi fv : EV) : SV := fun ρ m => (fv ρ m).bind fun v m1 => (fo ρ m1).bind fun x m2 => (fi ρ m2).bind fun y m3 => (zgg x y v m3).bind fun _ m4 => .ok (.nx ρ) m4
theorem zho (hu : X.A.units + 1 < cLine) (ho : QE X cl ex o fo) (hi : QE X cl ex i fi) (hv : QE X cl ex value fv) (hs : swapsWith value (some (.Subscript o i pos')) pos.line X.env = pure false) :
  QS X cl ex (.Assign [.Subscript o i pos'] value pos) (zgc fo fi fv) :=
 ⟨PS.weak (zq9 hu ho.out hi.out hv.out hs) fun D σ H hh => ex3 hh fun α ρ m W hr h => tD.use W hr h fun α1 m1 H1 dv v E1 W1 hr1 rv q1 => tD.use W1 hr1 q1 fun α2 m2 H2 dx x E2 W2 hr2 rx q2 => tD.use W2 hr2 q2 fun α3 m3 H3 dy y E3 W3 hr3 ry q3 => by
  have rv := rv.mono W1 (E2.trans E3)
  have rx := rx.mono W2 E3
  unfold zgg at q3
  split at q3
  ·rw [Rep] at rx
   obtain ⟨a,ha,rfl⟩ := rx
   split at q3
   ·rename_i k _ kvs e
    split at q3
    ·rename_i q ek
     split at q3
     ·rename_i hc
      obtain ⟨ys,h1,r1⟩ := W3.dct ha e
      obtain ⟨W4,E4⟩ := W3.set (u := .dK (zdR ys q v)) (o := .dct (zgB kvs q dv)) ha fun E => ⟨_,zax,RepKV.put (rv.mono W3 E) (r1.mono W3 E)⟩
      refine ⟨a,_,rfl,by rw [zfN ek ry]; exact DPut.k h1 (by rw [<- r1.length]; exact hc),?_⟩
      exact (show PQ X.K cl ex (.ok (.nx ρ) (m3.set k (.dct (zgB kvs q dv)))) α3 H3 fun fl α' _ H' => zgY X.K D fl α' H' from q3) _ _ E4 W4 _ (hr3.mono W3 E4)
     ·exact q3.elim
    ·exact q3.elim
   ·exact q3.elim
  ·exact q3.elim⟩
def zde : List (Str × EV) -> En -> Sto -> Res (List (L2.Key × D))
 | [],_,m => .ok [] m
 | (k,f) :: r,ρ,m => (f ρ m).bind fun d m1 => (zde r ρ m1).bind fun ps m2 => .ok ((.inr k,d) :: ps) m2
def znr (more : List (L2.Key × D)) : List (L2.Key × D) := more.foldl (fun acc kv => zgB acc kv.1 kv.2) []
def zcr (fs : List (Str × EV)) : EV := fun ρ m => (zde fs ρ m).bind fun ps m1 => .ok (.ob m1.length) (m1 ++ [.dct (znr ps)])
inductive QPs (X : Cx) (cl : Str -> Addr) (ex : XD) : List (Option Expr) -> List Expr -> List (Str × EV) -> Prop where
 | nil : QPs X cl ex [] [] []
 | cons {k : Str} {j} {pk : Pos} {v : Expr} {f : EV} {ks : List (Option Expr)} {vs : List Expr} {fs : List (Str × EV)} : QE X cl ex v f -> QPs X cl ex ks vs fs -> QPs X cl ex (some (.Constant (.str k) j pk) :: ks) (v :: vs) ((k,f) :: fs)
theorem QPs.pps {ks : List (Option Expr)} {vs : List Expr} {fs : List (Str × EV)} (h : QPs X cl ex ks vs fs) : PPs X pos ks vs (fs.map fun q => (tC (.str q.1),tD X.K cl ex q.2)) := by
 induction h with
 | nil => exact zra
 | cons hv _ ih => exact zo5 zp0 hv.out ih
theorem QPs.keys {ks : List (Option Expr)} {vs : List Expr} {fs : List (Str × EV)} (h : QPs X cl ex ks vs fs) : ks.all (·.isSome) = true /\ ks.length = vs.length /\ ks.length = fs.length := by
 induction h with
 | nil => exact ⟨rfl,rfl,rfl⟩
 | cons _ _ ih => exact ⟨by rw [List.all_cons,ih.1]; rfl,by rw [List.length_cons,List.length_cons,ih.2.1],by rw [List.length_cons,List.length_cons,ih.2.2]⟩
theorem zh0 {K : PySem.W.Frag} {σ : L2.St} {ρ : En} {R : RD (List (L2.Key × D))} : ∀ (fs : List (Str × EV)) {α : List Addr} {m : Sto} {H : Hp} {Q : List (V × V) -> Hp -> Prop},Wd K cl α m H -> RepE K α H ρ σ -> PQ K cl ex (zde fs ρ m) α H R →
  (∀ α1 m1 H1 ps vs,Ext α H α1 H1 -> Wd K cl α1 m1 H1 -> RepE K α1 H1 ρ σ -> ps.length = fs.length -> RepKV K α1 H1 ps vs -> R ps α1 m1 H1 -> Q (vs.map fun kv => (kV kv.1,kv.2)) H1) -> zkm (fs.map fun q => (tC (.str q.1),tD K cl ex q.2)) σ H Q
 | [],α,m,H,Q,W,hr,h,hQ => hQ α m H [] [] (Ext.refl W) W hr rfl rfl (PQ.ok W h)
 | (k,f) :: r,α,m,H,Q,W,hr,h,hQ => by
  refine tD.use W hr h fun α1 m1 H1 d v E1 W1 hr1 rv q1 => ?_
  refine zh0 (R := fun ps α2 m2 H2 => R ((.inr k,d) :: ps) α2 m2 H2) r W1 hr1 (PQ.mono (Ext.refl W1) q1.bind fun ps α2 m2 H2 E2 W2 q2 => PQ.ok W2 q2) fun α2 m2 H2 ps vs E2 W2 hr2 hl rps q2 => ?_
  exact hQ α2 m2 H2 ((.inr k,d) :: ps) ((.inr k,v) :: vs) (E1.trans E2) W2 hr2 (by rw [List.length_cons,List.length_cons,hl]) ⟨v,vs,rfl,rv.mono W1 E2,rps⟩ q2
theorem zic {K : PySem.W.Frag} {α : List Addr} {H : Hp} : ∀ (ps : List (L2.Key × D)) {vs : List (L2.Key × V)} {qs : List (L2.Key × D)} {us : List (L2.Key × V)},RepKV K α H ps vs -> RepKV K α H qs us -> RepKV K α H (ps.foldl (fun acc kv => zgB acc kv.1 kv.2) qs) (zcE us vs)
 | [],_,_,_,h,h' => by
  cases (show _ = [] from h)
  exact h'
 | p :: r,_,_,_,⟨v,r',e,h1,h2⟩,h' => by
  subst e
  exact (show RepKV K α H _ (zcE (zdR _ p.1 v) r') from zic r h2 (RepKV.put h1 h'))
theorem zjz {ks : List (Option Expr)} {vs : List Expr} {fs : List (Str × EV)} (h : QPs X cl ex ks vs fs) (h0 : ks ≠ []) (h15 : ks.length <= 15) : QE X cl ex (.Dict ks vs pos) (zcr fs) :=
 ⟨PE.weak (zrq h.pps h.keys.1 h.keys.2.1 h0 h15) fun σ H Q hh => ex3 hh fun α ρ m W hr q p hp => by
  have s0 := Same.new (o := .dK []) hp
  have W0 := W.same s0
  have E0 := Ext.of_same W s0
  refine zh0 (R := fun ps α1 m1 H1 => PQ X.K cl ex (.ok (.ob m1.length) (m1 ++ [.dct (znr ps)])) α H fun d α' _ H' => ∀ v,Rep X.K α' H' d v -> Q v H') fs W0 (hr.mono W E0) ?_ fun α1 m1 H1 ps us E1 W1 hr1 hl rps q1 => ?_
  ·cases hf : zde fs ρ m with
   | ok ps m1 => rw [show zcr fs ρ m = (zde fs ρ m).bind _ from rfl,hf] at q; exact fun _ _ _ _ => q
   | exc c m1 => rw [show zcr fs ρ m = (zde fs ρ m).bind _ from rfl,hf] at q; exact fun α2 H2 E2 W2 => q α2 H2 (E0.trans E2) W2
   | bad => rw [show zcr fs ρ m = (zde fs ρ m).bind _ from rfl,hf] at q; exact q
  have pn : p ∉ α := W.nin hp
  have pk : H1 p = some (.dK []) := E1.keep p _ zax pn
  have E01 : Ext α H α1 H1 := E0.trans E1
  have pn1 : p ∉ α1 := fun z => by
   obtain ⟨β,rfl,hb⟩ := E1.pre
   rcases List.mem_append.mp z with z | z
   ·exact pn z
   ·have := hb p z
    rw [zax] at this
    cases this
  refine ⟨pk,us,rfl,by rw [<- rps.length,hl,<- h.keys.2.2]; exact h15,?_⟩
  have keep : ∀ a o,H1 a = some o -> a ≠ p -> upd H1 p (.dK (zcE [] us)) a = some o := fun a o e n => by rw [zan n]; exact e
  have kp : Kp α1 H1 (α1 ++ [p]) (upd H1 p (.dK (zcE [] us))) := by
   refine ⟨⟨[p],rfl⟩,(fun a xs e => keep a _ e fun z => by rw [z,pk] at e; cases e),fun a xs n e => ?_⟩
   have hap : a ≠ p := fun z => by
    rcases e with e | ⟨_,e⟩ <;> rw [z,pk] at e <;> cases e
   refine ⟨fun z => ?_,?_⟩
   ·rcases List.mem_append.mp z with z | z
    ·exact n z
    ·exact hap (List.mem_singleton.mp z)
   ·rcases e with e | ⟨o,e⟩
    ·exact .inl (keep a _ e hap)
    ·exact .inr ⟨o,keep a _ e hap⟩
  have W2 := W1.join (u := .dK (zcE [] us)) (o := .dct (znr ps)) pn1 kp ⟨_,zax,zic ps (rps.kp kp) (show RepKV X.K _ _ [] [] from rfl)⟩
  have E2 : Ext α H (α1 ++ [p]) (upd H1 p (.dK (zcE [] us))) := by
   obtain ⟨β,hβ,hb⟩ := E01.pre
   refine ⟨⟨β ++ [p],by rw [hβ,List.append_assoc],fun b hbm => ?_⟩,fun a o e n => ?_,fun a ha => ?_,fun a o u e => keep a _ (E01.frzs a o u e) (zay e hp)⟩
   ·rcases List.mem_append.mp hbm with z | z
    ·exact hb b z
    ·rw [List.mem_singleton.mp z]; exact hp
   ·exact keep a o (E01.keep a o e n) (zay e hp)
   ·rw [zan (fun z => pn (by rw [<- z]; exact ha))]; exact E01.there a ha
  refine q1 _ _ E2 W2 _ ?_
  rw [Rep]
  refine ⟨p,?_,rfl⟩
  rw [<- W1.len,List.getElem?_append_right (Nat.le_refl _)]
  simp⟩
end
structure FnX (P : Program) (w : World) (K : PySem.W.Frag) (mg : Str -> Option Value) (base : Heap) (cl : Str -> Addr) (x : Str) (k n : Nat) (g : List D -> Sto -> Res D) : Prop where
 ex : ∃ (f : Addr) (fd : FuncData) (ps : List Str),mg x = some (.ref f) /\ PySem.W.keepIn K (.ref f) = true /\ Binds K fd ps [] /\ FnOk P w K mg base CX0 k f fd ps (spD K cl X0 n g)
theorem qe_fn {X : Cx} {cl : Str -> Addr} {e : Expr} {es : List Expr} {fr : AV} {p pos : Pos} {x : Str} {k n : Nat} {g : List D -> Sto -> Res D} (h : FnX X.prog X.w X.K X.mg X.base cl x k n g) (hn : n = (e :: es).length) (hr : Room k X.A) (hg : Gl X x)
  (ha : QA X cl X0 (e :: es) fr) (hlen : ∀ ρ m ds m1,fr ρ m = .ok ds m1 -> ds.length = (e :: es).length) (hdb : autoParam ((x == ("__debug__" : Str)) = false) AutoP.a1._auto_1) (he : autoParam (starEach (e :: es) X.env = (false,eval e X.env) :: starEach es X.env) AutoP.a3._auto_1) (hpl : autoParam ((backTo pos (starEach es X.env)).any (·.1) = false) AutoP.a3._auto_1) :
  QE X cl X0 (.Call (.Name x p) (e :: es) [] pos) (eFn g fr) := by
 obtain ⟨f,fd,ps,h1,h2,h3,h4⟩ := h.ex
 exact zq1 h4 hn hr hg h1 h2 h3 ha hlen hdb he hpl
theorem FnX.mk' {P : Program} {w : World} {K : PySem.W.Frag} {mg : Str -> Option Value} {base : Heap} {cl : Str -> Addr} {x qual : Str} {st : Stmt} {f : Addr} {fd : FuncData} {N ps : List Str} {k n : Nat} {body : SV} (F : Fun K x qual st f fd) (b : Binds K fd ps []) (m : mg x = some (.ref f)) (S : FnScope N ps (zai st)) (hn : n = ps.length)
  (h : ∀ (cdv : Value) (A : Around) (outer : List PySem.Env) (s : Shared) (H : Hp) (E : XK),Room k (A.deeper (envOfC qual (zai st) s.heap.objs.size f cdv)) -> QSs (zl3 CX0 P w K mg base N qual (zai st) f cdv A outer s H E).nox cl X0 (zbu st) body) : FnX P w K mg base cl x (k + 1) n (za8 N.length body) :=
 ⟨f,fd,ps,m,F.kp,b,F.ok S (fun vs H Q E h => by rw [<- hn]; exact h.1) fun cdv A outer s H vs Q E hr q => ⟨_,(h cdv A outer s H E hr).out,fn_d q⟩⟩
theorem FnX.none {P : Program} {w : World} {K : PySem.W.Frag} {mg : Str -> Option Value} {base : Heap} {cl : Str -> Addr} {x qual : Str} {st : Stmt} {f : Addr} {fd : FuncData} {ps : List Str} {k n : Nat} (F : Fun K x qual st f fd) (b : Binds K fd ps []) (m : mg x = some (.ref f)) : FnX P w K mg base cl x k n (fun _ _ => .bad) :=
 ⟨f,fd,ps,m,F.kp,b,⟨fun vs H Q E h => (by obtain ⟨_,_,_,_,_,_,q⟩ := h; exact q.elim),fun A outer s H args us vs Q E _ _ _ _ h => (by obtain ⟨_,_,_,_,_,_,q⟩ := h; exact q.elim)⟩⟩
mutual
def clsd (n : Nat) : D -> Bool
 | .ob k => decide (k < n)
 | .tup ds => clsdL n ds
 | .lst ds => clsdL n ds
 | .scr ds => clsdL n ds
 | _ => true
def clsdL (n : Nat) : List D -> Bool
 | [] => true
 | d :: r => clsd n d && clsdL n r
end
section
variable {K : PySem.W.Frag} {cl : Str -> Addr} {ex : XD} {α β : List Addr} {m m1 : Sto} {H : Hp}
mutual
theorem Rep.clsd : ∀ {d : D} {v : V},Rep K α H d v -> MD.clsd α.length d = true
 | .non,_,_ => by simp [MD.clsd]
 | .bl _,_,_ => by simp [MD.clsd]
 | .int _,_,_ => by simp [MD.clsd]
 | .str _,_,_ => by simp [MD.clsd]
 | .flt _,_,_ => by simp [MD.clsd]
 | .byt _,_,_ => by simp [MD.clsd]
 | .ob k,_,h => by
  rw [Rep] at h
  obtain ⟨a,h1,_⟩ := h
  rw [MD.clsd]
  exact decide_eq_true (List.getElem?_eq_some_iff.mp h1).1
 | .tup ds,_,h => by
  rw [Rep] at h
  obtain ⟨_,_,_,_,h2⟩ := h
  rw [MD.clsd]
  exact RepL.clsd h2
 | .lst ds,_,h => by
  rw [Rep] at h
  obtain ⟨_,_,_,_,_,h2⟩ := h
  rw [MD.clsd]
  exact RepL.clsd h2
 | .scr ds,_,h => by
  rw [Rep] at h
  obtain ⟨_,_,_,_,h2⟩ := h
  rw [MD.clsd]
  exact RepL.clsd h2
theorem RepL.clsd : ∀ {ds : List D} {vs : List V},RepL K α H ds vs -> clsdL α.length ds = true
 | [],_,_ => by simp [clsdL]
 | _ :: _,_,h => by
  rw [RepL] at h
  obtain ⟨_,_,_,h1,h2⟩ := h
  rw [clsdL,Bool.and_eq_true]
  exact ⟨Rep.clsd h1,RepL.clsd h2⟩
end
mutual
theorem Rep.less : ∀ {d : D} {v : V},MD.clsd α.length d = true -> Rep K (α ++ β) H d v -> Rep K α H d v
 | .non,_,_,h => by simpa [Rep] using h
 | .bl _,_,_,h => by simpa [Rep] using h
 | .int _,_,_,h => by simpa [Rep] using h
 | .str _,_,_,h => by simpa [Rep] using h
 | .flt _,_,_,h => by simpa [Rep] using h
 | .byt _,_,_,h => by simpa [Rep] using h
 | .ob k,_,c,h => by
  rw [Rep] at h ⊢
  obtain ⟨a,h1,h2⟩ := h
  rw [MD.clsd] at c
  rw [List.getElem?_append_left (of_decide_eq_true c)] at h1
  exact ⟨a,h1,h2⟩
 | .tup ds,_,c,h => by
  rw [Rep] at h ⊢
  obtain ⟨a,xs,e,h1,h2⟩ := h
  rw [MD.clsd] at c
  exact ⟨a,xs,e,h1,RepL.less c h2⟩
 | .lst ds,_,c,h => by
  rw [Rep] at h ⊢
  obtain ⟨a,xs,e,n,h1,h2⟩ := h
  rw [MD.clsd] at c
  exact ⟨a,xs,e,fun z => n (List.mem_append_left _ z),h1,RepL.less c h2⟩
 | .scr ds,_,c,h => by
  rw [Rep] at h ⊢
  obtain ⟨a,xs,e,h1,h2⟩ := h
  rw [MD.clsd] at c
  refine ⟨a,xs,e,?_,RepL.less c h2⟩
  rcases h1 with h1 | h1
  ·exact .inl ⟨fun z => h1.1 (List.mem_append_left _ z),h1.2⟩
  ·exact .inr h1
theorem RepL.less : ∀ {ds : List D} {vs : List V},clsdL α.length ds = true -> RepL K (α ++ β) H ds vs -> RepL K α H ds vs
 | [],_,_,h => by rw [RepL] at h ⊢; exact h
 | _ :: _,_,c,h => by
  rw [RepL] at h ⊢
  obtain ⟨v,r,e,h1,h2⟩ := h
  rw [clsdL,Bool.and_eq_true] at c
  exact ⟨v,r,e,Rep.less c.1 h1,RepL.less c.2 h2⟩
end
theorem RepKV.less {H0 : Hp} : ∀ {ds : List (L2.Key × D)} {vs us : List (L2.Key × V)},RepKV K α H0 ds us -> RepKV K (α ++ β) H ds vs -> RepKV K α H ds vs
 | [],_,_,_,h => h
 | _ :: _,_,_,⟨_,_,_,c1,c2⟩,⟨v,r,e,h1,h2⟩ => ⟨v,r,e,h1.less c1.clsd,RepKV.less c2 h2⟩
theorem RepF.less {H0 : Hp} : ∀ {ds : List (Str × D)} {vs us : List (Str × V)},RepF K α H0 ds us -> RepF K (α ++ β) H ds vs -> RepF K α H ds vs
 | [],_,_,_,h => h
 | _ :: _,_,_,⟨_,_,_,c1,c2⟩,⟨v,r,e,h1,h2⟩ => ⟨v,r,e,h1.less c1.clsd,RepF.less c2 h2⟩
theorem Wd.less {H0 : Hp} (W0 : Wd K cl α m H0) (W : Wd K cl (α ++ β) m1 H) (e : m1.take m.length = m) : Wd K cl α m H := by
 refine ⟨W0.len,(List.nodup_append.mp W.nd).1,fun k a o h1 h2 => ?_⟩
 have hk := (List.getElem?_eq_some_iff.mp h1).1
 have hm : k < m.length := (List.getElem?_eq_some_iff.mp h2).1
 have h3 : m1[k]? = some o := by
  rw [<- e,List.getElem?_take_of_lt hm] at h2
  exact h2
 have q := W.at' k a o (by rw [List.getElem?_append_left hk]; exact h1) h3
 have q0 := W0.at' k a o h1 h2
 cases o with
 | lst ds => obtain ⟨xs,a1,a2⟩ := q; obtain ⟨_,_,b2⟩ := q0; exact ⟨xs,a1,a2.less b2.clsd⟩
 | dct ds => obtain ⟨xs,a1,a2⟩ := q; obtain ⟨_,_,b2⟩ := q0; exact ⟨xs,a1,RepKV.less b2 a2⟩
 | ins c ds => obtain ⟨dx,xs,a1,a2⟩ := q; obtain ⟨_,_,_,b2⟩ := q0; exact ⟨dx,xs,a1,RepF.less b2 a2⟩
 | hid => exact q
end
def frz (m : Sto) (n : Nat) (d : D) : D := match d with
 | .ob k => if n <= k then match m[k]? with
  | some (.lst xs) => .lst xs
  | _ => .ob k else .ob k
 | d => d
open Classical in
def locF (g : List D -> Sto -> Res D) : List D -> Sto -> Res D := fun ds m => (g ds m).bind fun d m1 => if m1.take m.length = m /\ clsd m.length (frz m1 m.length d) = true then .ok (frz m1 m.length d) m else .bad
theorem znZ (m : Sto) (n : Nat) (d : D) : frz m n d = d ∨ ∃ k xs,d = .ob k /\ n <= k /\ m[k]? = some (.lst xs) /\ frz m n d = .lst xs := by
 cases d with
 | ob k =>
  by_cases hk : n <= k
  ·cases h : m[k]? with
   | none => left; simp [frz,h]
   | some o =>
    cases o with
    | lst xs => right; exact ⟨k,xs,rfl,hk,h,by simp [frz,hk,h]⟩
    | dct _ => left; simp [frz,h]
    | ins _ _ => left; simp [frz,h]
    | hid => left; simp [frz,h]
  ·left; simp [frz,hk]
 | _ => left; rfl
theorem zqU {K : PySem.W.Frag} {cl : Str -> Addr} {α β : List Addr} {m m1 : Sto} {H : Hp} {d : D} {v : V} (W : Wd K cl (α ++ β) m1 H) (e : α.length = m.length) (c : clsd m.length (frz m1 m.length d) = true) (r : Rep K (α ++ β) H d v) : Rep K α H (frz m1 m.length d) v := by
 rw [<- e] at c ⊢
 rcases znZ m1 α.length d with h | ⟨k,xs,rfl,hk,hx,h⟩
 ·rw [h] at c ⊢
  exact Rep.less c r
 ·rw [h] at c ⊢
  rw [Rep] at r
  obtain ⟨a,h1,rfl⟩ := r
  obtain ⟨ys,h2,r2⟩ := W.lst h1 hx
  rw [clsd] at c
  rw [Rep]
  refine ⟨a,ys,rfl,fun z => ?_,.inl h2,r2.less c⟩
  obtain ⟨j,hj,hja⟩ := List.mem_iff_getElem.mp z
  obtain ⟨hk2,hka⟩ := List.getElem?_eq_some_iff.mp h1
  have : j = k := (List.getElem_inj (i := j) (j := k) (h₀ := by rw [List.length_append]; omega) (h₁ := hk2) W.nd).mp (by rw [List.getElem_append_left hj,hja,hka])
  omega
open Classical in
theorem FnX.loc {P : Program} {w : World} {K : PySem.W.Frag} {mg : Str -> Option Value} {base : Heap} {cl : Str -> Addr} {x : Str} {k n : Nat} {g : List D -> Sto -> Res D} (h : FnX P w K mg base cl x k n g) : FnX P w K mg base cl x k n (locF g) := by
 obtain ⟨f,fd,ps,h1,h2,h3,h4⟩ := h.ex
 refine ⟨f,fd,ps,h1,h2,h3,h4.imp fun vs H Q E ⟨hn,α,m,ds,W,r,q⟩ => ⟨hn,α,m,ds,W,r,?_⟩⟩
 unfold locF at q
 cases hg : g ds m with
 | bad => rw [hg] at q; exact q.elim
 | exc c m1 => rw [hg] at q; exact q
 | ok d m1 =>
  rw [hg] at q
  have q' : PQ K cl X0 (if m1.take m.length = m /\ clsd m.length (frz m1 m.length d) = true then .ok (frz m1 m.length d) m else .bad) α H fun d α' _ H' => ∀ v,Rep K α' H' d v -> Q v H' := q
  obtain ⟨⟨c1,c2⟩,q2⟩ := PQ.if q'
  intro α1 H1 E1 W1 v rv
  obtain ⟨β,rfl,hb⟩ := E1.pre
  have E2 : Ext α H α H1 := ⟨⟨[],by simp,fun _ h => nomatch h⟩,E1.keep,E1.there,E1.frzs⟩
  exact q2 α H1 E2 (W.less W1 c1) v (zqU W1 W.len c2 rv)
theorem fnO {P : Program} {w : World} {K : PySem.W.Frag} {mg : Str -> Option Value} {base : Heap} {cl : Str -> Addr} {x qual : Str} {st : Stmt} {f : Addr} {fd : FuncData} {N ps : List Str} {k n : Nat} {body : SV} (F : Fun K x qual st f fd) (S : FnScope N ps (zai st)) (hn : n = ps.length)
  (h : ∀ (cdv : Value) (A : Around) (outer : List PySem.Env) (s : Shared) (H : Hp) (E : XK),Room k (A.deeper (envOfC qual (zai st) s.heap.objs.size f cdv)) -> QSs (zl3 CX0 P w K mg base N qual (zai st) f cdv A outer s H E).nox cl X0 (zbu st) body) : FnOk P w K mg base CX0 (k + 1) f fd ps (spD K cl X0 n (za8 N.length body)) :=
 F.ok S (fun vs H Q E h => by rw [<- hn]; exact h.1) fun cdv A outer s H vs Q E hr q => ⟨_,(h cdv A outer s H E hr).out,fn_d q⟩
def spLaw (K : PySem.W.Frag) : Sp := fun vs H Q _ => ∃ (a : Addr) (ns : List Int),vs = [.ref a] /\ SqL K H a (ns.map V.int) /\ ns.length <= 63 /\ ∀ H',Q (.bl true) H'
theorem zie {K : PySem.W.Frag} {α : List Addr} {H : Hp} : ∀ ns : List Int,RepL K α H (ns.map D.int) (ns.map V.int)
 | [] => by simp [RepL]
 | a :: r => by
  rw [List.map_cons,List.map_cons,RepL]
  exact ⟨_,_,rfl,by rw [Rep],zie r⟩
theorem law_sp {K : PySem.W.Frag} {cl : Str -> Addr} {g : List D -> Sto -> Res D} (h : ∀ ns : List Int,ns.length <= 63 -> ∃ a m,g [.scr (ns.map D.int)] [] = .ok a m /\ a = .bl true) : ∀ vs H Q E,spLaw K vs H Q E -> spD K cl X0 1 g vs H Q E := by
 rintro vs H Q E ⟨a,ns,rfl,hS,hlen,q⟩
 obtain ⟨_,m',e,rfl⟩ := h ns hlen
 refine ⟨rfl,[],[],[.scr (ns.map D.int)],⟨rfl,List.nodup_nil,fun k a o h => by simp at h⟩,?_,?_⟩
 ·rw [RepL]
  refine ⟨_,_,rfl,?_,by rw [RepL]⟩
  rw [Rep]
  refine ⟨a,_,rfl,?_,zie ns⟩
  rcases hS with hS | hS
  ·exact .inl ⟨by simp,hS⟩
  ·exact .inr hS
 ·rw [e]
  intro α' H' _ _ v r
  rw [Rep] at r
  subst r
  exact q H'
theorem law_fn {P : Program} {w : World} {K : PySem.W.Frag} {mg : Str -> Option Value} {base : Heap} {cl : Str -> Addr} {k : Nat} {f : Addr} {fd : FuncData} {ps : List Str} {g : List D -> Sto -> Res D} (F : FnOk P w K mg base CX0 k f fd ps (spD K cl X0 1 g)) (h : ∀ ns : List Int,ns.length <= 63 -> ∃ a m,g [.scr (ns.map D.int)] [] = .ok a m /\ a = .bl true) : FnOk P w K mg base CX0 k f fd ps (spLaw K) := F.imp (law_sp h)
theorem usS {us : List Value} {n : Nat} (hl : us.length = n + 1) : ∃ a r,us = a :: r /\ r.length = n := by
 cases us with
 | nil => exact absurd hl (by simp)
 | cons a r => exact ⟨a,r,rfl,Nat.succ.inj hl⟩
theorem us0 {us : List Value} (hl : us.length = 0) : us = [] := List.length_eq_zero_iff.mp hl
theorem us1 {us : List Value} (hl : us.length = 1) : ∃ (a0 : Value),us = [a0] := by
 obtain ⟨a0,r,rfl,h⟩ := usS hl
 obtain rfl := us0 h
 exact ⟨a0,rfl⟩
theorem us2 {us : List Value} (hl : us.length = 2) : ∃ (a0 a1 : Value),us = [a0,a1] := by
 obtain ⟨a0,r,rfl,h⟩ := usS hl
 obtain ⟨a1,rfl⟩ := us1 h
 exact ⟨a0,a1,rfl⟩
theorem us3 {us : List Value} (hl : us.length = 3) : ∃ (a0 a1 a2 : Value),us = [a0,a1,a2] := by
 obtain ⟨a0,r,rfl,h⟩ := usS hl
 obtain ⟨a1,a2,rfl⟩ := us2 h
 exact ⟨a0,a1,a2,rfl⟩
theorem us4 {us : List Value} (hl : us.length = 4) : ∃ (a0 a1 a2 a3 : Value),us = [a0,a1,a2,a3] := by
 obtain ⟨a0,r,rfl,h⟩ := usS hl
 obtain ⟨a1,a2,a3,rfl⟩ := us3 h
 exact ⟨a0,a1,a2,a3,rfl⟩
theorem us5 {us : List Value} (hl : us.length = 5) : ∃ (a0 a1 a2 a3 a4 : Value),us = [a0,a1,a2,a3,a4] := by
 obtain ⟨a0,r,rfl,h⟩ := usS hl
 obtain ⟨a1,a2,a3,a4,rfl⟩ := us4 h
 exact ⟨a0,a1,a2,a3,a4,rfl⟩
def maxV (ns : List Int) : Int := ns.getD (argBest (fun i j => decide (ns.getD i 0 > ns.getD j 0)) (ns.length - 1)) 0
theorem zqy {ns : List Int} {its : List Value} (r : Vals (ns.map V.int) its) : ∃ xs : Array (Int × Tok),its.toArray = intItems xs /\ xs.size = ns.length /\ ∀ i,numAt xs i = ns.getD i 0 := by
 induction ns generalizing its with
 | nil => cases r; exact ⟨#[],by simp [intItems],rfl,fun i => by simp [numAt]⟩
 | cons a ns ih =>
  cases r with
  | cons h r =>
   obtain ⟨t,rfl⟩ := h
   obtain ⟨xs,e,hs,hx⟩ := ih r
   refine ⟨⟨(a,t) :: xs.toList⟩,?_,by simp [hs],fun i => ?_⟩
   ·have e' := congrArg Array.toList e
    simp only [intItems] at e' ⊢
    apply Array.ext'
    simpa using e'
   ·cases i with
    | zero => rfl
    | succ i =>
     have := hx i
     simpa [numAt] using this
theorem zgX {bt : Nat -> Nat -> Bool} : ∀ n,argBest bt n <= n
 | 0 => Nat.le_refl _
 | n + 1 => by
  unfold argBest
  split
  ·exact Nat.le_refl _
  ·exact Nat.le_succ_of_le (zgX n)
theorem zj7 (f : Nat -> Int) : ∀ n i,i <= n -> f i <= f (argBest (fun i j => decide (f i > f j)) n)
 | 0,i,h => by
  have : i = 0 := by omega
  subst this
  exact Int.le_refl _
 | n + 1,i,h => by
  unfold argBest
  by_cases c : f (n + 1) > f (argBest (fun i j => decide (f i > f j)) n)
  ·rw [if_pos (decide_eq_true c)]
   rcases Nat.lt_or_ge n i with hi | hi
   ·rw [show i = n + 1 by omega]; exact Int.le_refl _
   ·have := zj7 f n i hi
    omega
  ·rw [if_neg (by rw [decide_eq_true_eq]; exact c)]
   rcases Nat.lt_or_ge n i with hi | hi
   ·rw [show i = n + 1 by omega]; omega
   ·exact zj7 f n i hi
theorem zpz {ns : List Int} {i : Nat} (h : i < ns.length) : ns.getD i 0 ∈ ns := by
 rw [List.getD_eq_getElem?_getD,List.getElem?_eq_getElem h]
 exact List.getElem_mem h
theorem zpr {ns : List Int} (h : ns ≠ []) : maxV ns ∈ ns := zpz (by have := zgX (bt := fun i j => decide (ns.getD i 0 > ns.getD j 0)) (ns.length - 1); have := List.length_pos_iff.mpr h; omega)
theorem zrY {ns : List Int} {a : Int} (h : a ∈ ns) : a <= maxV ns := by
 obtain ⟨i,hi,rfl⟩ := List.mem_iff_getElem.mp h
 have := zj7 (fun i => ns.getD i 0) (ns.length - 1) i (by omega)
 have e : ns.getD i 0 = ns[i] := by rw [List.getD_eq_getElem?_getD,List.getElem?_eq_getElem hi]; rfl
 rw [<- e]
 exact this
end MD
set_option autoImplicit false
namespace HT
open PySem PySem.Spec PyProof.Rows L2
end HT
namespace MD
open PySem PySem.Spec PyProof.Rows L2
def slA (x : D) (lo hi : Option Int) (m : Sto) : Res D := match x with
 | .tup ds => .ok (.tup (zoh ds lo hi)) m
 | d => slD d lo hi m
def eSlA (f : EV) (lo hi : OV) : EV := fun ρ m => (f ρ m).bind fun x m1 => (lo ρ m1).bind fun l m2 => (hi ρ m2).bind fun h m3 => slA x l h m3
end MD
set_option autoImplicit false
namespace HT
open PySem PySem.Spec PyProof.Rows L2
end HT
namespace MD
open PySem PySem.Spec PyProof.Rows L2
section
variable {X : Cx} {K : PySem.W.Frag} {cl : Str -> Addr} {ex : XD} {α : List Addr} {m : Sto} {H : Hp} {pos : Pos}
theorem zfe : QE X cl ex (.Dict [] [] pos) (zcr []) :=
 ⟨PE.weak zpc fun σ H Q hh => ex3 hh fun α ρ m W hr q p hp => by
  obtain ⟨W2,E2⟩ := W.new (u := .dK []) (o := .dct []) hp ⟨_,zax,(show RepKV X.K _ _ [] [] from rfl)⟩
  have q' : PQ X.K cl ex (.ok (.ob m.length) (m ++ [.dct []])) α H fun d α' _ H' => ∀ v,Rep X.K α' H' d v -> Q v H' := q
  refine q' _ _ E2 W2 _ ?_
  rw [Rep]
  refine ⟨p,?_,rfl⟩
  rw [<- W.len,List.getElem?_append_right (Nat.le_refl _),Nat.sub_self]
  rfl⟩
end
def zeq : Nat := 1000000
def zgK : SV := by walk_at "#79u@uNuH6uAueb%P!yPig:wJ"
def zaZ : List D -> Sto -> Res D := za8 3 zgK
def zdv : SV := by walk_at "#GxXuB79u:uNuH%v%vjwKxY+*w{wL6uI,uIh,F8ue,Fu:5+"
def zbr : List D -> Sto -> Res D := locF (za8 5 zdv)
def zkN : SV := by walk_at "#5uM6uf%"
def zb3 : List D -> Sto -> Res D := za8 2 zkN
def zel : SV := by walk_at "#5h6!w|ug%6u;"
def za9 : List D -> Sto -> Res D := za8 3 zel
def zkT : SV := by walk_at "#_w|*yQug%+Lu-#vp"
def zf2 : List D -> Sto -> Res D := za8 5 zkT
def zgP : SV := by walk_at "#_wMuHudu@v9u.-"
def zbR : List D -> Sto -> Res D := za8 1 zgP
def zkL : SV := by walk_at "#T{m%6wJI5u_vqwz{n{o6uh+vEvp"
def zfU : List D -> Sto -> Res D := za8 3 zkL
def zgO : SV := by walk_at "#7xWBud%uI-w}vrAub@uy7vF%u#=vCui9u$yR_w|v&S=bui-FvGHvCui9u$vY_{pRu+-v'u-HvCui9u$ySwNB,ui-vFui-u#>_w|v&S=buiPS>vGH5S="
def zcL : List D -> Sto -> Res D := za8 9 zgO
def ziK : SV := by walk_at "#wOxZ59IwOw~5vsIwJ"
def zbB : List D -> Sto -> Res D := za8 2 ziK
def zkK : SV := by walk_at "#_yAO{qu.P!yTvpvry=?uyv9!{riv$"
def zdu : List D -> Sto -> Res D := za8 2 zkK
def zfT : SV := by walk_at "#wOxZ5+IwOw~_{soi<u_PL<vsH5,"
def zb6 : List D -> Sto -> Res D := za8 4 zfT
def zkP : SV := by walk_at "#Gv6vtuNx[!yUi*yVvH8vr@ub=uyG{t^vlLvGu-g>uea!v6*{uRu.Pu+RBudu+-vuv'#vt5a"
def zfY : List D -> Sto -> Res D := za8 9 zkP
def ziV : SV := by walk_at "#7u$yWuAuNvIouOuj!{vuaw46P#+uAvSNx]6Pu#u'5+"
def zbD : List D -> Sto -> Res D := za8 4 ziV
def zcI (self : List D -> Sto -> Res D) : SV :=
 (zap (sIf (tV (eUn (zhW "tuple") (zae 1)))
 (zap (sIf (zmg (zjo (tV (eUn (zhW "tuple") (zae 0)))) (tV (eOp neD (eFn ziA (zac (zae 0) zaj)) (eFn ziA (zac (zae 1) zaj)))))
 (zaE (eC (.bl false)))
 zba)
 (zaE (eFn allF (zac (eFn gL1 (zda 2 (aZip (zae 0) (zae 1)) (gT 2 (zaP (gN 2) (zaP (gN 3) zeY))) zc6 (eFn self (zac (zae 2) (zac (zae 3) zaj))))) zaj))))
 zba)
 (zap (sIf (tV (eOp isD (zae 1) (eC .non)))
 (zaE (eOp isD (zae 0) (eC .non)))
 zba)
 (zap (sIf (tV (eUn (zhW "str") (zae 1)))
 (zaE (eAnd (eUn (zhW "str") (zae 0)) (eOp eqD (zae 0) (zae 1))))
 zba)
 (zaE (eAnd (eUn (zhW "int") (zae 0)) (eAnd (eNot (eUn (zhW "bool") (zae 0))) (eOp eqD (zae 0) (zae 1))))))))
def zaU : Nat -> List D -> Sto -> Res D
 | 0 => fun _ _ => .bad
 | n + 1 => za8 2 (zcI (zaU n))
def zbC : List D -> Sto -> Res D := zaU 12
def zkM : SV := by walk_at "#_yX*yVvH8"
def zem : List D -> Sto -> Res D := za8 2 zkM
section
variable {X : Cx} {K : PySem.W.Frag} {cl : Str -> Addr} {ex : XD} {o i : Expr} {fo fi : EV} {pos : Pos}
def putL (x y v : D) (m : Sto) : Res Unit := match x,y with
 | .ob k,.int i => match m[k]? with
  | some (.lst ds) => match ixN ds.length i with
   | some j => .ok () (m.set k (.lst (ds.set j v)))
   | none => .bad
  | _ => .bad
 | _,_ => .bad
def gI (fo fi : EV) : GV := fun d ρ m => (fo ρ m).bind fun x m1 => (fi ρ m1).bind fun y m2 => (putL x y d m2).bind fun _ m3 => .ok ρ m3
theorem RepL.put {α : List Addr} {H : Hp} {d : D} {v : V} (h : Rep K α H d v) : ∀ {ds : List D} {vs : List V} (j : Nat),RepL K α H ds vs -> RepL K α H (ds.set j d) (vs.set j v)
 | [],vs,j,r => by
  rw [RepL] at r
  subst r
  simp [RepL]
 | e :: ds,vs,j,r => by
  rw [RepL] at r
  obtain ⟨u,us,rfl,r1,r2⟩ := r
  cases j with
  | zero => rw [List.set_cons_zero,List.set_cons_zero,RepL]; exact ⟨v,us,rfl,h,r2⟩
  | succ j => rw [List.set_cons_succ,List.set_cons_succ,RepL]; exact ⟨u,_,rfl,r1,RepL.put h j r2⟩
theorem zqX (ho : QE X cl ex o fo) (hi : QE X cl ex i fi) (ha : autoParam (∀ v,assign (.Subscript o i pos) X.env v = (do
   let ov <- holding [v] (eval o X.env)
   let iv <- holding [v,ov] (eval i X.env)
   standAt pos
   holding [v,ov,iv] (setItem ov iv v)
   release [v,ov,iv] [])) AutoP.a2._auto_1) : QG X cl ex (.Subscript o i pos) (gI fo fi) :=
 ⟨PG.weak (pg_sub ho.out hi.out zoJ ha) fun v σ H Q ⟨α,ρ,m,d,W,hr,rv,h⟩ => tD.use W hr h fun α1 m1 H1 dx x E1 W1 hr1 rx q1 => tD.use W1 hr1 q1 fun α2 m2 H2 dy y E2 W2 hr2 ry q2 => by
  have rv := rv.mono W (E1.trans E2)
  have rx := rx.mono W1 E2
  unfold putL at q2
  split at q2
  ·rw [Rep] at rx
   rw [Rep] at ry
   obtain ⟨a,ha,rfl⟩ := rx
   subst ry
   split at q2
   ·rename_i ds e
    split at q2
    ·rename_i j' ej
     obtain ⟨ys,h1,r1⟩ := W2.lst ha e
     obtain ⟨W4,E4⟩ := W2.set (u := .lst (ys.set j' v)) (o := .lst (ds.set j' d)) ha fun E => ⟨_,zax,RepL.put (rv.mono W2 E) j' (r1.mono W2 E)⟩
     refine ⟨a,ys,_,j',rfl,rfl,h1,by rw [<- r1.length]; exact ej,?_⟩
     exact (show PQ X.K cl ex (.ok ρ (m2.set _ (.lst (ds.set j' d)))) α2 H2 _ from q2) _ _ E4 W4 _ (hr2.mono W2 E4)
    ·exact q2.elim
   ·exact q2.elim
  ·exact q2.elim⟩
end
end MD
namespace L2
open PySem PySem.Spec PyProof.Rows
variable {X : Cx} {e : Expr} {te : TE} {pos : Pos}
end L2
set_option autoImplicit false
namespace MD
open PySem PySem.Spec PyProof.Rows L2
def zrQ (x y : D) (m : Sto) : Res D := match x,y with
 | .int i,.int j => if i.natAbs.log2 < 1100 /\ j.natAbs.log2 < 1100 then .ok (.int (i * j)) m else .bad
 | _,_ => .bad
theorem zno : ∃ f : D -> D -> Sto -> Res D,f = zrQ := ⟨_,rfl⟩
def zrR : D -> D -> Sto -> Res D := Classical.choose zno
theorem znp : zrR = zrQ := Classical.choose_spec zno
theorem zjf {a : Int} (h : a.natAbs.log2 < 1100) : Builtin.Int.intBits a <= 2 ^ 20 := by
 unfold Builtin.Int.intBits
 split
 ·exact Nat.zero_le _
 ·exact Nat.le_trans (Nat.succ_le_of_lt h) (by decide)
theorem zht {X : Cx} : OpR X (binaryOp .Mult) (rI IntMulOk fun i j => .int (i * j)) := opI fun _ _ _ _ _ _ _ hc q => mul_int q hc
theorem zhD {K : PySem.W.Frag} {cl : Str -> Addr} {ex : XD} : OpD K cl ex (rI IntMulOk fun i j => .int (i * j)) zrR := fun α m H x y vx vy Q W rx ry h => by
 rw [znp] at h; unfold zrQ at h
 split at h
 ·rw [Rep] at rx ry; obtain ⟨hc,h⟩ := PQ.if h; exact ⟨_,_,rx,ry,IntMulOk.of_bits (zjf hc.1) (zjf hc.2),PQ.ok W h _ zeS⟩
 ·exact h.elim
open Classical in
def grd {τ : Type} (k : Nat) (o : MO) (m : Sto) (r : Res τ) : Res τ := if m[k]? = some o then r else .bad
theorem zqg {τ : Type} {k : Nat} {o : MO} {m : Sto} {r : Res τ} (h : m[k]? = some o) : grd k o m r = r := if_pos h
def znw (k : Nat) (o : MO) (g : GV) (body : SV) : List D -> En -> Sto -> Res Fl
 | [],ρ,m => grd k o m (.ok (.nx ρ) m)
 | d :: r,ρ,m => grd k o m ((g d ρ m).bind fun ρ1 m1 => (body ρ1 m1).bind fun fl m2 => match fl with
  | .nx ρ2 => znw k o g body r ρ2 m2
  | .ct ρ2 => znw k o g body r ρ2 m2
  | .bk ρ2 => .ok (.nx ρ2) m2
  | .rt d => .ok (.rt d) m2)
abbrev OI := En -> Sto -> Res (Nat × MO × List D)
def asObj (d : D) (m : Sto) : Res (Nat × MO × List D) := match d with
 | .ob k => match m[k]? with
  | some (.lst xs) => .ok (k,.lst xs,xs) m
  | _ => .bad
 | _ => .bad
def aObj (fa : EV) : OI := fun ρ m => (fa ρ m).bind asObj
def sForO (it : OI) (g : GV) (body : SV) : SV := fun ρ m => (it ρ m).bind fun t m1 => znw t.1 t.2.1 g body t.2.2 ρ m1
def zet (k : Nat) (o : MO) (g : GV) (c : TV) (el : EV) (ρ : En) : List D -> Sto -> Res (List D)
 | [],m => grd k o m (.ok [] m)
 | d :: r,m => grd k o m ((g d ρ m).bind fun ρ1 m1 => (c ρ1 m1).bind fun b m2 => if b = true then (el ρ1 m2).bind fun x m3 => (zet k o g c el ρ r m3).bind fun xs m4 => .ok (x :: xs) m4 else zet k o g c el ρ r m2)
def ItO (K : PySem.W.Frag) (cl : Str -> Addr) (α : List Addr) (H : Hp) (J : It) (k : Nat) (o : MO) (ds : List D) : Prop :=
 ∀ (i : Nat) (α1 : List Addr) (m1 : Sto) (H1 : Hp),Ext α H α1 H1 -> Wd K cl α1 m1 H1 -> m1[k]? = some o -> (∀ d,ds[i]? = some d -> J.go i H1 /\ ∀ x H2,J.yld i H1 x H2 -> Same H1 H2 /\ Rep K α1 H2 d x) /\ (i = ds.length -> J.stop i H1)
def zkQ : SV := by walk_at "#7E{wu@GxXuB7Nx!Nx!Nx!Nx!wPwPwPwPwPu:uNuHxW6w}uIE{xv%7vqhb%EyYuMFyBw:E=E{yu@ux]x^!yZu-#yB{zv8wKxY+uaw4!yZu-#,H5w9v:uWyJ+uWy[%uWvY9"
def zep : List D -> Sto -> Res D := za8 5 zkQ
def ziS : SV := by walk_at "#Yx_vZuXuPvm!vT#wQBwR9v8wKy]vmwSTw7vm!vT#7uMBwR%uA7Nx]BwR%{{wR5+IwT6u$vYhvfvY-7vfvYu:ujhvfy[bb,wU{|bwU{}v%7uMbFE{~E|!v%7uMbFhuMFEyYE|#E|$v%5uMNx]FE|%%"
def zav : List D -> Sto -> Res D := za8 5 ziS
def znX : SV := by walk_at "#5u.xI*xRo8"
def zaM : List D -> Sto -> Res D := za8 2 znX
def zfZ : SV := by walk_at "#GvTpv!ugufvvvwwV%#uB5uMvFvJ1#uf%"
def za6 : List D -> Sto -> Res D := za8 3 zfZ
def zgL : SV := by walk_at "#GxF/>uOTvU,Pk|&HTvUwU1kyR*x`^i8IvCwU1Gxav&PvJuY#wV+vxGv6vwwV+#v&bPvJ>#-#vrAub@uykvY*wWwMvIu-g>v9vqabu+S>uf+8IruXu/wU=]xb%9GvTpv!v(-zq/xcv(ExcugvJ|'#Excg=kySvwuh*zhv'8Ik|(#"
def zcJ : List D -> Sto -> Res D := za8 8 zgL
def zf0 : SV := by walk_at "#7u$|)uAYx#?1vw/y^#*xX8uNvIv&-xIuhvtGv#wX/1wY>/xdwZ#vy7bvFvq,bviaEy^h-vq,aE>u#=v8wKxYF*v6v'vl*|*^vGvlw[v?*yOu-#vKwH/=/xd/|+/|,/|-uazo@w["
def zb8 : List D -> Sto -> Res D := za8 8 zf0
def ziM : SV := by walk_at "#GxFxLuBTvU+vikxZHvC+vikxeHuj-xIouOkw~L*x`^L8"
def zd1 : List D -> Sto -> Res D := za8 4 ziM
def zgM : SV := by walk_at "#GwWwMuHu.9u:v9!|.^R,-#uBv?vKwX/1/@/u7wZ8vKwX/1wY@/>/xfwZ8u;"
def zb9 : List D -> Sto -> Res D := za8 3 zgM
def ziP : SV := by walk_at "#Gv#ppwXwY|/#g:uj%!v#py81/w:/|0#uBv?oivKppwHwYy_8vKppp/=/w:y8|1w["
def zd2 : List D -> Sto -> Res D := za8 3 ziP
def ziQ : SV := by walk_at "#G|2vHuBGwWwMvIvKpwXwYxf8vxv9!|3^u;uOv?ivK/u7/xf/xdwZ8L*|4^8"
def zcq : List D -> Sto -> Res D := za8 4 ziQ
end MD
set_option autoImplicit false
namespace L2
open PySem PySem.Spec PyProof.Rows
end L2
namespace MD
open PySem L2
variable {K : PySem.W.Frag} {cl : Str -> Addr} {ex : XD}
end MD
set_option autoImplicit false
namespace MD
open PySem PySem.Spec PyProof.Rows L2
def zqj (c f : Str) (x : D) (m : Sto) : Res D := match x with
 | .ob k => match m[k]? with
  | some (.ins c' fs) => if c' = c then opt (fs.lookup f) m else .bad
  | _ => .bad
 | _ => .bad
def zcw (c f : Str) (fa : EV) : EV := fun ρ m => (fa ρ m).bind (zqj c f)
def zeT (f : Str) (v : D) : List (Str × D) -> List (Str × D)
 | [] => [(f,v)]
 | (g,x) :: r => if g = f then (g,v) :: r else (g,x) :: zeT f v r
def zoK (c f : Str) (x y : D) (m : Sto) : Res Unit := match x with
 | .ob k => match m[k]? with
  | some (.ins c' fs) => if c' = c /\ fs.length < 1000 then .ok () (m.set k (.ins c (zeT f y fs))) else .bad
  | _ => .bad
 | _ => .bad
def zdm (c f : Str) (fo fv : EV) : SV := fun ρ m => (fv ρ m).bind fun y m1 => (fo ρ m1).bind fun x m2 => (zoK c f x y m2).bind fun _ m3 => .ok (.nx ρ) m3
def ziI (c mth : Str) (x : D) (m : Sto) : Bool := match x with
 | .ob k => match m[k]? with
  | some (.ins c' fs) => decide (c' = c) && (fs.lookup mth).isNone
  | _ => false
 | _ => false
def zdx (c mth : Str) (g : List D -> Sto -> Res D) (fo : EV) (fr : AV) : EV := fun ρ m => (fo ρ m).bind fun x m1 => if ziI c mth x m1 = true then (fr ρ m1).bind fun ds m2 => g (x :: ds) m2 else .bad
def mkEnd (n : Nat) (v : D) (m : Sto) : Res D := match v with
 | .non => .ok (.ob n) m
 | _ => .bad
def mkM (c : Str) (g : List D -> Sto -> Res D) (ds : List D) (m : Sto) : Res D := (g (.ob m.length :: ds) (m ++ [.ins c []])).bind (mkEnd m.length)
section
variable {K : PySem.W.Frag} {cl : Str -> Addr} {ex : XD} {α : List Addr} {m : Sto} {H : Hp}
theorem RepF.look {f : Str} : ∀ {ds : List (Str × D)} {xs : List (Str × V)},RepF K α H ds xs -> (∀ d,ds.lookup f = some d -> ∃ v,xs.lookup f = some v /\ Rep K α H d v) /\ (ds.lookup f = none -> xs.lookup f = none)
 | [],_,h => by
  cases (show _ = [] from h)
  exact ⟨fun d e => (nomatch e),fun _ => rfl⟩
 | p :: ds,_,⟨v,r,rfl,h1,h2⟩ => by
  obtain ⟨a,b⟩ := RepF.look (f := f) h2
  obtain ⟨g,x⟩ := p
  simp only [List.lookup_cons]
  cases hg : f == g with
  | true => exact ⟨fun d e => by simp only [Option.some.injEq] at e; subst e; exact ⟨v,rfl,h1⟩,fun e => by simp at e⟩
  | false => exact ⟨a,b⟩
theorem RepF.put {f : Str} {d : D} {v : V} (hv : Rep K α H d v) : ∀ {ds : List (Str × D)} {xs : List (Str × V)},RepF K α H ds xs -> RepF K α H (zeT f d ds) (zgf f v xs)
 | [],_,h => by
  cases (show _ = [] from h)
  exact ⟨v,[],rfl,hv,rfl⟩
 | p :: ds,_,⟨u,r,rfl,h1,h2⟩ => by
  obtain ⟨g,x⟩ := p
  unfold zeT zgf
  by_cases hg : g = f
  ·rw [if_pos hg]
   show RepF K α H ((g,d) :: ds) (if g = f then (g,v) :: r else (g,u) :: zgf f v r)
   rw [if_pos hg]
   exact ⟨v,r,rfl,hv,h2⟩
  ·rw [if_neg hg]
   show RepF K α H ((g,x) :: zeT f d ds) (if g = f then (g,v) :: r else (g,u) :: zgf f v r)
   rw [if_neg hg]
   exact ⟨u,_,rfl,h1,RepF.put hv h2⟩
theorem RepF.length : ∀ {ds : List (Str × D)} {xs : List (Str × V)},RepF K α H ds xs -> ds.length = xs.length
 | [],_,h => by cases (show _ = [] from h); rfl
 | p :: ds,_,⟨u,r,rfl,h1,h2⟩ => by rw [List.length_cons,List.length_cons,RepF.length h2]
theorem Wd.ins (W : Wd K cl α m H) {k : Nat} {a : Addr} {c : Str} {ds : List (Str × D)} (h1 : α[k]? = some a) (h2 : m[k]? = some (.ins c ds)) : ∃ dx xs,H a = some (.ins (cl c) dx xs) /\ RepF K α H ds xs := W.at' k a _ h1 h2
end
section
variable {X : Cx} {cl : Str -> Addr} {ex : XD} {o e value : Expr} {es : List Expr} {c f m x : Str} {pos pos' apos p : Pos} {fa fv : EV} {fr : AV} {k n : Nat} {g : List D -> Sto -> Res D}
theorem zbe (he : QE X cl ex e fa) (hc : Cls X.K (cl c)) (hn : NoAttr X.K (cl c) f) (hb : autoParam (attributeBase e f X.env (eval e X.env) = eval e X.env) AutoP.a3._auto_1) : QE X cl ex (.Attribute e f pos) (zcw c f fa) :=
 ⟨PE.weak (pe_fld he.out hb) fun σ H Q hh => ex3 hh fun α ρ m W hr h => tD.use W hr h fun α1 m1 H1 d v E1 W1 hr1 rv h1 => by
  unfold zqj at h1
  split at h1
  ·rename_i k
   split at h1
   ·rename_i c' fs hk
    obtain ⟨hcc,h2⟩ := PQ.if h1
    clear h1
    subst hcc
    rw [Rep] at rv
    obtain ⟨a,ha,rfl⟩ := rv
    obtain ⟨dx,xs,hx,rf⟩ := W1.ins ha hk
    cases hl : fs.lookup f with
    | none => rw [hl] at h2; exact h2.elim
    | some d =>
     rw [hl] at h2
     obtain ⟨v,hv,rv⟩ := rf.look.1 d hl
     exact ⟨a,_,dx,xs,v,rfl,hx,hc,hn,hv,PQ.ok W1 h2 v rv⟩
   ·exact h1.elim
  ·exact h1.elim⟩
theorem zfs (ho : QE X cl ex o fa) (hv : QE X cl ex value fv) (hc : Cls X.K (cl c)) (hn : NoAttr X.K (cl c) f) (hs : autoParam (swapsWith value (some (.Attribute o f pos')) pos.line X.env = pure false) AutoP.a3._auto_1) : QS X cl ex (.Assign [.Attribute o f pos'] value pos) (zdm c f fa fv) :=
 ⟨PS.weak (ps_fld ho.out hv.out hs) fun D σ H hh => ex3 hh fun α ρ m W hr h => tD.use W hr h fun α1 m1 H1 d v E1 W1 hr1 rv h1 => tD.use W1 hr1 h1 fun α2 m2 H2 d2 v2 E2 W2 hr2 rv2 h2 => by
  unfold zoK at h2
  split at h2
  ·rename_i k
   split at h2
   ·rename_i c' fs hk
    by_cases hcc : c' = c /\ fs.length < 1000
    ·rw [if_pos hcc] at h2
     obtain ⟨rfl,hl⟩ := hcc
     rw [Rep] at rv2
     obtain ⟨a,ha,rfl⟩ := rv2
     obtain ⟨dx,xs,hx,rf⟩ := W2.ins ha hk
     have rv' := rv.mono W1 E2
     refine ⟨a,_,dx,xs,rfl,hx,hc,hn,by rw [<- rf.length]; exact hl,?_⟩
     obtain ⟨W3,E3⟩ := W2.set (u := .ins (cl c') dx (zgf f v xs)) (o := .ins c' (zeT f d fs)) ha fun E => ⟨dx,_,zax,(rf.put rv').mono W2 E⟩
     exact h2 _ _ E3 W3 _ (hr2.mono W2 E3)
    ·rw [if_neg hcc] at h2
     exact h2.elim
   ·exact h2.elim
  ·exact h2.elim⟩
structure FnM (P : Program) (w : World) (K : PySem.W.Frag) (mg : Str -> Option Value) (base : Heap) (cl : Str -> Addr) (c m : Str) (k n : Nat) (g : List D -> Sto -> Res D) : Prop where
 ex : ∃ (f : Addr) (fd : FuncData) (ps : List Str),Meth K (cl c) m f /\ Binds K fd ps [] /\ FnOk P w K mg base CX0 k f fd ps (spD K cl X0 n g)
structure FnC (P : Program) (w : World) (K : PySem.W.Frag) (mg : Str -> Option Value) (base : Heap) (cl : Str -> Addr) (c : Str) (k n : Nat) (g : List D -> Sto -> Res D) : Prop where
 ex : ∃ (f : Addr) (fd : FuncData) (ps : List Str),mg c = some (.ref (cl c)) /\ Mk K (cl c) f /\ Binds K fd ps [] /\ FnOk P w K mg base CX0 k f fd ps (spD K cl X0 n g)
theorem ziH {K : PySem.W.Frag} {α : List Addr} {mm : Sto} {H : Hp} {d : D} {v : V} (W : Wd K cl α mm H) (h : ziI c m d mm = true) (rv : Rep K α H d v) : ∃ a dx fs,v = .ref a /\ H a = some (.ins (cl c) dx fs) /\ fs.lookup m = none := by
 unfold ziI at h
 split at h
 ·rename_i k
  split at h
  ·rename_i c' fs hk
   rw [Bool.and_eq_true,decide_eq_true_eq,Option.isNone_iff_eq_none] at h
   obtain ⟨rfl,h2⟩ := h
   rw [Rep] at rv
   obtain ⟨a,ha,rfl⟩ := rv
   obtain ⟨dx,xs,hx,rf⟩ := W.ins ha hk
   exact ⟨a,dx,xs,rfl,hx,rf.look.2 h2⟩
  ·cases h
 ·cases h
theorem zez {pl : Sem Bool} (h : FnM X.prog X.w X.K X.mg X.base cl c m k n g) (ho : QE X cl X0 o fa) (hc : Cls X.K (cl c)) (hn : n = (e :: es).length + 1) (hr : Room k X.A) (ha : QA X cl X0 (e :: es) fr) (hlen : ∀ ρ m ds m1,fr ρ m = .ok ds m1 -> ds.length = (e :: es).length)
  (hst : autoParam (starEach (e :: es) X.env = (false,eval e X.env) :: starEach es X.env) AutoP.a3._auto_1) (hpl : autoParam ((backTo pos (starEach es X.env)).any (·.1) = false) AutoP.a3._auto_1)
  (ht : autoParam (eval (.Call (.Attribute o m apos) (e :: es) [] pos) X.env = (do
   let ov <- eval o X.env
   standAt apos.atName
   let (f,first) <- holding [ov] (getMethod ov m pl)
   callWith pos f first (backTo pos (starEach (e :: es) X.env)) (backToKw pos (keywordEach [] X.env)))) AutoP.a3._auto_1) : QE X cl X0 (.Call (.Attribute o m apos) (e :: es) [] pos) (zdx c m g fa fr) := by
 obtain ⟨f,fd,ps,h1,h2,h3⟩ := h.ex
 refine ⟨PE.weak (zro (E := E0) ho.out hc h1 h3 hr h2 .nil zpf ha.out hst hpl ht) fun σ H Q hh => ex3 hh fun α ρ mm W hr h => tD.use W hr h fun α1 m1 H1 d v E1 W1 hr1 rv q1 => ?_⟩
 obtain ⟨hi,q1⟩ := PQ.if q1
 obtain ⟨a,dx,fs,rfl,ea,el⟩ := ziH W1 hi rv
 refine ⟨a,dx,fs,rfl,ea,el,?_⟩
 cases hf : fr ρ m1 with
 | bad => rw [hf] at q1; exact q1.elim
 | exc c m2 => exact tDA.exc W1 hr1 hf q1
 | ok ds m2 =>
  rw [hf] at q1
  refine tDA.at W1 hr1 hf fun α2 H2 vs E2 W2 hr2 rvs => ?_
  refine ⟨?_,α2,m2,d :: ds,W2,?_,PQ.mono E2 q1 fun _ _ _ _ _ _ z => z⟩
  ·rw [List.append_nil,List.length_cons,<- rvs.length,hlen ρ m1 ds m2 hf,hn]
  ·rw [List.append_nil,RepL]
   exact ⟨_,_,rfl,rv.mono W1 E2,rvs⟩
theorem zdo {pl : Sem Bool} (h : FnM X.prog X.w X.K X.mg X.base cl c m k n g) (ho : QE X cl X0 o fa) (hc : Cls X.K (cl c)) (hn : n = 1) (hr : Room k X.A)
  (ht : autoParam (eval (.Call (.Attribute o m apos) [] [] pos) X.env = (do
   let ov <- eval o X.env
   standAt apos.atName
   let (f,first) <- holding [ov] (getMethod ov m pl)
   callWith pos f first (backTo pos (starEach [] X.env)) (backToKw pos (keywordEach [] X.env)))) AutoP.a3._auto_1) : QE X cl X0 (.Call (.Attribute o m apos) [] [] pos) (zdx c m g fa zaj) := by
 obtain ⟨f,fd,ps,h1,h2,h3⟩ := h.ex
 refine ⟨PE.weak (zo9 (E := E0) ho.out hc h1 h3 hr h2 .nil zpf ht) fun σ H Q hh => ex3 hh fun α ρ mm W hr h => tD.use W hr h fun α1 m1 H1 d v E1 W1 hr1 rv q1 => ?_⟩
 obtain ⟨hi,q1⟩ := PQ.if q1
 obtain ⟨a,dx,fs,rfl,ea,el⟩ := ziH W1 hi rv
 refine ⟨a,dx,fs,rfl,ea,el,?_⟩
 refine ⟨by rw [hn]; rfl,α1,m1,[d],W1,?_,q1⟩
 rw [List.append_nil,RepL]
 exact ⟨_,_,rfl,rv,by rw [RepL]⟩
theorem zrU {K : PySem.W.Frag} {α : List Addr} {mm : Sto} {H : Hp} {ds : List D} {vs : List V} {Q : VK} {R : RD D} (W : Wd K cl α mm H) (r : RepL K α H ds vs) (hl : n = ds.length + 1) (h : PQ K cl X0 (mkM c g ds mm) α H R) (hR : ∀ d α' m' H',R d α' m' H' -> ∀ v,Rep K α' H' d v -> Q v H') :
  ∀ x dx,H x = none -> H dx = none -> dx ≠ x -> spD K cl X0 n g (.ref x :: (vs ++ [])) (upd (upd H dx (.own x)) x (.ins (cl c) dx [])) (fun v H2 => v = .non /\ Q (.ref x) H2) E0 := by
 intro x dx hx hdx hne
 have sm : Same H (upd H dx (.own x)) := Same.new hdx
 have Wa := W.same sm
 have Ea := Ext.of_same W sm
 have hx2 : upd H dx (.own x) x = none := by rw [zan (Ne.symm hne)]; exact hx
 obtain ⟨Wb,Eb⟩ := Wa.new (u := .ins (cl c) dx []) (o := .ins c []) hx2 ⟨dx,[],zax,rfl⟩
 have hob : Rep K (α ++ [x]) (upd (upd H dx (.own x)) x (.ins (cl c) dx [])) (.ob mm.length) (.ref x) := by
  rw [Rep]
  refine ⟨x,?_,rfl⟩
  rw [<- W.len,List.getElem?_append_right (Nat.le_refl _)]
  simp
 refine ⟨by rw [List.append_nil,List.length_cons,<- r.length,hl],α ++ [x],mm ++ [.ins c []],.ob mm.length :: ds,Wb,?_,?_⟩
 ·rw [List.append_nil,RepL]
  exact ⟨_,_,rfl,hob,(r.mono W Ea).mono Wa Eb⟩
 ·unfold mkM at h
  refine PQ.mono (Ea.trans Eb) h.bind fun d α1 m1 H1 E1 W1 q v rv => ?_
  cases d with
  | non =>
   rw [Rep] at rv
   exact ⟨rv,hR _ _ _ _ (PQ.ok W1 (show PQ K cl X0 (.ok (.ob mm.length) m1) α1 H1 R from q)) _ (hob.mono Wb E1)⟩
  | _ => exact q.elim
theorem zqY (h : FnC X.prog X.w X.K X.mg X.base cl c k n g) (hn : n = (e :: es).length + 1) (hr : Room (k + 1) X.A) (hg : Gl X c) (ha : QA X cl X0 (e :: es) fr) (hlen : ∀ ρ m ds m1,fr ρ m = .ok ds m1 -> ds.length = (e :: es).length) (hdb : autoParam ((c == ("__debug__" : Str)) = false) AutoP.a1._auto_1)
  (he : autoParam (starEach (e :: es) X.env = (false,eval e X.env) :: starEach es X.env) AutoP.a3._auto_1) (hpl : autoParam ((backTo pos (starEach es X.env)).any (·.1) = false) AutoP.a3._auto_1) : QE X cl X0 (.Call (.Name c p) (e :: es) [] pos) (eFn (mkM c g) fr) := by
 obtain ⟨f,fd,ps,h1,h2,h3,h4⟩ := h.ex
 refine ⟨PE.weak (zrp (E := E0) h2 h4 hr hg h1 h3 .nil zpf ha.out hdb he hpl) fun σ H Q hh => ex3 hh fun α ρ mm W hr h => ?_⟩
 unfold eFn at h
 cases hf : fr ρ mm with
 | bad => rw [hf] at h; exact h.elim
 | exc c m2 => exact tDA.exc W hr hf h
 | ok ds m1 =>
  rw [hf] at h
  exact tDA.at W hr hf fun α1 H1 v E1 W1 hr1 rv => zrU W1 rv (by rw [hn,hlen ρ mm ds m1 hf]) (PQ.mono E1 h fun _ _ _ _ _ _ z => z) fun _ _ _ _ z => z
theorem FnM.mk' {P : Program} {w : World} {K : PySem.W.Frag} {mg : Str -> Option Value} {base : Heap} {cl : Str -> Addr} {c x qual : Str} {st : Stmt} {f : Addr} {fd : FuncData} {N ps : List Str} {k n : Nat} {body : SV} (F : Fun K x qual st f fd) (b : Binds K fd ps []) (m : Meth K (cl c) x f) (S : FnScope N ps (zai st)) (hn : n = ps.length)
  (h : ∀ (cdv : Value) (A : Around) (outer : List PySem.Env) (s : Shared) (H : Hp) (E : XK),Room k (A.deeper (envOfC qual (zai st) s.heap.objs.size f cdv)) -> QSs (zl3 CX0 P w K mg base N qual (zai st) f cdv A outer s H E).nox cl X0 (zbu st) body) : FnM P w K mg base cl c x (k + 1) n (za8 N.length body) :=
 ⟨f,fd,ps,m,b,F.ok S (fun vs H Q E h => by rw [<- hn]; exact h.1) fun cdv A outer s H vs Q E hr q => ⟨_,(h cdv A outer s H E hr).out,fn_d q⟩⟩
theorem FnC.mk' {P : Program} {w : World} {K : PySem.W.Frag} {mg : Str -> Option Value} {base : Heap} {cl : Str -> Addr} {c x qual : Str} {st : Stmt} {f : Addr} {fd : FuncData} {N ps : List Str} {k n : Nat} {body : SV} (F : Fun K x qual st f fd) (b : Binds K fd ps []) (mc : mg c = some (.ref (cl c))) (m : Mk K (cl c) f) (S : FnScope N ps (zai st)) (hn : n = ps.length)
  (h : ∀ (cdv : Value) (A : Around) (outer : List PySem.Env) (s : Shared) (H : Hp) (E : XK),Room k (A.deeper (envOfC qual (zai st) s.heap.objs.size f cdv)) -> QSs (zl3 CX0 P w K mg base N qual (zai st) f cdv A outer s H E).nox cl X0 (zbu st) body) : FnC P w K mg base cl c (k + 1) n (za8 N.length body) :=
 ⟨f,fd,ps,mc,m,b,F.ok S (fun vs H Q E h => by rw [<- hn]; exact h.1) fun cdv A outer s H vs Q E hr q => ⟨_,(h cdv A outer s H E hr).out,fn_d q⟩⟩
end
end MD
set_option autoImplicit false
namespace L2
open PySem PySem.Spec PyProof.Rows
end L2
namespace MD
open PySem PySem.Spec PyProof.Rows L2
end MD
namespace PySem
open Sem (wp)
open Builtin
end PySem
set_option autoImplicit false
namespace L2
open PySem PySem.Spec PyProof.Rows
end L2
namespace MD
open PySem PySem.Spec PyProof.Rows L2
def ziX : SV := by walk_at "#rx$uUyK|5y`6v)uNuH6u@uxuXuP%u$|6uP%u$|7v)y:ya"
def zd3 : List D -> Sto -> Res D := za8 2 ziX
def zlQ : SV := by walk_at "#79u@7-uAYx_vZu/+67b+PuAuevvu@wJ"
def zbO : List D -> Sto -> Res D := za8 3 zlQ
def zkS : SV := by walk_at "#Tuz%Mv?v!<vsuayF!v6*v6y3xe8vERud98I5Bu_P%"
def za0 : List D -> Sto -> Res D := za8 2 zkS
def zfW : SV := by walk_at "#_ybv&-vE<u_P8"
def za3 : List D -> Sto -> Res D := za8 1 zfW
def zeK : SV := by walk_at "#_ybRud-#"
def zbc : List D -> Sto -> Res D := za8 1 zeK
def zeH : SV := by walk_at "#Gv[vHuB5hhh!xgvpvF-!|8<udu;!ycvp"
def zbP : List D -> Sto -> Res D := za8 3 zeH
def zgJ : SV := by walk_at "#Gw{wL%w}uI!xgvpuBTxb+vE<u_P#x%I5xhwQ+9MwG+-"
def zb7 : List D -> Sto -> Res D := za8 3 zgJ
def zkO : SV := by walk_at "#rx$uU!|9uhx%IG|:vHuBTw7vEuh!|;^u;x%IGxg^uOuj,B!v[^u;-v%wNvEuh!yc^vtGw{wL%uIaw}vyTx^u+Bud-x%Iv?i*w{wL%uI,uIukwL%uIFuIaw]"
def zen : List D -> Sto -> Res D := za8 7 zkO
def zj0 : SV := by walk_at "#79u@Yx_vZu/uf%6uevvu@wJ"
def zbs : List D -> Sto -> Res D := za8 2 zj0
def ziW : SV := by walk_at "#5vq%!yX*yAOx[+vr?ub1uyv9bh,Pukvs"
def zc3 : List D -> Sto -> Res D := za8 3 ziW
def zeJ : SV := by walk_at "#_wWwMuHu.9uAv9!x`^R+-8"
def zbt : List D -> Sto -> Res D := za8 2 zeJ
def zgN : SV := by walk_at "#7%u:uNvI*xRu;vxue,bhFPvFFu:5uM,vs"
def zcK : List D -> Sto -> Res D := za8 5 zgN
def ziL : SV := by walk_at "#wOw~5vsI5b%!yPuaxOzpxe#"
def zdw : List D -> Sto -> Res D := za8 2 ziL
def zeI : SV := by walk_at "#7u$yWu:uNx[udvrw^Auy7xh]uz%MBa-!|<R%FRa-vyue,!x&uaw4vFFufu+vluO5,"
def zbQ : List D -> Sto -> Res D := za8 7 zeI
def zf1 : SV := by walk_at "#76xSw^w^Aub@ub=uyYyd>u7u5vG<MwSTv]%Myd>u7u5RuivvRui%Pv&-%Huj!x&du5*yev&-vEvlw[!x&uaw4+ufS>vuguYujSuY!|=u-du7LguY5hSuY!x&*|>u-iv$*yeRF-8"
def zbI : List D -> Sto -> Res D := za8 12 zf1
end MD
set_option autoImplicit false
namespace MxD
open PySem PySem.Spec PyProof.Rows
section
variable {p : Program} {w : World} {A : Around} {R : Result -> Shared -> Prop} {it : Addr} {fs ws : List Addr} {n : Nat} {V : Nat -> Value -> Prop} {T : Nat -> Heap -> Prop} {d : Value}
abbrev kwD (d : Value) : List (Str × Value) := [(Str.ofString "default", d)]
def zqr (z : Shared) (b : Addr) (x : Array Value) (c : Nat) : Prop := z.heap.get? b = some { cls := .type "list", dict := none,data := .seq x c,slots := #[] }
theorem zpm : (toString "max" ++ toString ".loop" : String) = "max.loop" := by decide
theorem zrX (W : Walks p w A.in1 it fs ws n V T) (bt : Nat -> Nat -> Bool) (hc : CmpOf p w A.in1 .Gt V bt) (b : Addr) (hb : b ∉ fs) :
  ∀ (k j : Nat) (z : Shared) (x : Value) (c : Nat),n - (j + 1) = k -> j + 1 <= n -> T (j + 1) z.heap -> V (argBest bt j) x -> zqr z b #[x,x] c →
  (∀ v g t,V (argBest bt (n - 1)) v -> (∀ a o,a ∉ ws -> a ≠ b -> z.heap.get? a = some o -> g.get? a = some o) -> R (.ok (.ret v)) { z with heap := g,toks := t }) →
  codeAny (model p w) A (.builtin "max.loop" ⟨[.ref it,.none,.ref b],kwD d⟩) R z
 | 0,j,z,x,c,ek,hj,ht,hx,hB,hR => by
  have hw : b ∉ ws := fun q => hb (W.sub _ q)
  have en : j + 1 = n := by omega
  refine codeAny_builtin F.entry_max_loop ?_
  rw [Around.under_plainId F.plain_max_loop _]
  show wpAny _ A.in1 (seqItems? (.ref b) >>= _) _ _ z
  refine wpAny_bind (wpAny_seqItems hB rfl ?_)
  show wpAny _ A.in1 (tryCatch (pyNext (.ref it)) _ >>= _) _ _ z
  refine wpAny_bind (wpAny_tryCatch (W.done z _ _ (en ▸ ht) fun g t kp => ?_))
  have hB' := kp b _ hw hB
  show wpAny _ A.in1 (updateSeq b (fun _ => #[]) >>= _) _ _ _
  refine wpAny_bind (wpAny_updateSeq hB' rfl (wpAny_bind (wpAny_letGo (wpAny_pure ?_))))
  exact hR x _ t (by rw [<- en]; exact hx) fun a o h1 h2 e => (Heap.get?_update_other _ _ (Ne.symm h2)).trans (kp a o h1 e)
 | k + 1,j,z,x,c,ek,hj,ht,hx,hB,hR => by
  have hw : b ∉ ws := fun q => hb (W.sub _ q)
  have hl : j + 1 < n := by omega
  refine codeAny_builtin F.entry_max_loop ?_
  rw [Around.under_plainId F.plain_max_loop _]
  show wpAny _ A.in1 (seqItems? (.ref b) >>= _) _ _ z
  refine wpAny_bind (wpAny_seqItems hB rfl ?_)
  show wpAny _ A.in1 (tryCatch (pyNext (.ref it)) _ >>= _) _ _ z
  refine wpAny_bind (wpAny_tryCatch (W.item (j + 1) z _ _ hl ht fun v g t hv ht' kp => ?_))
  have hB' := kp b _ hw hB
  show wpAny _ A.in1 (tryCatch (holding [v,v] (richCompare .Gt v x >>= _)) _ >>= _) _ _ _
  refine wpAny_bind (wpAny_tryCatch (wpAny_holding (wpAny_bind (hc (j + 1) (argBest bt j) v x _ _ _ hv hx ?_))))
  refine wpAny_bind (wpAny_holding (wpAny_truthy_bool (wpAny_bind (wpAny_letGo (wpAny_pure ?_)))))
  cases hy : bt (j + 1) (argBest bt j) with
  | true =>
   simp only [if_true]
   refine wpAny_bind (wpAny_updateSeq hB' rfl (wpAny_bind (wpAny_letGo ?_)))
   rw [zpm]
   refine wpAny_pure ⟨plainId_quiet F.plain_max_loop _,zrX W bt hc b hb k (j + 1) _ v _ (by omega) hl (W.frame _ _ _ ht' fun a ha o e => (Heap.get?_update_other _ _ fun q : b = a => hb (by rw [q]; exact ha)).trans e) (by simp only [argBest,hy,if_true]; exact hv) (Heap.get?_update_self _ hB' rfl) fun v' g' t' h1 h2 => ?_⟩
   exact hR v' g' t' h1 fun a o a1 a2 e => h2 a o a1 a2 ((Heap.get?_update_other _ _ (Ne.symm a2)).trans (kp a o a1 e))
  | false =>
   simp only [Bool.false_eq_true,if_false]
   refine wpAny_bind (wpAny_letGo ?_)
   rw [zpm]
   refine wpAny_pure ⟨plainId_quiet F.plain_max_loop _,zrX W bt hc b hb k (j + 1) _ x c (by omega) hl ht' (by simp only [argBest,hy,Bool.false_eq_true,if_false]; exact hx) hB' fun v' g' t' h1 h2 => ?_⟩
   exact hR v' g' t' h1 fun a o a1 a2 e => h2 a o a1 a2 (kp a o a1 e)
theorem beginD (W : Walks p w A.in1 it fs ws n V T) (bt : Nat -> Nat -> Bool) (hc : CmpOf p w A.in1 .Gt V bt) (b : Addr) (hb : b ∉ fs) {z : Shared} {c : Nat} (ht : T 0 z.heap) (hB : zqr z b #[] c)
  (h1 : 0 < n -> ∀ v g t,V (argBest bt (n - 1)) v -> (∀ a o,a ∉ ws -> a ≠ b -> z.heap.get? a = some o -> g.get? a = some o) -> R (.ok (.ret v)) { z with heap := g,toks := t })
  (h0 : n = 0 -> ∀ g t,(∀ a o,a ∉ ws -> z.heap.get? a = some o -> g.get? a = some o) -> R (.ok (.ret d)) { z with heap := g,toks := t }) :
  codeAny (model p w) A (.builtin "max.loop" ⟨[.ref it,.none,.ref b],kwD d⟩) R z := by
 have hw : b ∉ ws := fun q => hb (W.sub _ q)
 refine codeAny_builtin F.entry_max_loop ?_
 rw [Around.under_plainId F.plain_max_loop _]
 show wpAny _ A.in1 (seqItems? (.ref b) >>= _) _ _ z
 refine wpAny_bind (wpAny_seqItems hB rfl ?_)
 show wpAny _ A.in1 (tryCatch (pyNext (.ref it)) _ >>= _) _ _ z
 rcases Nat.eq_zero_or_pos n with en | hn
 ·refine wpAny_bind (wpAny_tryCatch (W.done z _ _ (by rw [en]; exact ht) fun g t kp => ?_))
  exact wpAny_bind (wpAny_rule (wpAny_pure (h0 en g t kp)))
 ·refine wpAny_bind (wpAny_tryCatch (W.item 0 z _ _ hn ht fun v g t hv ht' kp => ?_))
  have hB' := kp b _ hw hB
  show wpAny _ A.in1 (updateSeq b (fun _ => #[v,v]) >>= _) _ _ _
  refine wpAny_bind (wpAny_updateSeq hB' rfl ?_)
  rw [zpm]
  refine wpAny_pure ⟨plainId_quiet F.plain_max_loop _,zrX W bt hc b hb _ 0 _ v _ rfl hn (W.frame _ _ _ ht' fun a ha o e => (Heap.get?_update_other _ _ fun q : b = a => hb (by rw [q]; exact ha)).trans e) hv (Heap.get?_update_self _ hB' rfl) fun v' g' t' q1 q2 => ?_⟩
  exact h1 hn v' g' t' q1 fun a o a1 a2 e => q2 a o a1 a2 ((Heap.get?_update_other _ _ (Ne.symm a2)).trans (kp a o a1 e))
end
theorem argsD (x d : Value) : argsOk "max" ⟨[x],kwD d⟩ := by unfold argsOk; kernel_rfl
section
variable {p : Program} {w : World} {A : Around} {X : Value -> Shared -> Prop} {z : Shared} {l : Addr} {xs : Array (Int × Tok)} {d : Value}
theorem maxD {Q : Value -> Shared -> Prop} (hh : A.handled = none) (hl : z.heap.IsList l (intItems xs))
  (h1 : 0 < xs.size -> ∀ v g t,(intItems xs)[argBest (fun i j => decide (numAt xs i > numAt xs j)) (xs.size - 1)]? = some v -> (∀ a o,z.heap.get? a = some o -> g.get? a = some o) -> Q v { z with heap := g,toks := t })
  (h0 : xs.size = 0 -> ∀ g t,(∀ a o,z.heap.get? a = some o -> g.get? a = some o) -> Q d { z with heap := g,toks := t }) :
  wpAny (model p w) A (call (.builtin "max") [.ref l] (kwD d)) Q X z := by
 have hs : (intItems xs).size = xs.size := by simp [intItems]
 refine kmb_tree PySem.F.kind_max PySem.F.plain_max PySem.F.entry_max (argsD _ _) ?_
 show wpAny _ A.in1 (Builtin.Builtins.bindParams "max" ["key", "default"] 0 ⟨[],kwD d⟩ >>= _) _ _ z
 refine wpAny_bind (wpAny_of_eq (show Builtin.Builtins.bindParams "max" ["key", "default"] 0 ⟨[],kwD d⟩ = pure [none,some d] from rfl) ?_)
 refine wpAny_bind (wpAny_pure (wpAny_bind (iter_intList hl fun z2 e st hfp hlI => ?_)))
 subst e
 refine wpAny_bind (wpAny_newObj_type ?_)
 have W := Walks.list (prog := p) (w := w) (A := A.in1) hh _ l hlI (intItems xs)
 have hf : ((z.heap.push { cls := .type "list_iterator", data := .fields #[.ref l,.int 0 0] }).objs.size) ∉ [z.heap.objs.size,l] := fun q => Nat.lt_irrefl _ (hfp _ q)
 rw [zpm]
 refine wpAny_pure ⟨plainId_quiet F.plain_max_loop _,beginD W _ (CmpOf.ints_gt (numAt xs) fun _ _ => intItems_at) _ hf (W.frame _ _ _ st fun a _ o e => Heap.get?_push_of_some _ e) (Heap.get?_push_size _ rfl) (fun hn v g t hv kp => ?_) fun hn g t kp => ?_⟩
 ·refine h1 (by omega) v g t (by rw [<- hs]; exact hv) (old_kept fun a o ha e => kp a o ha (Nat.ne_of_lt (Heap.lt_size e)) (Heap.get?_push_of_some _ e))
 ·refine h0 (by omega) g t (old_kept fun a o ha e => kp a o ha (Heap.get?_push_of_some _ e))
end
end MxD
namespace MD
open PySem PySem.Spec PyProof.Rows L2
section
variable {X : Cx} {x : Str} {p pos : Pos} {e : Expr} {es : List Expr} {kws : List Keyword} {t tk : TA} {id : String} {ks : List Str} {r : List V -> List V -> Hp -> VK -> Prop}
def zqu (X : Cx) (f : Value) (ks : List Str) (r : List V -> List V -> Hp -> VK -> Prop) : Prop :=
 ∀ (pins : List (Addr × Obj)) (s : Shared) (σ : L2.St) (H : Hp) (vs : List V) (us : List Value) (zs : List V) (ws : List Value) (Q : VK),Inv X pins σ H s -> Vals vs us -> Vals zs ws -> r vs zs H Q -> wpAny (model X.prog X.w) X.A (call f us (ks.zip ws)) (EP X pins σ Q) X.xe s
def tCBK (r : List V -> List V -> Hp -> VK -> Prop) (t tk : TA) : TE := fun σ H Q => t σ H fun vs H1 => tk σ H1 fun zs H2 => r vs zs H2 Q
theorem zmT (hc : zqu X (.builtin id) ks r) (hg : Gl X x) (hm : X.mg x = none) (hv : bootBuiltins x = some (.builtin id)) (ha : PA X (e :: es) t) (hkw : PK X kws tk) (hall : autoParam ((backToKw pos (keywordEach kws X.env)).all (·.1.isSome) = true) AutoP.a3._auto_1) (hks : autoParam ((backToKw pos (keywordEach kws X.env)).filterMap (·.1) = ks) AutoP.a3._auto_1)
  (hn : autoParam (x ≠ "__name__") AutoP.a1._auto_1) (hdb : autoParam ((x == ("__debug__" : Str)) = false) AutoP.a1._auto_1) (he : autoParam (starEach (e :: es) X.env = (false,eval e X.env) :: starEach es X.env) AutoP.a3._auto_1)
  (hpl : autoParam (((backTo pos (starEach (e :: es) X.env)).any (·.1) || (backToKw pos (keywordEach kws X.env)).any (·.1.isNone)) = false) AutoP.a3._auto_1) : PE X (.Call (.Name x p) (e :: es) kws pos) (tCBK r t tk) := by
 intro pins s σ H Q I h
 refine wpAny_Call_Name_kw (zdW I hg hm hv ?_ hn hdb)
 obtain ⟨hp1,hp2⟩ := Bool.or_eq_false_iff.mp hpl
 refine callWith_builtin_kwB hp1 hp2 (evalArgs_kw2 hall (thn (ha pos pins s σ H _ I h) fun us s1 ⟨vs,H1,I1,r1,q⟩ => ?_) he)
 refine thn (hkw pos pins s1 σ H1 _ I1 q) fun ws s2 ⟨zs,H2,I2,rz,q2⟩ => ?_
 rw [hks]
 exact hc pins s2 σ H2 vs us zs ws Q I2 r1 rz q2
def rMaxD (K : PySem.W.Frag) : List V -> List V -> Hp -> VK -> Prop := fun vs zs H Q => ∃ (l : Addr) (ns : List Int) (y : V),vs = [.ref l] /\ zs = [y] /\ SqL K H l (ns.map V.int) /\ (ns ≠ [] -> Q (.int (maxV ns)) H) /\ (ns = [] -> Q y H)
theorem zom {X : Cx} (hc : X.calm = true) : zqu X (.builtin "max") ["default"] (rMaxD X.K) := by
 intro pins s σ H vs us zs ws Q I r rz h
 obtain ⟨l,ns,y,rfl,rfl,hq,h1,h0⟩ := h
 obtain ⟨u,rfl,rx⟩ := zbY r
 obtain ⟨d,rfl,ry⟩ := zbY rz
 cases rx
 obtain ⟨its,r',pl,hz⟩ := I.list hq
 have hl := pl.isList
 obtain ⟨ys,e,hs,hx⟩ := zqy r'
 rw [e] at hl
 refine MxD.maxD (I.ok.hd hc) hl (fun hn v g t hv hk => ?_) fun hn g t hk => ?_
 ·obtain ⟨t',rfl⟩ := intItems_at hv
  refine ⟨_,H,I.kept hk,?_,h1 fun q => ?_⟩
  ·have ef : numAt ys = fun i => ns.getD i 0 := funext hx
   refine ⟨t',?_⟩
   rw [ef,hs]
   rfl
  ·have : ns.length = 0 := by rw [q]; rfl
   omega
 ·exact ⟨y,H,I.kept hk,ry,h0 (List.length_eq_zero_iff.mp (by rw [<- hs]; exact hn))⟩
end
def znt (x d : D) (m : Sto) : Res D := match (lOf x m).bind zd7 with
 | some ns => if ns = [] then .ok d m else .ok (.int (maxV ns)) m
 | none => .bad
def zi4 (fa fd : EV) : EV := fun ρ m => (fa ρ m).bind fun x m1 => (fd ρ m1).bind fun d m2 => znt x d m2
section
variable {X : Cx} {cl : Str -> Addr} {ex : XD} {e e2 : Expr} {fa fd : EV} {p pos kp : Pos}
theorem zjy (hc : X.calm = true) (hg : Gl X "max") (hm : X.mg "max" = none) (he : QE X cl ex e fa) (hd : QE X cl ex e2 fd) (hs : autoParam (starEach [e] X.env = (false,eval e X.env) :: starEach [] X.env) AutoP.a3._auto_1)
  (hall : autoParam ((backToKw pos (keywordEach [⟨some "default", e2,kp⟩] X.env)).all (·.1.isSome) = true) AutoP.a3._auto_1) (hks : autoParam ((backToKw pos (keywordEach [⟨some "default", e2,kp⟩] X.env)).filterMap (·.1) = [Str.ofString "default"]) AutoP.a3._auto_1)
  (hpl : autoParam (((backTo pos (starEach [e] X.env)).any (·.1) || (backToKw pos (keywordEach [⟨some "default", e2,kp⟩] X.env)).any (·.1.isNone)) = false) AutoP.a3._auto_1) :
  QE X cl ex (.Call (.Name "max" p) [e] [⟨some "default", e2,kp⟩] pos) (zi4 fa fd) :=
 ⟨PE.weak (zmT (zom hc) hg hm (by rfl) (zb2 he.out zfx hs) (zrg hd.out pk_nil) hall hks (by decide) (by decide) hs hpl) fun σ H Q hh => ex3 hh fun α ρ m W hr h =>
  tD.use W hr h fun α1 m1 H1 d v E1 W1 hr1 rv q1 => tD.use W1 hr1 q1 fun α2 m2 H2 d2 v2 E2 W2 hr2 rv2 q2 => by
   have rv := rv.mono W1 E2
   unfold znt at q2
   split at q2
   ·rename_i ns e
    obtain ⟨xs,e1,e2⟩ := Option.bind_eq_some_iff.mp e
    obtain ⟨p,ys,rfl,h1,r1⟩ := zjT W2 e1 rv
    rw [zc5 e2 r1] at h1
    refine ⟨p,ns,v2,rfl,rfl,h1,fun q => ?_,fun q => ?_⟩
    ·rw [if_neg q] at q2
     exact PQ.ok W2 q2 _ zeS
    ·rw [if_pos q] at q2
     exact PQ.ok W2 q2 _ rv2
   ·exact q2.elim⟩
end
theorem zlW {X : Cx} : CallR X (.type "dict") (fun xs H Q => ∃ (a : Addr) (kvs : List (L2.Key × V)),xs = [.ref a] /\ Rd H a (.dK kvs) /\ ∀ p,H p = none -> Q (.ref p) (upd H p (.dK kvs))) := by
 intro pins s σ H xs us Q I r h
 obtain ⟨a,kvs,rfl,hr,q⟩ := h
 obtain ⟨u,rfl,rx⟩ := zbY r
 cases rx
 exact zpJ I hr fun p s' hp I' => ⟨.ref p,_,I',rfl,q p hp⟩
section
variable {K : PySem.W.Frag} {cl : Str -> Addr} {ex : XD}
def dctF (ds : List D) (m : Sto) : Res D := match ds with
 | [.ob k] => match m[k]? with
  | some (.dct kvs) => .ok (.ob m.length) (m ++ [.dct kvs])
  | _ => .bad
 | _ => .bad
theorem znk {α : List Addr} {m : Sto} {H : Hp} {p : Addr} {ds : List (L2.Key × D)} {vs : List (L2.Key × V)} {R : RD D} (W : Wd K cl α m H) (hp : H p = none) (r : RepKV K α H ds vs) (h : PQ K cl ex (.ok (.ob m.length) (m ++ [.dct ds])) α H R) : ∃ α' m',R (.ob m.length) α' m' (upd H p (.dK vs)) /\ Rep K α' (upd H p (.dK vs)) (.ob m.length) (.ref p) := by
 have E0 : Ext α H (α ++ [p]) (upd H p (.dK vs)) := ⟨⟨[p],rfl,fun b hb => by rw [List.mem_singleton.mp hb]; exact hp⟩,fun a o h _ => Same.new hp a o h,(Ext.of_same W (Same.new hp)).there,fun a o u h => Same.new hp a _ h⟩
 obtain ⟨W2,E2⟩ := W.new (u := .dK vs) (o := .dct ds) hp ⟨vs,zax,r.mono W E0⟩
 refine ⟨_,_,h _ _ E2 W2,?_⟩
 rw [Rep]
 refine ⟨p,?_,rfl⟩
 rw [<- W.len,List.getElem?_append_right (Nat.le_refl _)]
 simp
theorem fd_dct : FnD K cl ex (fun xs H Q => ∃ (a : Addr) (kvs : List (L2.Key × V)),xs = [.ref a] /\ Rd H a (.dK kvs) /\ ∀ p,H p = none -> Q (.ref p) (upd H p (.dK kvs))) dctF := fun α m H x vx Q W rx h => by
 unfold dctF at h
 split at h
 ·split at h
  ·obtain ⟨v,rfl,rv⟩ := rx.one_of
   rw [Rep] at rv
   obtain ⟨a,ha,rfl⟩ := rv
   obtain ⟨xs,h1,r1⟩ := W.dct ha ‹_›
   refine ⟨a,xs,rfl,.inl h1,fun p hp => ?_⟩
   obtain ⟨_,_,q,r⟩ := znk W hp r1 h
   exact q _ r
  ·exact h.elim
 ·exact h.elim
end
def zpY : V -> List V -> Hp -> VK -> Prop := fun x vs H Q => ∃ a kvs,x = .ref a /\ vs = [] /\ H a = some (.dK kvs) /\ Q .non (upd H a (.dK []))
theorem zpp {X : Cx} : MtR X "dict.clear" zpY := by
 intro pins s σ H x vs v us Q I rx rv h
 obtain ⟨a,kvs,rfl,rfl,hH,q⟩ := h
 cases rx
 cases rv
 exact zse I hH fun s' I' => ⟨.non,_,I',rfl,q⟩
def zhK (d : D) (m : Sto) : Bool := match d with
 | .ob k => match m[k]? with
  | some (.dct _) => true
  | _ => false
 | _ => false
def zgU (o : D) (ds : List D) (m : Sto) : Res D := match o,ds with
 | .ob k,[] => match m[k]? with
  | some (.dct _) => .ok .non (m.set k (.dct []))
  | _ => .bad
 | _,_ => .bad
section
variable {X : Cx} {K : PySem.W.Frag} {cl : Str -> Addr} {ex : XD} {α : List Addr} {m : Sto} {H : Hp} {o : Expr} {fo : EV} {name : Str} {apos cpos : Pos} {T id : String} {r : V -> List V -> Hp -> VK -> Prop} {g : D -> List D -> Sto -> Res D} {ty : D -> Sto -> Bool}
theorem ty_dct {d : D} {v : V} (h : zhK d m = true) (W : Wd K cl α m H) (r : Rep K α H d v) : tyV K "dict" v H := by
 unfold zhK at h
 split at h
 ·rw [Rep] at r
  obtain ⟨a,ha,rfl⟩ := r
  split at h
  ·obtain ⟨ys,h1,_⟩ := W.dct ha ‹_›
   exact .inr (.inr (.inl ⟨rfl,.inl ⟨_,h1⟩⟩))
  ·cases h
 ·cases h
theorem zpq : MtD K cl ex zpY zgU := fun α m H x xs vx vs Q W rx rxs h => by
 unfold zgU at h
 split at h
 ·split at h
  ·rename_i k _ ds e
   rw [Rep] at rx
   obtain ⟨a,ha,rfl⟩ := rx
   obtain ⟨ys,h1,r1⟩ := W.dct ha e
   rw [RepL] at rxs
   subst rxs
   obtain ⟨W2,E2⟩ := W.set (u := .dK []) (o := .dct []) ha fun E => ⟨_,zax,by simp [RepKV]⟩
   exact ⟨a,ys,rfl,rfl,h1,h _ _ E2 W2 _ (by simp [Rep])⟩
  ·exact h.elim
 ·exact h.elim
theorem qe_bm0 (pa : PlainAttrs T) (slot : Slot T name id) (hty : typeOf (.builtin id) = pure (.type "method_descriptor")) (hm : MtR X id r) (hT : ∀ {α : List Addr} {m : Sto} {H : Hp} {d : D} {v : V},ty d m = true -> Wd X.K cl α m H -> Rep X.K α H d v -> tyV X.K T v H) (hd : MtD X.K cl ex r g) (ho : QE X cl ex o fo)
  (hbase : autoParam (attributeBase o name X.env (eval o X.env) = eval o X.env) AutoP.a3._auto_1) (hline : autoParam ((apos.endLine == cpos.line) = true) AutoP.a3._auto_1) : QE X cl ex (.Call (.Attribute o name apos) [] [] cpos) (zer ty g fo zaj) :=
 ⟨PE.weak (pe_bm0 pa slot hty hm ho.out hbase hline) fun σ H Q hh => ex3 hh fun α ρ m W hr h =>
  tD.use W hr h fun α1 m1 H1 d v E1 W1 hr1 rv q1 => by
   obtain ⟨ht,q1⟩ := PQ.if q1
   exact ⟨hT ht W1 rv,hd α1 m1 H1 d [] v [] Q W1 rv (by simp [RepL]) q1⟩⟩
end
end MD
set_option autoImplicit false
namespace L2
open PySem PySem.Spec PyProof.Rows
section
variable {X : Cx} {pins : List (Addr × Obj)} {σ : St} {H : Hp} {s : Shared} {a : Addr} {o : Obj} {kvs : List (Key × V)}
theorem Inv.freeze (I : Inv X pins σ H s) (e : H a = some (.dK kvs)) (ho : s.heap.get? a = some o) : Inv X pins σ (upd H a (.frz o (.dK kvs))) s :=
 I.write (x := a) (e := a) (t' := s.toks) (by rw [e]; trivial) (.inl rfl) (fun b u _ q => q) ⟨_,ho⟩ ⟨ho,I.hok a _ e⟩
def Warm (X : Cx) (a : Addr) : Prop := ∀ o u,X.H₀ a ≠ some (.frz o u)
theorem Inv.warm (I : Inv X pins σ H s) (e : H a = some (.dK kvs)) : Warm X a := fun o u q => by
 have := I.base.frzs a o u q
 rw [e] at this
 cases this
theorem Inv.thaw (I : Inv X pins σ H s) (e : H a = some (.frz o (.dK kvs))) (w : Warm X a) : Inv X pins σ (upd H a (.dK kvs)) s := by
 have na : ∀ b,H b = none -> b ≠ a := fun b n z => by rw [z,e] at n; cases n
 have kp : ∀ b,H b = none -> upd H a (.dK kvs) b = none := fun b n => by rw [zan (na b n)]; exact n
 refine ⟨I.ok,I.os,I.bare,⟨I.base.keep,I.base.slot,fun b u q n hx => kp b (I.base.free b u q n hx),I.base.there,fun b xs q => ?_,fun b u v q => ?_,fun b ps q => ?_⟩,I.loc,I.cell,kp _ I.free,fun x c q => kp _ (I.freeC x c q),fun p hp => ?_,fun b u q => ?_,I.len⟩
 ·have h := I.base.tups b xs q
  rw [zan fun z => by rw [z,e] at h; cases h]
  exact h
 ·have h := I.base.frzs b u v q
  rw [zan fun z => w u v (by rw [<- z]; exact q)]
  exact h
 ·obtain ⟨more,h⟩ := I.base.tbls b ps q
  exact ⟨more,by rw [zan fun z => by rw [z,e] at h; cases h]; exact h⟩
 ·obtain ⟨h1,h2,h3⟩ := I.pin p hp
  exact ⟨h1,kp _ h2,h3⟩
 ·by_cases hb : b = a
  ·subst hb
   rw [zax] at q
   cases q
   exact (I.hok b _ e).2
  ·rw [zan hb] at q
   exact (I.hok b u q).stay (fun c v _ r => r) (fun c r => by rw [zan fun z => by rw [z,e] at r; cases r]; exact r) fun c xs r => by rw [zan fun z => by rw [z,e] at r; cases r]; exact r
end
def Itk (a : Addr) (o : Obj) (kvs : List (Key × V)) : It :=
 ⟨fun i H => H a = some (.frz o (.dK kvs)) /\ i < kvs.length,fun i H x H' => H' = H /\ ∃ k v,kvs[i]? = some (k,v) /\ x = kV k,fun i H => H a = some (.frz o (.dK kvs)) /\ kvs.length <= i⟩
theorem znD {P : Program} {w : World} {k : Key} {u : Value} (h : (zaA P w).is k u = true) : RelV (kV k) u := by
 rcases zaN (show zjU k u = true from h) with ⟨i,t,rfl,rfl⟩ | ⟨x,t,rfl,rfl⟩
 ·exact ⟨t,rfl⟩
 ·exact ⟨t,rfl⟩
theorem zqh {X : Cx} {pins : List (Addr × Obj)} {σ : St} {H : Hp} {s : Shared} {a : Addr} {o : Obj} {kvs : List (Key × V)} {es : Array DictEntry} {ep : Nat} (I : Inv X pins σ H s) (e : H a = some (.frz o (.dK kvs))) (hd : o.data = .dict es ep) : ∃ vs,KV kvs vs /\ s.heap.DictAt (zaA X.prog X.w) a vs ep := by
 obtain ⟨h1,_,_,vs,r,o',es',ep',h2,h3,h4,h5⟩ := I.hok a _ e
 rw [h1] at h2
 cases h2
 rw [hd] at h4
 cases h4
 exact ⟨vs,r,o,es,h1,h3,hd,h5⟩
theorem zme {P : Program} {w : World} {K : PySem.W.Frag} {tg : Expr} (a it : Addr) (o : Obj) (kvs : List (Key × V)) (es : Array DictEntry) (ep : Nat) (hd : o.data = .dict es ep) : Turn P w K tg (Itk a o kvs) [it] it (fun i h => h.IsKeyIter it a i kvs.length ep) where
 mem := by simp
 obj := fun i h st b hb => by
  have e : b = it := by simpa using hb
  subst e
  obtain ⟨o,e,c,d⟩ := st
  exact ⟨o,e,fun v z => by rw [d] at z; cases z⟩
 keep := fun i h h' st k => st.at fun o e => k it (by simp) o e
 item := by
  intro X hP hw hK hc i pins s σ H E I hf st hg
  subst hP hw hK
  obtain ⟨he,hi⟩ := hg
  obtain ⟨vs,r,da⟩ := zqh I he hd
  have hl := r.length
  obtain ⟨f0,f1,f2,f3,f4,f5⟩ := hf it (by simp)
  obtain ⟨⟨k,x⟩,hx⟩ : ∃ q,vs[i]? = some q := ⟨vs[i]'(by omega),by simp [show i < vs.length by omega]⟩
  rw [hl] at st
  refine wpAny_pyNext_dict_item st da hx fun key h' hk st' sb => ?_
  have I1 : Inv X pins σ H { s with heap := h' } := I.turned (t' := s.toks) (fun b o hb e => (sb.2 b hb).trans e) f0 f1 f3 f4 f5
  obtain ⟨o',e',c',d'⟩ := id st'
  have hkk : ∃ v,kvs[i]? = some (k,v) := by
   have := congrArg (fun l => l[i]?) r.keys
   simp only [List.getElem?_map,hx,Option.map_some] at this
   obtain ⟨q,hq,e⟩ := Option.map_eq_some_iff.mp this
   exact ⟨q.2,by rw [hq,<- e]⟩
  obtain ⟨v,hv⟩ := hkk
  exact ⟨key,rfl,znT (s := { s with heap := h' }) e' c' d' (by decide) ⟨kV k,H,I1,znD hk,⟨rfl,k,v,hv,rfl⟩,by rw [hl]; exact st',fun b hb => (hf b hb).1⟩⟩
 done := by
  intro X hP hw hK hc i pins s σ H E I hf st hg
  subst hP hw hK
  obtain ⟨he,hi⟩ := hg
  obtain ⟨vs,r,da⟩ := zqh I he hd
  have hl := r.length
  obtain ⟨f0,f1,f2,f3,f4,f5⟩ := hf it (by simp)
  rw [hl] at st
  exact wpAny_pyNext_dict_end (I.ok.hd hc) st da (by simp; omega) fun h' eb => ⟨rfl,I.turned (t' := s.toks) (fun b o hb e => eb b o hb e) f0 f1 f3 f4 f5⟩
 self := fun _ _ _ _ _ st h => wpAny_pyIter_keyiter st h
def iKeys (X : Cx) (tl : TE) : TI := fun σ H R => tl σ H fun x H1 => ∃ a kvs,x = .ref a /\ H1 a = some (.dK kvs) /\ ∀ o,Warm X a -> R (Itk a o kvs) (upd H1 a (.frz o (.dK kvs)))
theorem zrl {X : Cx} {tg l : Expr} {tl : TE} (hl : PE X l tl) : PI X tg l (iKeys X tl) := by
 intro pins s σ H R I h
 refine thn (hl pins s σ H _ I h) fun v s1 ⟨x,H1,I1,r1,q1⟩ => ?_
 obtain ⟨a,kvs,rfl,e,q⟩ := q1
 cases r1
 obtain ⟨_,hs,vs,r,o,es,ep,h1,h2,h3,h4⟩ := I1.hok a _ e
 have da : s1.heap.DictAt (zaA X.prog X.w) a vs ep := ⟨o,es,h1,h2,h3,h4⟩
 refine wpAny_pyIter_dict hs da ?_
 have I2 := I1.freeze e h1
 refine ⟨s1.heap.objs.size,[s1.heap.objs.size],_,_,upd H1 a (.frz o (.dK kvs)),rfl,I2.kept (t' := s1.toks) fun b o e => Heap.get?_push_of_some _ e,zme a _ o kvs es ep h3,⟨_,Heap.get?_push_size _ rfl,rfl,by rw [r.length]; rfl⟩,fun b hb => ?_,q o (I1.warm e)⟩
 have e : b = s1.heap.objs.size := by simpa using hb
 subst e
 exact I2.fpOk (Nat.le_refl _) (I2.hok.fresh (Nat.le_refl _))
section
variable {X : Cx} {N0 : List Str} {tg elt iter : Expr} {ifs : List Expr} {scope : Scope} {xs : List Str} {cl : List (Str × Addr)} {pos : Pos} {tl : TE} {g : TG} {tf : TT} {te : TE}
def zqs (n : Nat) (g : TG) (tf : TT) (te : TE) (J : It) (fin : List V -> Hp -> Prop) (σ : St) (H : Hp) : Prop :=
 ∃ W : Nat -> Nat -> List V -> Hp -> Prop,(∃ m,W 0 m [] H) /\ ∀ i m ys H,W i m ys H -> ys.length <= sizeLine /\ ((J.stop i H /\ fin ys H) ∨ (J.go i H /\ ∃ (Y : V -> Hp -> Prop) (Z : Hp -> Prop),(∀ y H4,Y y H4 -> ys.length < sizeLine /\ ∃ m',m' < m /\ W (i + 1) m' (ys ++ [y]) H4) ∧
  (∀ H3,Z H3 -> ∃ m',m' < m /\ W (i + 1) m' ys H3) /\ ∀ x H',J.yld i H x H' -> g x (σ ++ List.replicate n none) H' fun σ2 H2 => tf σ2 H2 fun b H3 => if b = true then te σ2 H3 Y else Z H3))
def tCompK (X : Cx) (n : Nat) (tl : TE) (g : TG) (tf : TT) (te : TE) : TE := fun σ H Q => iKeys X tl σ H fun J H2 => ∃ a o kvs,J = Itk a o kvs /\ Warm X a ∧
 zqs n g tf te (Itk a o kvs) (fun ys H' => H' a = some (.frz o (.dK kvs)) /\ ∀ p,H' p = none -> Q (.ref p) (upd (upd H' p (.lst ys)) a (.dK kvs))) σ H2
theorem zpd (hc : X.calm = true) (hx : X.xe = fun _ _ => False) (S : CompOk X N0 scope xs cl) (hl : PE X iter tl)
  (hg : ∀ C s H fp,PG (X.comp N0 scope xs cl C s H fp) tg g) (hf : ∀ C s H fp,PIf (X.comp N0 scope xs cl C s H fp) ifs tf) (he : ∀ C s H fp,PE (X.comp N0 scope xs cl C s H fp) elt te)
  (hs : autoParam (∀ x,foldedSetIterable iter X.env x = pure x) AutoP.a2._auto_1) :
  PE X (.ListComp elt [⟨tg,iter,ifs,0⟩] scope pos) (tCompK X xs.length tl g tf te) := by
 intro pins s σ H Q I h
 rw [eval_ListComp]
 refine wpAny_comprehension_free (use := none) rfl hs S.clos S.kind (fun y hy hl => (S.lo hy hl).1) ?_
 refine thn (zrl (tg := tg) hl pins s σ H _ I h) fun xv s1 h1 => thn h1 fun itv s2 h2 => ?_
 obtain ⟨it,fp,tn,J,H2,rfl,I2,T,st2,f2,a,o,kvs,rfl,wm,W,⟨m0,w0⟩,turn⟩ := h2
 refine zgS (RR := fun acc C => compPost (model X.prog X.w) X.A X.xe none (EP X pins σ Q) acc C) hc hx S hg hf he I2 T st2 f2 w0 turn ?_
 intro D C s' ys H' m' I' nD hn fC ⟨e,fin⟩
 have ne : a ≠ D := fun z => by rw [z,nD] at e; cases e
 exact ⟨m',hn,fun h' k => ⟨.ref D,_,(zf5 I' fC k).thaw (by rw [zan ne]; exact e) wm,rfl,fin D nD⟩⟩
end
end L2
set_option autoImplicit false
namespace MD
open PySem PySem.Spec PyProof.Rows L2
section
variable {K : PySem.W.Frag} {cl : Str -> Addr} {ex : XD} {gt : GV} {ta : TV} {fa : EV}
theorem zmb {n k : Nat} {o : MO} {ds : List D} {fin : List V -> Hp -> Prop} {σ : L2.St} {α1 : List Addr} {ρ : En} {m1 : Sto} {H1 : Hp} {J : It} {R : RD (List D)} (W1 : Wd K cl α1 m1 H1) (hr1 : RepE K α1 H1 ρ σ) (hJ : ItO K cl α1 H1 J k o ds) (hk : ds.length <= 1000000)
  (q : PQ K cl ex (zet k o gt ta fa (ρ ++ List.replicate n none) ds m1) α1 H1 R) (hR : ∀ ds α' m' H' vs,Ext α1 H1 α' H' -> Wd K cl α' m' H' -> m'[k]? = some o -> R ds α' m' H' -> RepL K α' H' ds vs -> fin vs H') : zqs n (tDG K cl ex gt) (tDT K cl ex ta) (tD K cl ex fa) J fin σ H1 := by
 refine zoj (k := ds.length) (fun i ys H2 => ∃ α2 m2 done,Ext α1 H1 α2 H2 /\ Wd K cl α2 m2 H2 /\ RepL K α2 H2 done ys /\ done.length <= i /\ PQ K cl ex ((zet k o gt ta fa (ρ ++ List.replicate n none) (ds.drop i) m2).bind fun xs m4 => .ok (done ++ xs) m4) α2 H2 R) hk ?_ ?_ ?_ ?_
 ·refine ⟨α1,m1,[],Ext.refl W1,W1,by rw [RepL],Nat.le_refl _,?_⟩
  simp only [List.nil_append,List.drop_zero,Res.bind_ok']
  exact q
 ·rintro i ys H2 ⟨_,_,done,_,_,r,l,_⟩
  rw [<- r.length]
  exact l
 ·rintro i ys H2 hi ⟨α2,m2,done,E2,W2,r2,l2,q2⟩
  have hd : ds[i]? = some ds[i] := by simp [hi]
  rw [List.drop_eq_getElem_cons hi,zet] at q2
  have q2' : m2[k]? = some o /\ PQ K cl ex (((gt ds[i] (ρ ++ List.replicate n none) m2).bind fun ρ1 m1 => (ta ρ1 m1).bind fun b m2 => if b = true then (fa ρ1 m2).bind fun x m3 => (zet k o gt ta fa (ρ ++ List.replicate n none) (ds.drop (i + 1)) m3).bind fun xs m4 => .ok (x :: xs) m4 else zet k o gt ta fa (ρ ++ List.replicate n none) (ds.drop (i + 1)) m2).bind fun xs m4 => .ok (done ++ xs) m4) α2 H2 R := by
   unfold grd at q2
   split at q2
   ·exact ⟨‹_›,q2⟩
   ·exact q2.elim
  obtain ⟨hko,q2⟩ := q2'
  obtain ⟨g1,g2⟩ := (hJ i α2 m2 H2 E2 W2 hko).1 _ hd
  refine ⟨g1,fun x H3 y => ?_⟩
  obtain ⟨sm,rx⟩ := g2 x H3 y
  have Es := Ext.of_same W2 sm
  have W3 := W2.same sm
  rw [Res.bind_assoc] at q2
  have E23 := E2.trans Es
  refine ⟨α2,ρ ++ List.replicate n none,m2,ds[i],W3,(hr1.mono W1 E23).more n,rx,PQ.mono Es q2.bind fun ρ4 α4 m4 H4 E4 W4 q4 σ4 hr4 => ?_⟩
  rw [Res.bind_assoc] at q4
  refine tDT.use W4 hr4 q4 fun α5 m5 H5 b E5 W5 hr5 q5 => ?_
  have E45 := E4.trans E5
  cases b with
  | false => exact ⟨α5,m5,done,E23.trans E45,W5,(r2.mono W2 Es).mono W3 E45,Nat.le_succ_of_le l2,q5⟩
  | true =>
   have q5' : PQ K cl ex (((fa ρ4 m5).bind fun x m3 => (zet k o gt ta fa (ρ ++ List.replicate n none) (ds.drop (i + 1)) m3).bind fun xs m4 => .ok (x :: xs) m4).bind fun xs m4 => .ok (done ++ xs) m4) α5 H5 R := q5
   rw [Res.bind_assoc] at q5'
   refine tD.use W5 hr5 q5' fun α6 m6 H6 d v E6 W6 hr6 rv q6 => ?_
   rw [Res.bind_assoc] at q6
   refine ⟨α6,m6,done ++ [d],E23.trans (E45.trans E6),W6,RepL.append (((r2.mono W2 Es).mono W3 E45).mono W5 E6) (RepL.one rv),by rw [List.length_append]; show done.length + 1 <= i + 1; omega,?_⟩
   simp only [List.append_assoc,List.singleton_append]
   exact q6
 ·rintro ys H2 ⟨α2,m2,done,E2,W2,r2,l2,q2⟩
  rw [List.drop_of_length_le (Nat.le_refl _),zet] at q2
  have q2' : m2[k]? = some o /\ PQ K cl ex (.ok (done ++ []) m2) α2 H2 R := by
   unfold grd at q2
   split at q2
   ·exact ⟨‹_›,q2⟩
   ·exact q2.elim
  obtain ⟨hko,q3⟩ := q2'
  refine ⟨(hJ ds.length α2 m2 H2 E2 W2 hko).2 rfl,?_⟩
  rw [List.append_nil] at q3
  exact hR _ _ _ _ _ E2 W2 hko (PQ.ok W2 q3) r2
def kD : L2.Key -> D
 | .inl i => .int i
 | .inr z => .str z
theorem rep_k {α : List Addr} {H : Hp} (k : L2.Key) : Rep K α H (kD k) (kV k) := by
 cases k with
 | inl i => rw [kD,Rep]; rfl
 | inr z => rw [kD,Rep]; rfl
theorem RepKV.keysEq {α : List Addr} {H : Hp} : ∀ {ds : List (L2.Key × D)} {vs : List (L2.Key × V)},RepKV K α H ds vs -> ds.map (·.1) = vs.map (·.1)
 | [],_,h => by rw [RepKV] at h; subst h; rfl
 | (k,d) :: r,_,h => by
  rw [RepKV] at h
  obtain ⟨v,r',rfl,_,h2⟩ := h
  rw [List.map_cons,List.map_cons,RepKV.keysEq h2]
theorem ito_k {α : List Addr} {H : Hp} {k : Nat} {a : Addr} {o : Obj} {kvs : List (L2.Key × D)} {xs : List (L2.Key × V)} (hf : H a = some (.frz o (.dK xs))) (e : kvs.map (·.1) = xs.map (·.1)) : ItO K cl α H (Itk a o xs) k .hid (kvs.map fun p => kD p.1) := fun i α1 m1 H1 E1 W1 hk => by
 have he := E1.frzs a o _ hf
 have hl : kvs.length = xs.length := by have := congrArg List.length e; simpa using this
 refine ⟨fun d hd => ?_,fun hi => ⟨he,by rw [hi,List.length_map]; omega⟩⟩
 have hi := (List.getElem?_eq_some_iff.mp hd).1
 rw [List.length_map] at hi
 refine ⟨⟨he,by omega⟩,?_⟩
 rintro x H2 ⟨rfl,k',v,hx,rfl⟩
 refine ⟨Same.refl _,?_⟩
 have h1 := congrArg (fun l => l[i]?) e
 simp only [List.getElem?_map,hx,Option.map_some] at h1
 obtain ⟨p,hp,ep⟩ := Option.map_eq_some_iff.mp h1
 rw [List.getElem?_map,hp] at hd
 cases hd
 show Rep K α1 H2 (kD p.1) (kV k')
 rw [ep]
 exact rep_k _
end
section
variable {K : PySem.W.Frag} {cl : Str -> Addr} {α : List Addr} {m : Sto} {H : Hp}
theorem Kp.thaw {a : Addr} {o : Obj} {ys : List (L2.Key × V)} (ha : a ∈ α) (hz : H a = some (.frz o (.dK ys))) : Kp α H α (upd H a (.dK ys)) := by
 refine ⟨⟨[],by simp⟩,fun b xs h => by rw [zan fun z => by rw [z,hz] at h; cases h]; exact h,fun b xs n h => ⟨n,?_⟩⟩
 have ne : b ≠ a := fun z => n (by rw [z]; exact ha)
 rcases h with h | ⟨o',h⟩
 ·exact .inl (by rw [zan ne]; exact h)
 ·exact .inr ⟨o',by rw [zan ne]; exact h⟩
theorem Wd.thaw (W : Wd K cl α m H) {k : Nat} {a : Addr} {o : Obj} {kvs : List (L2.Key × D)} {ys : List (L2.Key × V)} (h1 : α[k]? = some a) (hz : H a = some (.frz o (.dK ys))) (r : RepKV K α H kvs ys) : Wd K cl α (m.set k (.dct kvs)) (upd H a (.dK ys)) := by
 have ha : a ∈ α := List.mem_of_getElem? h1
 have kp := Kp.thaw ha hz
 refine ⟨by rw [List.length_set]; exact W.len,W.nd,fun j b o' e1 e2 => ?_⟩
 by_cases hj : k = j
 ·subst hj
  rw [h1] at e1
  cases e1
  have hk : k < m.length := by rw [<- W.len]; exact (List.getElem?_eq_some_iff.mp h1).1
  rw [List.getElem?_set_self hk] at e2
  cases e2
  exact ⟨ys,zax,r.kp kp⟩
 ·rw [List.getElem?_set_ne hj] at e2
  have hne : b ≠ a := fun z => by
   subst z
   obtain ⟨hk,e3⟩ := List.getElem?_eq_some_iff.mp h1
   obtain ⟨hk2,e4⟩ := List.getElem?_eq_some_iff.mp e1
   exact hj ((List.getElem_inj W.nd).mp (e3.trans e4.symm))
  exact (W.at' j b o' e1 e2).kp kp fun u hu => by rw [zan hne]; exact hu
end
def zr2 (n : Nat) (g : GV) (c : TV) (el : EV) (ρ : En) (x : D) (m1 : Sto) : Res D := match x with
 | .ob k => match m1[k]? with
  | some (.dct kvs) => if kvs.length <= 1000000 then (match zet k .hid g c el (ρ ++ List.replicate n none) (kvs.map fun p => kD p.1) (m1.set k .hid) with
   | .ok xs m2 => .ok (.lst xs) (m2.set k (.dct kvs))
   | _ => .bad) else .bad
  | _ => .bad
 | _ => .bad
def zeM (n : Nat) (fi : EV) (g : GV) (c : TV) (el : EV) : EV := fun ρ m => (fi ρ m).bind fun x m1 => zr2 n g c el ρ x m1
section
variable {X : Cx} {N0 : List Str} {cl : Str -> Addr} {ex : XD} {e tg it : Expr} {ifs : List Expr} {fa fi : EV} {ta : TV} {pos : Pos} {gt : GV} {scope : Scope} {xs : List Str} {clo : List (Str × Addr)}
theorem zhr (hc : X.calm = true) (hx : X.xe = fun _ _ => False) (S : CompOk X N0 scope xs clo) (hi : QE X cl ex it fi)
  (hg : ∀ C s H fp,QG (X.comp N0 scope xs clo C s H fp) cl ex tg gt) (hf : ∀ C s H fp,PIf (X.comp N0 scope xs clo C s H fp) ifs (tDT X.K cl ex ta)) (he : ∀ C s H fp,QE (X.comp N0 scope xs clo C s H fp) cl ex e fa)
  (hs : autoParam (∀ x,foldedSetIterable it X.env x = pure x) AutoP.a2._auto_1) : QE X cl ex (.ListComp e [⟨tg,it,ifs,0⟩] scope pos) (zeM xs.length fi gt ta fa) :=
 ⟨PE.weak (zpd (g := tDG X.K cl ex gt) (tf := tDT X.K cl ex ta) (te := tD X.K cl ex fa) hc hx S hi.out (fun C s H fp => (hg C s H fp).out) hf (fun C s H fp => (he C s H fp).out) hs) fun σ H Q hh => ex3 hh fun α ρ m W hr h =>
  tD.use W hr h fun α1 m1 H1 d v E1 W1 hr1 rv q1 => by
   unfold zr2 at q1
   split at q1
   ·rename_i k
    split at q1
    ·rename_i kvs hk
     obtain ⟨hlen,q1⟩ := PQ.if q1
     rw [Rep] at rv
     obtain ⟨a,ha,rfl⟩ := rv
     obtain ⟨ys,h1,r1⟩ := W1.dct ha hk
     have ek := RepKV.keysEq r1
     split at q1
     ·rename_i zs m2 hcomp
      refine ⟨a,ys,rfl,h1,fun o wm => ⟨a,o,ys,rfl,wm,?_⟩⟩
      obtain ⟨Wf,Ef⟩ := W1.set (u := .frz o (.dK ys)) (o := .hid) ha fun _ => ⟨o,ys,zax⟩
      refine zmb (R := fun ds α' m' _ => ds = zs /\ m' = m2) (k := k) (o := .hid) (ds := kvs.map fun p => kD p.1) Wf (hr1.mono W1 Ef) (ito_k zax ek) (by rw [List.length_map]; exact hlen) (by rw [hcomp]; exact fun _ _ _ _ => ⟨rfl,rfl⟩) ?_
      rintro ds α' m' H' vs E' W' hk' ⟨rfl,rfl⟩ rvs
      have hfz := E'.frzs a o _ zax
      refine ⟨hfz,fun p hp => ?_⟩
      obtain ⟨β,rfl,hβ⟩ := E'.pre
      have ha' : (α1 ++ β)[k]? = some a := by rw [List.getElem?_append_left (List.getElem?_eq_some_iff.mp ha).1]; exact ha
      have sm := Same.new (o := .lst vs) hp
      have Wp := W'.same sm
      have hpz : upd H' p (.lst vs) a = some (.frz o (.dK ys)) := sm a _ hfz
      have Ep := E'.trans (Ext.of_same W' sm)
      have r2 : RepKV X.K (α1 ++ β) (upd H' p (.lst vs)) kvs ys := (r1.mono W1 Ef).mono Wf Ep
      have Wt := Wp.thaw ha' hpz r2
      have Et : Ext α1 H1 (α1 ++ β) (upd (upd H' p (.lst vs)) a (.dK ys)) := by
       have E0 := Ef.trans Ep
       have ham : a ∈ α1 := List.mem_of_getElem? ha
       refine ⟨E0.pre,fun b u hb n => ?_,fun b hb => ?_,fun b u w hb => ?_⟩
       ·rw [zan fun z => n (by rw [z]; exact ham)]
        exact E0.keep b u hb n
       ·by_cases z : b = a
        ·rw [z,zax]; exact fun q => nomatch q
        ·rw [zan z]; exact E0.there b hb
       ·rw [zan fun z => by rw [z,h1] at hb; cases hb]
        exact E0.frzs b u w hb
      exact q1 _ _ Et Wt _ ((zcm W' hp rvs).kp (Kp.thaw (List.mem_of_getElem? ha') hpz))
     ·exact q1.elim
    ·exact q1.elim
   ·exact q1.elim⟩
end
end MD
set_option autoImplicit false
namespace L2
open PySem PySem.Spec PyProof.Rows
theorem zeC : ∀ {ns : List Int} {us : List Value},Vals (ns.map V.int) us -> IntsAre us ns
 | [],_,r => by cases r; exact .nil
 | n :: ns,_,r => by
  cases r with
  | cons a b =>
   obtain ⟨t,rfl⟩ := a
   exact .cons _ _ (zeC b)
def zc7 (ns : List Int) : List Int := ns.mergeSort
theorem zbd (ns : List Int) : (zc7 ns).Perm ns := List.mergeSort_perm ns _
theorem zcA (ns : List Int) : (zc7 ns).Pairwise (· <= ·) := by
 have h := List.pairwise_mergeSort (le := fun a b : Int => decide (a <= b)) (fun a b c h1 h2 => by simp at *; omega) (fun a b => by simp; omega) ns
 exact h.imp fun h => by simpa using h
theorem zko {ns ns' : List Int} (p : ns'.Perm ns) (o : ns'.Pairwise (· <= ·)) : ns' = zc7 ns := PySem.W.ksm_same (p.trans (zbd ns).symm) o (zcA ns)
theorem zoH {ns : List Int} (o : ns.Pairwise (· <= ·)) : zc7 ns = ns := (zko (.refl _) o).symm
theorem zfn (ns : List Int) : (zc7 ns).length = ns.length := (zbd ns).length_eq
section
variable {X : Cx}
theorem zgG {P : Program} {w : World} {kvs : List (Key × V)} {vs : List (Key × Value)} (r : KV kvs vs) {acc : List Value} (hl : acc.length = vs.length) (h : ∀ (j : Nat) (v : Value),acc[j]? = some v -> ∃ (k : Key) (x : Value),vs[j]? = some (k,x) /\ (zaA P w).is k v = true) : Vals (kvs.map fun p => kV p.1) acc := by
 have hk := r.keys
 have : ∀ (ks : List Key) (acc : List Value),acc.length = ks.length -> (∀ (j : Nat) (v : Value),acc[j]? = some v -> ∃ k : Key,ks[j]? = some k /\ (zaA P w).is k v = true) -> Vals (ks.map kV) acc := by
  intro ks
  induction ks with
  | nil => intro acc hl _; cases acc with
   | nil => exact .nil
   | cons => cases hl
  | cons k ks ih => intro acc hl h; cases acc with
   | nil => cases hl
   | cons a acc =>
    obtain ⟨k',e1,e2⟩ := h 0 a rfl
    cases e1
    exact .cons (znD e2) (ih acc (by simpa using hl) fun j v e => by simpa using h (j + 1) v (by simpa using e))
 have q := this (vs.map (·.1)) acc (by rw [List.length_map]; exact hl) fun j v e => by
  obtain ⟨k,x,e1,e2⟩ := h j v e
  exact ⟨k,by rw [List.getElem?_map,e1]; rfl,e2⟩
 rw [<- hk,List.map_map] at q
 exact q
def zkx : List V -> Hp -> VK -> Prop := fun xs H Q => ∃ (a : Addr) (kvs : List (Key × V)) (ns : List Int),xs = [.ref a] /\ Rd H a (.dK kvs) /\ kvs.map (·.1) = ns.map Sum.inl /\ ns.length < 64 /\ ∀ l,H l = none -> Q (.ref l) (upd H l (.lst ((zc7 ns).map V.int)))
theorem zeN (hc : X.calm = true) : CallR X (.builtin "sorted") zkx := by
 intro pins s σ H xs us Q I r h
 obtain ⟨a,kvs,ns,rfl,hr,hk,h64,q⟩ := h
 obtain ⟨u,rfl,rx⟩ := zbY r
 cases rx
 obtain ⟨hz,hd,vs,rel,dd⟩ := zeZ I.hok hr
 obtain ⟨ep,hat⟩ := dd.dictAt
 have hlen : kvs.length = ns.length := by have := congrArg List.length hk; simpa using this
 have hlv := rel.length
 refine Calls.call_function_entry kind_sorted plain_sorted entry_sorted (args_sorted1 _) ?_
 unfold Builtin.«sorted»
 refine wpAny_bind (m := checkCount "sorted" 1 1 _) (wpAny_pure ?_)
 refine wpAny_bind (PySem.W.kdu_collect (A := X.A.in1) (PySem.W.kdl_dict (knd := zaA X.prog X.w) (kvs := vs) (ep := ep) hd) (I.ok.hd hc) hat (by rw [<- hlv]; exact hz) fun h' tk acc kp hacc => ?_)
 have hl : acc.toList.length = vs.length := by rw [Array.length_toList]; exact hacc.1
 have hv := zgG (P := X.prog) (w := X.w) rel hl fun j v e => hacc.2 j v (by rw [<- Array.getElem?_toList]; exact e)
 have ek : (kvs.map fun p => kV p.1) = ns.map V.int := by
  have := congrArg (List.map kV) hk
  rw [List.map_map,List.map_map] at this
  exact this
 rw [ek] at hv
 have hi := zeC hv
 refine wpAny_bind (wpAny_newList ?_ (by rw [hl,<- hlv]; exact hz))
 have hoL : (h'.push (seqObj "list" acc.toList.toArray 0)).get? h'.objs.size = some (seqObj "list" acc.toList.toArray 0) := Heap.get?_push_size _ rfl
 show wpAny _ _ _ _ _ { s with heap := h'.push (seqObj "list" acc.toList.toArray 0),toks := tk }
 refine wpAny_bind (wpAny_holding (wpAny_call_entry slot_list_sort ⟨_,hoL,rfl⟩ entry_list_sort (list_sort_tree hoL hi (by omega) fun out ns' a1 a2 a3 => ⟨_,rfl,?_⟩) (args_list_sort _)))
 refine wpAny_pure ⟨_,rfl,?_⟩
 obtain ⟨e,he⟩ := sortedHeap_at (out := out) hoL
 have hn : ns' = zc7 ns := zko a2 a3
 subst hn
 have I1 : Inv X pins σ H { s with heap := h',toks := tk } := I.kept (t' := tk) kp
 refine ⟨.ref h'.objs.size,_,I1.laid (t' := tk) (fun b o ho => ?_) (Nat.le_refl _) (show ObjOk X.prog X.w _ _ _ (.lst ((zc7 ns).map V.int)) from ⟨?_,out.toList,e,zfj a1,by simpa using he⟩),rfl,q _ (I1.hok.fresh (Nat.le_refl _))⟩
 ·have hlt := Heap.lt_size ho
  rw [sortedHeap_old (Nat.ne_of_lt hlt) (by rw [size_push']; exact Nat.lt_succ_of_lt hlt),Heap.get?_push_ne _ _ _ (Nat.ne_of_lt hlt)]
  exact ho
 ·rw [List.length_map,zfn,sizeLine_eq]
  omega
def zpX : List V -> Hp -> VK -> Prop := fun xs H Q => ∃ (a : Addr) (kvs : List (Key × V)),xs = [.ref a] /\ Rd H a (.dK kvs) /\ ∀ l,H l = none -> Q (.ref l) (upd H l (.lst (kvs.map fun p => kV p.1)))
theorem zgW (hc : X.calm = true) : CallR X (.type "list") zpX := by
 intro pins s σ H xs us Q I r h
 obtain ⟨a,kvs,rfl,hr,q⟩ := h
 obtain ⟨u,rfl,rx⟩ := zbY r
 cases rx
 obtain ⟨hz,hd,vs,rel,dd⟩ := zeZ I.hok hr
 obtain ⟨ep,hat⟩ := dd.dictAt
 have hlv := rel.length
 refine PySem.W.kdl_call (PySem.W.kdl_dict (knd := zaA X.prog X.w) (kvs := vs) (ep := ep) hd) (I.ok.hd hc) hat (by rw [<- hlv]; exact hz) fun h' tk acc c kp hS hacc => ?_
 have hl : acc.toList.length = vs.length := by rw [Array.length_toList]; exact hacc.1
 have hv := zgG (P := X.prog) (w := X.w) rel hl fun j v e => hacc.2 j v (by rw [<- Array.getElem?_toList]; exact e)
 exact ⟨.ref s.heap.objs.size,_,I.laid (t' := tk) kp (Nat.le_refl _) (show ObjOk X.prog X.w _ _ _ (.lst (kvs.map fun p => kV p.1)) from ⟨by rw [List.length_map]; exact hz,acc.toList,c,hv,by simpa using hS⟩),rfl,q _ (I.hok.fresh (Nat.le_refl _))⟩
end
section
variable {X : Cx} {N0 : List Str} {scope : Scope} {xs : List Str} {cl : List (Str × Addr)} {pins : List (Addr × Obj)} {σ : St} {H2 : Hp} {s2 : Shared} {fp : List Addr} {C : Addr}
theorem zoi {pins' : List (Addr × Obj)} {σ' : St} {H' : Hp} {s' : Shared} {D : Addr} {ys : List (Key × V)} {vs : List (Key × Value)} (I2 : Inv X pins σ H2 s2) (f2 : ∀ b ∈ fp,zd8 X pins H2 b) (hD : s2.heap.objs.size <= D)
  (J : Inv (X.comp N0 scope xs cl C s2 H2 fp) pins' σ' H' s') (hn : H' D = none) (hs : (D == sysModules) = false) (r : KV ys vs) (dd : s'.heap.DictOf (zaA X.prog X.w) D vs) (hz : ys.length <= sizeLine) :
  Inv X pins σ (upd H' D (.dK ys)) s' := by
 have u : Un (frs X.stack) fp H2 H' s2.heap s'.heap := J.base
 have neD : ∀ b o,s2.heap.get? b = some o -> b ≠ D := fun b o q => Nat.ne_of_lt (Nat.lt_of_lt_of_le (Heap.lt_size q) hD)
 have neT : ∀ b o,H2 b = some o -> b ≠ D := fun b o q => Nat.ne_of_lt (Nat.lt_of_lt_of_le (I2.hok.lt q) hD)
 refine I2.call' (ch := fp) J.os ⟨u.keep,u.slot,fun b o q m hx => ?_,u.there,fun b zs q => ?_,fun b o zs q => ?_,fun b ps q => ?_⟩ (zdX J.hok hn ⟨hz,hs,vs,r,dd⟩) J.bare fun b hb => ?_
 ·rw [zan (neD b o q)]
  exact u.free b o q m hx
 ·rw [zan (neT b _ q)]
  exact u.tups b zs q
 ·rw [zan (neT b _ q)]
  exact u.frzs b o zs q
 ·rw [zan (neT b _ q)]
  exact u.tbls b ps q
 ·obtain ⟨_,z1,_,z2,z3,z4⟩ := f2 b hb
  exact ⟨z2,z1,z3,z4⟩
end
theorem zj2 {prog : Program} {w : World} {A : Around} {R : Result -> Shared -> Prop} {s : Shared} {kx vx target iter : Expr} {ifs : List Expr} {scope : Scope} {pos : Pos} {it : Value} {D : Addr} {env : Env} (I : Nat -> Shared -> Prop)
  (turn : ∀ n s,I n s -> wpAny (model prog w) A (pyNext it) (fun r s₁ => match r with
   | none => R (.ok .next) s₁
   | some v => wpAny (model prog w) A (letOwnedTupleGo target it v) (fun _ t₁ => wpAny (model prog w) A (assign target env v) (fun _ s₂ =>
     wpAny (model prog w) A (forIn ifs true fun c r => if r = true then do let ok <- isTrue c env (eval c env); pure (ForInStep.yield ok) else pure (ForInStep.yield r)) (fun ok s₃ =>
      if ok = true then wpAny (model prog w) A (eval kx env) (fun kv s₄ => wpAny (model prog w) A (eval vx env) (fun vv s₅ => wpAny (model prog w) A (dictSet D kv vv) (fun _ s₆ => ∃ m,m < n /\ I m s₆) (fun _ _ => False) s₅) (fun _ _ => False) s₄) (fun _ _ => False) s₃
      else ∃ m,m < n /\ I m s₃) (fun _ _ => False) s₂) (fun _ _ => False) t₁) (fun _ _ => False) s₁) (fun _ _ => False) s)
  (n : Nat) (h : I n s) : codeAny (model prog w) A (.compLoop (.DictComp kx vx [⟨target,iter,ifs,0⟩] scope pos) 0 it (.ref D) env) R s := by
 refine codeAny_loop rfl I (fun n s hI => ?_) n h
 show wpAny _ A (Sem.onRaise (compTurn _ 0 it (.ref D) env) fun x => do noteFrame x env; theTreesLotGoes x) _ _ s
 refine wpAny_noted ?_
 rw [compTurn_dict]
 refine wpAny_bind (wpAny_standAt (wpAny_bind (wpAny_mono (turn n s hI) (fun r s₁ h₁ => ?_) fun _ _ z => z.elim)))
 cases r with
 | none => exact wpAny_pure h₁
 | some v =>
  refine wpAny_bind (wpAny_mono h₁ (fun _ t₁ k₁ => ?_) fun _ _ z => z.elim)
  refine wpAny_bind (wpAny_mono k₁ (fun _ s₂ h₂ => wpAny_bind (wpAny_mono h₂ (fun ok s₃ h₃ => ?_) fun _ _ z => z.elim)) fun _ _ z => z.elim)
  cases ok with
  | false => exact wpAny_pure ⟨rfl,h₃⟩
  | true =>
   exact wpAny_bind (wpAny_bind (wpAny_mono h₃ (fun kv s₄ h₄ => wpAny_bind (wpAny_holding (wpAny_mono h₄ (fun vv s₅ h₅ => wpAny_bind (wpAny_standAt (wpAny_holding (wpAny_mono h₅ (fun _ s₆ h₆ => wpAny_pure ⟨rfl,h₆⟩) fun _ _ z => z.elim)))) fun _ _ z => z.elim))) fun _ _ z => z.elim))
section
variable {X : Cx} {N0 : List Str} {tg kx vx iter : Expr} {ifs : List Expr} {scope : Scope} {xs : List Str} {cl : List (Str × Addr)} {pos : Pos} {wi : TI} {g : TG} {tf : TT} {tk tv : TE}
theorem zj3 {pins : List (Addr × Obj)} {σ : St} {H2 : Hp} {s2 : Shared} {it : Addr} {fp : List Addr} {tn : Nat -> Heap -> Prop} {J : It} {W : Nat -> Nat -> List (Key × V) -> Hp -> Prop} {m0 : Nat} {fin : List (Key × V) -> Hp -> Prop} {RR : Value -> Addr -> Result -> Shared -> Prop}
  (hc : X.calm = true) (hx : X.xe = fun _ _ => False) (S : CompOk X N0 scope xs cl)
  (hg : ∀ C s H fp,PG (X.comp N0 scope xs cl C s H fp) tg g) (hf : ∀ C s H fp,PIf (X.comp N0 scope xs cl C s H fp) ifs tf) (hk : ∀ C s H fp,PE (X.comp N0 scope xs cl C s H fp) kx tk) (he : ∀ C s H fp,PE (X.comp N0 scope xs cl C s H fp) vx tv)
  (I2 : Inv X pins σ H2 s2) (T : Turn X.prog X.w X.K tg J fp it tn) (st2 : tn 0 s2.heap) (f2 : ∀ b ∈ fp,zd8 X pins H2 b) (w0 : W 0 m0 [] H2)
  (turn : ∀ i m ys H,W i m ys H -> ys.length <= sizeLine /\ ((J.stop i H /\ fin ys H) ∨ (J.go i H /\ ∃ (Y : Key -> V -> Hp -> Prop) (Z : Hp -> Prop),(∀ k y H4,Y k y H4 -> ys.length < sizeLine /\ ∃ m',m' < m /\ W (i + 1) m' (zdR ys k y) H4) /\ (∀ H3,Z H3 -> ∃ m',m' < m /\ W (i + 1) m' ys H3) ∧
   ∀ x H',J.yld i H x H' -> g x (σ ++ List.replicate xs.length none) H' fun σ2 H2 => tf σ2 H2 fun b H3 => if b = true then tk σ2 H3 (fun kv H4 => tv σ2 H4 fun y H5 => ∃ k,kv = kV k /\ Y k y H5) else Z H3)))
  (hRR : ∀ (D C : Addr) (s' : Shared) (ys : List (Key × V)) (H' : Hp) (m' : Str -> Option Value),Inv X pins σ (upd H' D (.dK ys)) s' -> H' D = none -> s'.heap.Ns C m' -> zd8 X pins (upd H' D (.dK ys)) C -> fin ys H' -> RR (.ref D) C (.ok .next) s') :
  wpAny (model X.prog X.w) X.A newDict (fun acc s₃ => wpAny (model X.prog X.w) X.A (newFunctionEnv scope X.env.globals cl [] X.env.qual none .none (some X.env)) (fun cenv s₄ =>
   codeAny (model X.prog X.w) X.A (.compStart (.DictComp kx vx [⟨tg,iter,ifs,0⟩] scope pos) 0 (.ref it) acc { cenv with scope := relabel scope X.env }) (RR acc cenv.locals) s₄) X.xe s₃) X.xe s2 := by
 refine wpAny_newObj_type (wpAny_newFunctionEnv S.nc (by intro y hy; simp at hy) (fun h₁ hns₁ hsb₁ => ?_) S.kind)
 dsimp only at hns₁ hsb₁ ⊢
 generalize hG : s2.heap.push { cls := .type "dict", dict := none,data := .dict #[] } = G at hns₁ hsb₁ ⊢
 have szG : G.objs.size = s2.heap.objs.size + 1 := by rw [<- hG,Heap.size_push]
 have hDC : s2.heap.objs.size ≠ G.objs.size := by rw [szG]; exact Nat.ne_of_lt (Nat.lt_succ_self _)
 have hC : s2.heap.objs.size <= G.objs.size := by rw [szG]; exact Nat.le_succ _
 have hfp : ∀ b ∈ fp,b < s2.heap.objs.size := fun b hb => let ⟨_,e,_⟩ := T.obj 0 _ st2 b hb; Heap.lt_size e
 have old : ∀ b o,s2.heap.get? b = some o -> h₁.get? b = some o := fun b o e =>
  hsb₁.extBut b o (Nat.ne_of_lt (Nat.lt_of_lt_of_le (Heap.lt_size e) hC)) (Heap.get?_push_of_some _ (hG ▸ Heap.get?_push_of_some _ e))
 have hacc : h₁.get? s2.heap.objs.size = some { cls := .type "dict", data := .dict #[] } := hsb₁.extBut _ _ hDC (Heap.get?_push_of_some _ (hG ▸ Heap.get?_push_size _ rfl))
 have hnew : h₁.DictOf (zaA X.prog X.w) s2.heap.objs.size [] := (Heap.DictOf.new (knd := zaA X.prog X.w) s2.heap).at fun o e => by rw [Heap.get?_push_size _ rfl] at e; cases e; exact hacc
 have hsys : (s2.heap.objs.size == sysModules) = false := beq_eq_false_iff_ne.mpr (Ne.symm (Nat.ne_of_lt I2.big))
 have hst₁ : tn 0 h₁ := T.keep 0 _ _ st2 fun b _ o e => old b o e
 have I3 : ∀ tk,Inv (X.comp N0 scope xs cl G.objs.size s2 H2 fp) [(s2.heap.objs.size,{ cls := .type "dict", data := .dict #[] })] (σ ++ List.replicate xs.length none) H2 { s2 with heap := h₁,toks := tk } := fun tk =>
  zgR I2 S f2 hfp hC (Nat.le_refl _) hDC old rfl I2.bare hns₁ hacc fun _ z => nomatch z
 have stat : ∀ {H' : Hp} {o : Obj},(∀ b ∈ fp,H' b = none) -> ∀ b ∈ fp,zd8 (X.comp N0 scope xs cl G.objs.size s2 H2 fp) [(s2.heap.objs.size,o)] H' b := fun {H' o} hn b hb => by
  refine ⟨hn b hb,Nat.ne_of_lt (Nat.lt_of_lt_of_le (hfp b hb) hC),fun z => ?_,.inl hb,fun x c e => (f2 b hb).2.2.2.2.1 x c (S.sub.at e),fun p hp => ?_⟩
  ·rcases List.mem_cons.mp (I2.stkSub b z) with q | q
   ·exact (f2 b hb).2.1 q
   ·exact (f2 b hb).2.2.1 q
  ·have e : p = (s2.heap.objs.size,o) := List.mem_singleton.mp (show p ∈ [(s2.heap.objs.size,o)] from hp)
   subst e
   exact Nat.ne_of_gt (hfp b hb)
 have loop : ∀ tk0,codeAny (model X.prog X.w) X.A (.compLoop (.DictComp kx vx [⟨tg,iter,ifs,0⟩] scope pos) 0 (.ref it) (.ref s2.heap.objs.size) (compEnvC scope cl G.objs.size X.env)) (RR (.ref s2.heap.objs.size) G.objs.size) { s2 with heap := h₁,toks := tk0 } := by
  intro tk0
  refine zj2 (fun n s' => ∃ i ys vs oD H',Inv (X.comp N0 scope xs cl G.objs.size s2 H2 fp) [(s2.heap.objs.size,oD)] (σ ++ List.replicate xs.length none) H' s' /\ tn i s'.heap /\ (∀ b ∈ fp,H' b = none) /\ KV ys vs /\ s'.heap.DictOf (zaA X.prog X.w) s2.heap.objs.size vs /\ W i n ys H')
   ?_ m0 ⟨0,[],[],_,H2,I3 tk0,hst₁,fun b hb => (f2 b hb).1,.nil,hnew,w0⟩
  rintro n s' ⟨i,ys,vs,oD,H',I',st',fr',rv,dd,w'⟩
  obtain ⟨hlen,way⟩ := turn i n ys H' w'
  have atD : ∀ {pins' : List (Addr × Obj)} {σ' : St} {H' : Hp} {s' : Shared},Inv (X.comp N0 scope xs cl G.objs.size s2 H2 fp) pins' σ' H' s' -> (s2.heap.objs.size,oD) ∈ (X.comp N0 scope xs cl G.objs.size s2 H2 fp).pn ++ pins' -> s'.heap.DictOf (zaA X.prog X.w) s2.heap.objs.size vs := fun {pins' σ' H' s'} J hm => by
   obtain ⟨o,ho,hr⟩ := Heap.dictOf_iff.mp dd
   obtain ⟨e1,_⟩ := I'.pin _ (List.mem_append_right _ (List.mem_singleton.mpr rfl))
   rw [e1] at ho
   cases ho
   exact Heap.dictOf_iff.mpr ⟨oD,(J.pin _ hm).1,hr⟩
  rcases way with ⟨stop,qf⟩ | ⟨go,Y,Z,hY,hZ,step⟩
  ·refine thn (T.done (X.comp N0 scope xs cl G.objs.size s2 H2 fp) rfl rfl rfl hc i _ s' _ H' (fun _ _ => False) I' (stat fr') st' stop) fun r s1 ⟨hr,I1⟩ => ?_
   subst hr
   obtain ⟨e,n1,_⟩ := I1.pin _ (List.mem_append_right _ (List.mem_singleton.mpr rfl))
   obtain ⟨m1,hn1,_⟩ := I1.loc
   refine hRR _ _ s1 ys H' m1 (zoi I2 f2 (Nat.le_refl _) I1 n1 hsys rv (atD I1 (List.mem_append_right _ (List.mem_singleton.mpr rfl))) hlen) n1 hn1 ?_ qf
   refine I2.fpOk hC ?_
   rw [zan hDC.symm]
   exact I1.free
  ·refine thn (T.item (X.comp N0 scope xs cl G.objs.size s2 H2 fp) rfl rfl rfl hc i _ s' _ H' (fun _ _ => False) I' (stat fr') st' go) fun r s1 ⟨u,hr,h1⟩ => ?_
   subst hr
   refine thn h1 fun _ s5 ⟨x,H5,I5,r5,y5,st5,fr5⟩ => ?_
   have I5' := I5.pinned (stat fr5) (T.obj _ _ st5)
   have hxe : (X.comp N0 scope xs cl G.objs.size s2 H2 fp).xe = fun _ _ => False := hx
   have q6 := hg _ s2 H2 fp _ s5 _ H5 x u _ I5' r5 (step x H5 y5)
   rw [hxe] at q6
   refine thn q6 fun _ s6 ⟨σ6,H6,I6,q6⟩ => ?_
   have q7 := hf _ s2 H2 fp _ s6 σ6 H6 _ I6 q6
   rw [hxe] at q7
   refine thn q7 fun b s7 ⟨H7,I7,q7⟩ => ?_
   have kept : ∀ {σ' : St} {H' : Hp} {s' : Shared},Inv (X.comp N0 scope xs cl G.objs.size s2 H2 fp) ([(s2.heap.objs.size,oD)] ++ zbK fp s5.heap) σ' H' s' -> tn (i + 1) s'.heap /\ ∀ b ∈ fp,H' b = none := fun {σ' H' s'} Z => by
    refine ⟨T.keep _ _ _ st5 fun b hb o e => (Z.pin (b,o) (List.mem_append_right _ (List.mem_append_right _ (zbF hb e)))).1,fun b hb => ?_⟩
    obtain ⟨o,e,d⟩ := T.obj _ _ st5 b hb
    exact (Z.pin (b,o) (List.mem_append_right _ (List.mem_append_right _ (zbF hb e)))).2.1
   cases b with
   | false =>
    rw [if_neg Bool.false_ne_true]
    rw [if_neg Bool.false_ne_true] at q7
    obtain ⟨m',hm,w7⟩ := hZ _ q7
    exact ⟨m',hm,i + 1,ys,vs,oD,H7,zc4 I2 S f2 I7.unpinned,(kept I7).1,(kept I7).2,rv,atD I7 (List.mem_append_right _ (List.mem_append_left _ (List.mem_singleton.mpr rfl))),w7⟩
   | true =>
    rw [if_pos rfl]
    rw [if_pos rfl] at q7
    have q8 := hk _ s2 H2 fp _ s7 σ6 H7 _ I7 q7
    rw [hxe] at q8
    refine thn q8 fun kv s8 ⟨kvv,H8,I8,r8,q8⟩ => ?_
    have q9 := he _ s2 H2 fp _ s8 σ6 H8 _ I8 q8
    rw [hxe] at q9
    refine thn q9 fun y s9 ⟨yv,H9,I9,r9,kk,ek,qY⟩ => ?_
    subst ek
    obtain ⟨hz,m',hm,w8⟩ := hY _ _ _ qY
    have mD : (s2.heap.objs.size,oD) ∈ (X.comp N0 scope xs cl G.objs.size s2 H2 fp).pn ++ ([(s2.heap.objs.size,oD)] ++ zbK fp s5.heap) := List.mem_append_right _ (List.mem_append_left _ (List.mem_singleton.mpr rfl))
    obtain ⟨eD,nD,neC,nfD,_⟩ := I9.pin (s2.heap.objs.size,oD) mD
    have hl := rv.length
    refine wpAny_dictSet_pairs (hsz := by rw [<- hl]; exact hlen) (ziE r8) (atD I9 mD) fun h₆ hl₆ hs₆ => ?_
    obtain ⟨o',ho',hr'⟩ := Heap.dictOf_iff.mp hl₆
    have hcell : ∀ v,o'.data ≠ .cell v := fun v z => by
     obtain ⟨_,es,ep,hg',_,hd',_⟩ := hl₆
     rw [ho'] at hg'
     cases hg'
     rw [hd'] at z
     cases z
    have drop : Inv (X.comp N0 scope xs cl G.objs.size s2 H2 fp) (zbK fp s5.heap) σ6 H9 s9 := I9.pins_of fun p hp => I9.pin p (List.mem_append_right _ (List.mem_append_right _ hp))
    have I10 : ∀ t',Inv (X.comp N0 scope xs cl G.objs.size s2 H2 fp) (zbK fp s5.heap) σ6 H9 { s9 with heap := h₆,toks := t' } := fun t' => by
     refine drop.turned (it := s2.heap.objs.size) (t' := t') (fun b o hb q => hs₆.extBut b o hb q) nD neC (.inr (Nat.le_refl _)) (fun x c e z => ?_) fun p hp z => ?_
     ·obtain ⟨v,q⟩ := I2.cell x c (S.sub.at e)
      exact absurd (q.lt) (by rw [z]; exact Nat.lt_irrefl _)
     ·have hp' : p ∈ zbK fp s5.heap := hp
      exact absurd (hfp _ (zfC hp').1) (by rw [z]; exact Nat.lt_irrefl _)
    have I11 : ∀ t',Inv (X.comp N0 scope xs cl G.objs.size s2 H2 fp) ([(s2.heap.objs.size,o')] ++ zbK fp s5.heap) σ6 H9 { s9 with heap := h₆,toks := t' } := fun t' => (I10 t').pins_of fun p hp => by
     rcases List.mem_append.mp hp with z | z
     ·have e := List.mem_singleton.mp z
      subst e
      exact ⟨ho',nD,neC,nfD,hcell⟩
     ·exact (I10 t').pin p (List.mem_append_right _ z)
    have kp : tn (i + 1) h₆ /\ ∀ b ∈ fp,H9 b = none := by
     refine ⟨T.keep _ _ _ (kept I9).1 fun b hb o e => hs₆.extBut b o (Nat.ne_of_lt (hfp b hb)) e,(kept I9).2⟩
    exact ⟨m',hm,i + 1,zdR ys kk yv,stored vs kk y,o',H9,zc4 I2 S f2 (I11 _).unpinned,kp.1,kp.2,rv.put kk r9,hl₆,w8⟩
 exact codeAny_compStart_dict (loop _) (T.self _ 0 _ _ _ hst₁ (loop _))
def zpT (n : Nat) (wi : TI) (g : TG) (tf : TT) (tk tv : TE) (fin : List (Key × V) -> Hp -> Prop) : St -> Hp -> Prop := fun σ H => wi σ H fun J H1 => ∃ W : Nat -> Nat -> List (Key × V) -> Hp -> Prop,(∃ m,W 0 m [] H1) /\ ∀ i m ys H,W i m ys H →
 ys.length <= sizeLine /\ ((J.stop i H /\ fin ys H) ∨ (J.go i H /\ ∃ (Y : Key -> V -> Hp -> Prop) (Z : Hp -> Prop),(∀ k y H4,Y k y H4 -> ys.length < sizeLine /\ ∃ m',m' < m /\ W (i + 1) m' (zdR ys k y) H4) /\ (∀ H3,Z H3 -> ∃ m',m' < m /\ W (i + 1) m' ys H3) ∧
  ∀ x H',J.yld i H x H' -> g x (σ ++ List.replicate n none) H' fun σ2 H2 => tf σ2 H2 fun b H3 => if b = true then tk σ2 H3 (fun kv H4 => tv σ2 H4 fun y H5 => ∃ k,kv = kV k /\ Y k y H5) else Z H3))
theorem zpe (hc : X.calm = true) (hx : X.xe = fun _ _ => False) (S : CompOk X N0 scope xs cl) (hi : PI X tg iter wi)
  (hg : ∀ C s H fp,PG (X.comp N0 scope xs cl C s H fp) tg g) (hf : ∀ C s H fp,PIf (X.comp N0 scope xs cl C s H fp) ifs tf) (hk : ∀ C s H fp,PE (X.comp N0 scope xs cl C s H fp) kx tk) (he : ∀ C s H fp,PE (X.comp N0 scope xs cl C s H fp) vx tv)
  (hs : autoParam (∀ x,foldedSetIterable iter X.env x = pure x) AutoP.a2._auto_1) :
  PE X (.DictComp kx vx [⟨tg,iter,ifs,0⟩] scope pos) (fun σ H Q => zpT xs.length wi g tf tk tv (fun ys H' => ∀ p,H' p = none -> Q (.ref p) (upd H' p (.dK ys))) σ H) := by
 intro pins s σ H Q I h
 rw [arm_eval_DictComp]
 refine wpAny_comprehension_free (use := none) rfl hs S.clos S.kind (fun y hy hl => (S.lo hy hl).1) ?_
 refine thn (hi pins s σ H _ I h) fun xv s1 h1 => thn h1 fun itv s2 h2 => ?_
 obtain ⟨it,fp,tn,J,H2,rfl,I2,T,st2,f2,W,⟨m0,w0⟩,turn⟩ := h2
 refine zj3 (RR := fun acc C => compPost (model X.prog X.w) X.A X.xe none (EP X pins σ Q) acc C) hc hx S hg hf hk he I2 T st2 f2 w0 turn ?_
 intro D C s' ys H' m' I' nD hn fC fin
 exact ⟨m',hn,fun h' k => ⟨.ref D,_,zf5 I' fC k,rfl,fin D nD⟩⟩
end
end L2
namespace PySem
open Sem (wp)
end PySem
set_option autoImplicit false
namespace L2
open PySem PySem.Spec PyProof.Rows
section
variable {g : TG} {tf : TT} {tk tv : TE} {fin : List (Key × V) -> Hp -> Prop} {n : Nat} {σ : St} {H : Hp}
theorem zpL {J : It} {k : Nat} (Pv : Nat -> List (Key × V) -> Hp -> Prop) (hk : k <= 1000000) (h0 : Pv 0 [] H) (hz : ∀ i ys H,Pv i ys H -> ys.length <= i)
  (hgo : ∀ i ys H,i < k -> Pv i ys H -> J.go i H /\ ∀ x H',J.yld i H x H' -> g x (σ ++ List.replicate n none) H' fun σ2 H2 => tf σ2 H2 fun b H3 => if b = true then tk σ2 H3 (fun kv H4 => tv σ2 H4 fun y H5 => ∃ q,kv = kV q /\ Pv (i + 1) (zdR ys q y) H5) else Pv (i + 1) ys H3)
  (hst : ∀ ys H,Pv k ys H -> J.stop k H /\ fin ys H) :
  ∃ W : Nat -> Nat -> List (Key × V) -> Hp -> Prop,(∃ m,W 0 m [] H) /\ ∀ i m ys H,W i m ys H -> ys.length <= sizeLine /\ ((J.stop i H /\ fin ys H) ∨ (J.go i H /\ ∃ (Y : Key -> V -> Hp -> Prop) (Z : Hp -> Prop),(∀ k y H4,Y k y H4 -> ys.length < sizeLine /\ ∃ m',m' < m /\ W (i + 1) m' (zdR ys k y) H4) ∧
   (∀ H3,Z H3 -> ∃ m',m' < m /\ W (i + 1) m' ys H3) /\ ∀ x H',J.yld i H x H' -> g x (σ ++ List.replicate n none) H' fun σ2 H2 => tf σ2 H2 fun b H3 => if b = true then tk σ2 H3 (fun kv H4 => tv σ2 H4 fun y H5 => ∃ k,kv = kV k /\ Y k y H5) else Z H3)) := by
 have hl : sizeLine = 16777216 := sizeLine_eq
 refine ⟨fun i m ys H => m = k - i /\ i <= k /\ Pv i ys H,⟨k,by simp,Nat.zero_le _,h0⟩,?_⟩
 rintro i m ys H ⟨rfl,hi,p⟩
 have z := hz i ys H p
 refine ⟨by omega,?_⟩
 by_cases hlt : i < k
 ·obtain ⟨g1,g2⟩ := hgo i ys H hlt p
  exact .inr ⟨g1,fun q y H4 => Pv (i + 1) (zdR ys q y) H4,fun H3 => Pv (i + 1) ys H3,fun q y H4 w => ⟨by omega,k - (i + 1),by omega,rfl,hlt,w⟩,fun H3 q => ⟨k - (i + 1),by omega,rfl,hlt,q⟩,g2⟩
 ·have e : i = k := by omega
  subst e
  exact .inl (hst ys H p)
end
end L2
namespace MD
open PySem PySem.Spec PyProof.Rows L2
section
variable {K : PySem.W.Frag} {cl : Str -> Addr} {ex : XD} {gt : GV} {ta : TV} {fk fv : EV} {fr : AV}
def ze0 (g : GV) (c : TV) (ek ev : EV) (ρ : En) : List D -> List (L2.Key × D) -> Sto -> Res (List (L2.Key × D))
 | [],acc,m => .ok acc m
 | d :: r,acc,m => (g d ρ m).bind fun ρ1 m1 => (c ρ1 m1).bind fun b m2 => if b = true then (ek ρ1 m2).bind fun k m3 => (ev ρ1 m3).bind fun x m4 => match zgn k with
  | some q => ze0 g c ek ev ρ r (zgB acc q x) m4
  | none => .bad else ze0 g c ek ev ρ r acc m2
def zn9 (n : Nat) (it : AV) (g : GV) (c : TV) (ek ev : EV) : EV := fun ρ m => (it ρ m).bind fun ds m1 => if ds.length <= 1000000 then (ze0 g c ek ev (ρ ++ List.replicate n none) ds [] m1).bind fun kvs m2 => .ok (.ob m2.length) (m2 ++ [.dct kvs]) else .bad
theorem zkB : ∀ (kvs : List (L2.Key × D)) (k : L2.Key) (d : D),(zgB kvs k d).length <= kvs.length + 1
 | [],k,d => by simp [zgB]
 | p :: r,k,d => by
  unfold zgB
  split
  ·simp
  ·have := zkB r k d
   simp only [List.length_cons]
   omega
theorem zmh {n : Nat} {fin : List (L2.Key × V) -> Hp -> Prop} {σ : L2.St} {H : Hp} (h : ∃ α ρ m,Wd K cl α m H /\ RepE K α H ρ σ /\ PQ K cl ex ((fr ρ m).bind fun ds m1 => if ds.length <= 1000000 then ze0 gt ta fk fv (ρ ++ List.replicate n none) ds [] m1 else .bad) α H fun ds α' _ H' => ∀ vs,RepKV K α' H' ds vs -> fin vs H') :
  zpT n (tDI K cl ex fr) (tDG K cl ex gt) (tDT K cl ex ta) (tD K cl ex fk) (tD K cl ex fv) fin σ H := by
 obtain ⟨α,ρ,m,W,hr,h⟩ := h
 refine ⟨α,ρ,m,W,hr,PQ.mono (Ext.refl W) h.bind fun ds α1 m1 H1 E1 W1 q J hJ => ?_⟩
 obtain ⟨hk,q⟩ := PQ.if q
 have hr1 := hr.mono W E1
 refine zpL (k := ds.length) (fun i ys H2 => ∃ α2 m2 done,Ext α1 H1 α2 H2 /\ Wd K cl α2 m2 H2 /\ RepKV K α2 H2 done ys /\ done.length <= i /\ PQ K cl ex (ze0 gt ta fk fv (ρ ++ List.replicate n none) (ds.drop i) done m2) α2 H2 fun ds α' _ H' => ∀ vs,RepKV K α' H' ds vs -> fin vs H') hk ?_ ?_ ?_ ?_
 ·exact ⟨α1,m1,[],Ext.refl W1,W1,rfl,Nat.le_refl _,q⟩
 ·rintro i ys H2 ⟨_,_,done,_,_,r,l,_⟩
  rw [<- r.length]
  exact l
 ·rintro i ys H2 hi ⟨α2,m2,done,E2,W2,r2,l2,q2⟩
  have hd : ds[i]? = some ds[i] := by simp [hi]
  obtain ⟨g1,g2⟩ := (hJ i α2 m2 H2 E2 W2).1 _ hd
  refine ⟨g1,fun x H3 y => ?_⟩
  obtain ⟨sm,rx⟩ := g2 x H3 y
  have Es := Ext.of_same W2 sm
  have W3 := W2.same sm
  rw [List.drop_eq_getElem_cons hi,ze0] at q2
  have E23 := E2.trans Es
  refine ⟨α2,ρ ++ List.replicate n none,m2,ds[i],W3,(hr1.mono W1 E23).more n,rx,PQ.mono Es q2.bind fun ρ4 α4 m4 H4 E4 W4 q4 σ4 hr4 => ?_⟩
  refine tDT.use W4 hr4 q4 fun α5 m5 H5 b E5 W5 hr5 q5 => ?_
  have E45 := E4.trans E5
  cases b with
  | false => exact ⟨α5,m5,done,E23.trans E45,W5,(r2.mono W2 Es).mono W3 E45,Nat.le_succ_of_le l2,q5⟩
  | true =>
   refine tD.use W5 hr5 q5 fun α6 m6 H6 d v E6 W6 hr6 rv q6 => ?_
   refine tD.use W6 hr6 q6 fun α7 m7 H7 d2 v2 E7 W7 hr7 rv2 q7 => ?_
   cases ek : zgn d with
   | none => rw [ek] at q7; exact q7.elim
   | some q =>
    rw [ek] at q7
    refine ⟨q,zfN ek rv,α7,m7,zgB done q d2,E23.trans (E45.trans (E6.trans E7)),W7,RepKV.put rv2 (((((r2.mono W2 Es).mono W3 E45).mono W5 E6)).mono W6 E7),?_,q7⟩
    have := zkB done q d2
    omega
 ·rintro ys H2 ⟨α2,m2,done,E2,W2,r2,l2,q2⟩
  rw [List.drop_of_length_le (Nat.le_refl _),ze0] at q2
  exact ⟨(hJ ds.length α2 m2 H2 E2 W2).2 rfl,PQ.ok W2 q2 ys r2⟩
end
section
variable {X : Cx} {N0 : List Str} {cl : Str -> Addr} {ex : XD} {kx vx tg it : Expr} {ifs : List Expr} {fk fv : EV} {ta : TV} {fr : AV} {pos : Pos} {gt : GV} {scope : Scope} {xs : List Str} {clo : List (Str × Addr)}
theorem zo0 (hc : X.calm = true) (hx : X.xe = fun _ _ => False) (S : CompOk X N0 scope xs clo) (hi : QI X cl ex tg it fr)
  (hg : ∀ C s H fp,QG (X.comp N0 scope xs clo C s H fp) cl ex tg gt) (hf : ∀ C s H fp,PIf (X.comp N0 scope xs clo C s H fp) ifs (tDT X.K cl ex ta)) (hk : ∀ C s H fp,QE (X.comp N0 scope xs clo C s H fp) cl ex kx fk) (he : ∀ C s H fp,QE (X.comp N0 scope xs clo C s H fp) cl ex vx fv)
  (hs : autoParam (∀ x,foldedSetIterable it X.env x = pure x) AutoP.a2._auto_1) : QE X cl ex (.DictComp kx vx [⟨tg,it,ifs,0⟩] scope pos) (zn9 xs.length fr gt ta fk fv) :=
 ⟨PE.weak (zpe (g := tDG X.K cl ex gt) (tf := tDT X.K cl ex ta) (tk := tD X.K cl ex fk) (tv := tD X.K cl ex fv) hc hx S hi.out (fun C s H fp => (hg C s H fp).out) hf (fun C s H fp => (hk C s H fp).out) (fun C s H fp => (he C s H fp).out) hs) fun σ H Q hh => ex3 hh fun α ρ m W hr h => zmh ⟨α,ρ,m,W,hr,PQ.mono (Ext.refl W) (show PQ X.K cl ex (((fr ρ m).bind fun ds m1 => if ds.length <= 1000000 then ze0 gt ta fk fv (ρ ++ List.replicate xs.length none) ds [] m1 else .bad).bind fun kvs m2 => .ok (.ob m2.length) (m2 ++ [.dct kvs])) α H fun d α' _ H' => ∀ v,Rep X.K α' H' d v -> Q v H' from by
   rw [Res.bind_assoc]
   refine (congrArg (fun z => PQ X.K cl ex ((fr ρ m).bind z) α H _) ?_).mpr h
   funext ds m1
   split <;> rfl).bind fun ds α1 m1 H1 E1 W1 q vs rv p hp => by
  obtain ⟨_,_,q2,r⟩ := znk W1 hp rv q
  exact q2 _ r⟩⟩
end
section
variable {K : PySem.W.Frag} {cl : Str -> Addr} {ex : XD}
def zjV (ns : List Int) : List D := ns.map D.int
theorem zgy {α : List Addr} {H : Hp} : ∀ (ns : List Int),RepL K α H (zjV ns) (ns.map V.int)
 | [] => by rw [zjV,List.map_nil,RepL]; rfl
 | n :: ns => by
  rw [zjV,List.map_cons,RepL]
  exact ⟨.int n,ns.map V.int,rfl,zeS,zgy ns⟩
def sortF (ds : List D) (m : Sto) : Res D := match ds with
 | [x] => match (lOf x m).bind zd7 with
  | some ns => if ns.length < 64 then .ok (.lst (zjV (zc7 ns))) m else .bad
  | none => .bad
 | _ => .bad
def dOf (d : D) (m : Sto) : Option (List (L2.Key × D)) := match d with
 | .ob k => match m[k]? with
  | some (.dct kvs) => some kvs
  | _ => none
 | _ => none
theorem zhR {α : List Addr} {m : Sto} {H : Hp} {d : D} {v : V} {kvs : List (L2.Key × D)} (W : Wd K cl α m H) (e : dOf d m = some kvs) (rv : Rep K α H d v) : ∃ p ys,v = .ref p /\ H p = some (.dK ys) /\ RepKV K α H kvs ys := by
 unfold dOf at e
 split at e
 ·rw [Rep] at rv
  obtain ⟨a,ha,rfl⟩ := rv
  split at e
  ·cases e; obtain ⟨ys,h1,r1⟩ := W.dct ha ‹_›; exact ⟨a,ys,rfl,h1,r1⟩
  ·cases e
 ·cases e
def zdt : List (L2.Key × D) -> Option (List Int)
 | [] => some []
 | (.inl i,_) :: r => (zdt r).map (i :: ·)
 | _ => none
theorem zfS : ∀ {kvs : List (L2.Key × D)} {ns : List Int},zdt kvs = some ns -> kvs.map (·.1) = ns.map Sum.inl
 | [],ns,e => by cases e; rfl
 | (.inl i,d) :: r,ns,e => by
  rw [zdt] at e
  obtain ⟨ms,e2,rfl⟩ := Option.map_eq_some_iff.mp e
  rw [List.map_cons,List.map_cons,zfS e2]
 | (.inr i,d) :: r,ns,e => by simp [zdt] at e
def zdB (ds : List D) (m : Sto) : Res D := match ds with
 | [x] => match (dOf x m).bind zdt with
  | some ns => if ns.length < 64 then .ok (.lst (zjV (zc7 ns))) m else .bad
  | none => .bad
 | _ => .bad
theorem zkY : FnD K cl ex zkx zdB := fun α m H x vx Q W rx h => by
 unfold zdB at h
 split at h
 ·split at h
  ·rename_i ns e
   obtain ⟨h64,h⟩ := PQ.if h
   obtain ⟨v,rfl,rv⟩ := rx.one_of
   obtain ⟨xs,e1,e2⟩ := Option.bind_eq_some_iff.mp e
   obtain ⟨p,ys,rfl,h1,r1⟩ := zhR W e1 rv
   exact ⟨p,ys,ns,rfl,.inl h1,by rw [<- RepKV.keysEq r1]; exact zfS e2,h64,fun l hl => PQ.okS W (Same.new hl) h _ (zcm W hl (zgy _))⟩
  ·exact h.elim
 ·exact h.elim
def zhJ (kvs : List (L2.Key × D)) : List D := kvs.map fun p => kD p.1
theorem zid {α : List Addr} {H : Hp} : ∀ {kvs : List (L2.Key × D)} {ys : List (L2.Key × V)},RepKV K α H kvs ys -> RepL K α H (zhJ kvs) (ys.map fun p => kV p.1)
 | [],_,h => by rw [show _ = [] from h,zhJ,List.map_nil,List.map_nil,RepL]
 | p :: r,_,⟨v,r',e,h1,h2⟩ => by
  subst e
  rw [zhJ,List.map_cons,List.map_cons,RepL]
  exact ⟨kV p.1,_,rfl,rep_k _,zid h2⟩
def zix (ds : List D) (m : Sto) : Res D := match ds with
 | [x] => match dOf x m with
  | some kvs => .ok (.lst (zhJ kvs)) m
  | none => .bad
 | _ => .bad
theorem zn5 : FnD K cl ex zpX zix := fun α m H x vx Q W rx h => by
 unfold zix at h
 split at h
 ·split at h
  ·rename_i kvs e
   obtain ⟨v,rfl,rv⟩ := rx.one_of
   obtain ⟨p,ys,rfl,h1,r1⟩ := zhR W e rv
   exact ⟨p,ys,rfl,.inl h1,fun l hl => PQ.okS W (Same.new hl) h _ (zcm W hl (zid r1))⟩
  ·exact h.elim
 ·exact h.elim
end
def zgx (a b : List (L2.Key × D)) : Bool := decide (a.length = b.length) && a.all fun p => match zdc b p.1 with
 | some y => zea p.2 && zea y && PyData.eqv (py p.2) (py y)
 | none => false
section
variable {X : Cx} {K : PySem.W.Frag} {cl : Str -> Addr} {ex : XD} {pins : List (Addr × Obj)} {σ : L2.St} {H : Hp} {s : Shared} {α : List Addr}
theorem KV.at_some {kvs : List (L2.Key × V)} {vs : List (L2.Key × Value)} (r : KV kvs vs) {k : L2.Key} {v : V} (e : zhV kvs k = some v) : ∃ u,valueAt vs k = some u /\ RelV v u := by
 have h := r.val k
 rw [e] at h
 cases hv : valueAt vs k with
 | none => rw [hv] at h; exact h.elim
 | some u => rw [hv] at h; exact ⟨u,rfl,h⟩
theorem znQ (I : Inv X pins σ H s) {A : Around} (hu : A.units + 64 < cLine) {db : List (L2.Key × D)} {kb : List (L2.Key × V)} {vb : List (L2.Key × Value)} (rb : RepKV X.K α H db kb) (rvb : KV kb vb) :
  ∀ {da : List (L2.Key × D)} {ka : List (L2.Key × V)} {va : List (L2.Key × Value)},RepKV X.K α H da ka -> KV ka va -> (da.all fun p => match zdc db p.1 with
   | some y => zea p.2 && zea y && PyData.eqv (py p.2) (py y)
   | none => false) = true -> PySem.W.KeqHits A s vb va true
 | [],_,_,h,rv,_ => by
  cases (show _ = [] from h)
  cases rv
  exact .nil
 | p :: r,_,_,⟨v,r',e,h1,h2⟩,rv,ha => by
  subst e
  cases rv with
  | cons a b =>
   rename_i q us
   obtain ⟨q1,q2⟩ := q
   obtain ⟨a1,a2⟩ := a
   have a1 : p.1 = q1 := a1
   subst a1
   rw [List.all_cons,Bool.and_eq_true] at ha
   obtain ⟨ha1,ha2⟩ := ha
   cases hy : zdc db p.1 with
   | none => rw [hy] at ha1; cases ha1
   | some y =>
    rw [hy] at ha1
    simp only [Bool.and_eq_true] at ha1
    obtain ⟨⟨d1,d2⟩,eq⟩ := ha1
    obtain ⟨v',e1,r1⟩ := rb.val.1 y hy
    obtain ⟨u',e2,r2⟩ := KV.at_some rvb e1
    rw [zea,Bool.and_eq_true] at d1 d2
    obtain ⟨as,g1⟩ := zbj I d1.1 h1 a2
    obtain ⟨bs,g2⟩ := zbj I d2.1 r1 r2
    have he := SeqAt.eqAt_reads _ _ A s _ _ _ _ g1 g2 (SeqAt.canLay_of_shaped d1.2) (SeqAt.canLay_of_shaped d2.2) (SeqAt.room_of_shaped d1.2 hu)
    rw [eq] at he
    exact PySem.W.KeqHits.hit e2 he (znQ I hu rb rvb h2 b ha2)
def zmD (K : PySem.W.Frag) (f : Bool -> Bool) : R2 := fun vx vy H Q => ∃ (a b : Addr) (ka kb : List (L2.Key × V)) (da db : List (L2.Key × D)) (α : List Addr),vx = .ref a /\ vy = .ref b /\ Rd H a (.dK ka) /\ Rd H b (.dK kb) /\ RepKV K α H da ka /\ RepKV K α H db kb /\ zgx da db = true /\ Q (.bl (f true)) H
theorem zp2 (hu : X.A.units + 65 < cLine) : OpR X (compareOp .NotEq) (zmD X.K not) := by
 intro pins s σ H vx vy v u Q I rx ry h
 obtain ⟨a,b,ka,kb,da,db,α,rfl,rfl,h1,h2,r1,r2,sm,q⟩ := h
 cases rx
 cases ry
 obtain ⟨za,ha,va,rva,dda⟩ := zeZ I.hok h1
 obtain ⟨zb,hb,vb,rvb,ddb⟩ := zeZ I.hok h2
 rw [zgx,Bool.and_eq_true,decide_eq_true_eq] at sm
 have el : va.length = vb.length := by rw [<- rva.length,<- rvb.length,<- r1.length,<- r2.length]; exact sm.1
 have hu1 : X.A.in1.units + 64 < cLine := by have : X.A.in1.units = X.A.units + 1 := rfl; omega
 refine PySem.W.keq_ne (r := true) ha hb dda ddb (by omega) (fun _ => znQ I hu1 r2 rvb r1 rva sm.2) ⟨.bl false,H,I,?_,q⟩
 rw [el]
 simp
 rfl
def zks (x y : D) (m : Sto) : Bool := match dOf x m,dOf y m with
 | some a,some b => zgx a b
 | _,_ => false
theorem zlk {m : Sto} {x y : D} {vx vy : V} {f : Bool -> Bool} {Q : VK} (W : Wd K cl α m H) (rx : Rep K α H x vx) (ry : Rep K α H y vy) (e : zks x y m = true) (q : Q (.bl (f true)) H) : zmD K f vx vy H Q := by
 unfold zks at e
 split at e
 ·rename_i a b e1 e2
  obtain ⟨p,ka,rfl,h1,r1⟩ := zhR W e1 rx
  obtain ⟨p',kb,rfl,h2,r2⟩ := zhR W e2 ry
  exact ⟨p,p',ka,kb,a,b,α,rfl,rfl,.inl h1,.inl h2,r1,r2,e,q⟩
 ·cases e
def neK (x y : D) (m : Sto) : Res D := if zks x y m = true then .ok (.bl false) m else .bad
theorem zp4 : OpD K cl ex (zmD K not) neK := fun α m H x y vx vy Q W rx ry h => by
 obtain ⟨e,h⟩ := PQ.if h
 exact zlk (f := not) W rx ry e (PQ.ok W h _ zju)
end
def zhP (kvs : List (L2.Key × D)) (k : L2.Key) : List (L2.Key × D) := kvs.filter fun p => decide (p.1 ≠ k)
section
variable {X : Cx} {K : PySem.W.Frag} {cl : Str -> Addr} {ex : XD} {α : List Addr} {m : Sto} {H : Hp} {o e : Expr} {fo fe : EV} {apos cpos : Pos}
theorem RepKV.drop {k : L2.Key} : ∀ {ds : List (L2.Key × D)} {vs : List (L2.Key × V)},RepKV K α H ds vs -> RepKV K α H (zhP ds k) (zgo vs k)
 | [],_,h => by cases (show _ = [] from h); rfl
 | p :: r,_,⟨v,r',e,h1,h2⟩ => by
  subst e
  have ih := RepKV.drop (k := k) h2
  by_cases hk : p.1 = k
  ·simp only [zhP,zgo,List.filter_cons,hk,ne_eq,not_true_eq_false,decide_false,Bool.false_eq_true,if_false]
   exact ih
  ·simp only [zhP,zgo,List.filter_cons,hk,ne_eq,not_false_eq_true,decide_true,if_true]
   exact ⟨v,zgo r' k,rfl,h1,ih⟩
def zpF (x y : D) (m : Sto) : Res D := match x with
 | .ob k => match m[k]? with
  | some (.dct kvs) => match zgn y with
   | some q => match zdc kvs q with
    | some d => .ok d (m.set k (.dct (zhP kvs q)))
    | none => .bad
   | none => .bad
  | _ => .bad
 | _ => .bad
def zpC (fo fe : EV) : EV := fun ρ m => (fo ρ m).bind fun x m1 => if zhK x m1 = true then (fe ρ m1).bind fun y m2 => zpF x y m2 else .bad
theorem zq0 (ho : QE X cl ex o fo) (he : QE X cl ex e fe) (mm : M1 X o "pop" apos e cpos) : QE X cl ex (.Call (.Attribute o "pop" apos) [e] [] cpos) (zpC fo fe) :=
 ⟨PE.weak (zpb ho.out he.out mm) fun σ H Q hh => ex3 hh fun α ρ m W hr h =>
  tD.use W hr h fun α1 m1 H1 d v E1 W1 hr1 rv q1 => by
   obtain ⟨ht,q1⟩ := PQ.if q1
   have hd : ∃ a,v = .ref a /\ IsD H1 a := by
    unfold zhK at ht
    split at ht
    ·have rv := rv
     rw [Rep] at rv
     obtain ⟨a,ha,rfl⟩ := rv
     split at ht
     ·obtain ⟨ys,h1,_⟩ := W1.dct ha ‹_›
      exact ⟨a,rfl,.inl ⟨ys,.inl h1⟩⟩
     ·cases ht
    ·cases ht
   obtain ⟨a,rfl,hd⟩ := hd
   refine ⟨a,rfl,hd,tD.use W1 hr1 q1 fun α2 m2 H2 d2 v2 E2 W2 hr2 rv2 q2 => ?_⟩
   have rv := rv.mono W1 E2
   unfold zpF at q2
   split at q2
   ·rw [Rep] at rv
    obtain ⟨a',ha,e⟩ := rv
    cases e
    split at q2
    ·rename_i k _ kvs ek
     split at q2
     ·rename_i q eq
      split at q2
      ·rename_i dd ed
       obtain ⟨ys,h1,r1⟩ := W2.dct ha ek
       obtain ⟨vv,e1,r2⟩ := r1.val.1 dd ed
       obtain ⟨W3,E3⟩ := W2.set (u := .dK (zgo ys q)) (o := .dct (zhP kvs q)) ha fun E => ⟨_,zax,(r1.mono W2 E).drop⟩
       exact ⟨ys,q,vv,h1,zfN eq rv2,e1,q2 _ _ E3 W3 _ (r2.mono W2 E3)⟩
      ·exact q2.elim
     ·exact q2.elim
    ·exact q2.elim
   ·exact q2.elim⟩
end
def zfV : SV := by walk_at "#7x'x(:6u:u/,%,%uA5|?:uH!xi^uO]x^,+,u_,"
def zbf : List D -> Sto -> Res D := za8 3 zfV
def zeG : SV := by walk_at "#YvLzl%YvLxJMvLxGw_"
def zbq : List D -> Sto -> Res D := za8 2 zeG
def zdZ : SV := by walk_at "#5wGvzBBvnvM"
def zaB : List D -> Sto -> Res D := za8 1 zdZ
def zdi : SV := by walk_at "#5yfNvU%9|@Nv]vzMNvU%u*v;xj6#"
def za4 : List D -> Sto -> Res D := za8 2 zdi
def zcH : SV := by walk_at "#5x'x(:v*uAu/+%w`"
def zaO : List D -> Sto -> Res D := za8 2 zcH
def zcv : SV := by walk_at "#Tuz%M_wWyUL*yTRvn98Hv+ygyh6ivx_|ARvn9*v[wauhv{v*Fug+uk"
def zaQ : List D -> Sto -> Res D := za8 5 zcv
def zeD : SV := by walk_at "#YvLxJxh]uzvzM%!xk<vzuhvLxG!|B<v*<u*v;xj68"
def zaY : List D -> Sto -> Res D := za8 2 zeD
def zd0 : SV := by walk_at "#v+ygyh6ouO5yfNuz,MNxbwG%,+"
def zbg : List D -> Sto -> Res D := za8 4 zd0
def zeE : SV := by walk_at "#G|CwauhxSw^y=?ubw^AuyTv]w`TuzvzMv,|DHvS!yQ<u*v;xj6#v{!v[wau;-uOIruUu*yiyjv|v,xlHTyk,v*kx)LHruX]v]w`uUu*ylym6v{!v[wau;9#v}x*x+v|v,ynHv+yoyp6iLu-vyTw7!yqRvn9Lw]av,yrHwTv*,u+v}x*x+v|kv^Lw]"
def zbp : List D -> Sto -> Res D := za8 7 zeE
def zfX : SV := by walk_at "#5vz"
def zbH : List D -> Sto -> Res D := za8 1 zfX
def zeF : SV := by walk_at "#_|E<v*#"
def zaR : List D -> Sto -> Res D := za8 1 zeF
end MD
set_option autoImplicit false
namespace L2
open PySem PySem.Spec PyProof.Rows
end L2
namespace MD
open PySem PySem.Spec PyProof.Rows L2
def zdj : SV := by walk_at "#YvLxJMvLxGw_"
def za5 : List D -> Sto -> Res D := za8 1 zdj
def ziO : SV := by walk_at "#rv_]uzv~Mu/v~+yN6u$u>+IwNv~%u:7x'x(:uQu#@u/u+,u+Mv%wwuH!x,<uQvtuxuXu/a,uPaFv8ysuQaI"
def zc1 : List D -> Sto -> Res D := za8 6 ziO
def zdk : SV := by walk_at "#wNufu.--u:rv_]uzw`wQvJ@#9_v#pv!LvwwVu.-8Huj+!v#v!wHpv(-v(PxLv(Bu.vMugy9-Bu.vMugvivJw:8vx_xa*xku-wSv$"
def za7 : List D -> Sto -> Res D := za8 5 zdk
def ziU : SV := by walk_at "#ruX]v]v~Mu/+wGv~%v,xlHTyk+uQkx)iHwTuQ+,vj!ytvHu;kv^iv$"
def zc2 : List D -> Sto -> Res D := za8 4 ziU
def znY : SV := by walk_at "#G|F^g:uNvI/@uBG|Go/1uOYx#1A*|Hwu|Iv$<w9uZuWu>MuWu6w_#wwvI*yHozi/>/y_wZ8vyvC!xNo/yu#9v}yvywukvSw9uZuWu>MuWu6w_u#AIYx#=>*yxov{y>u>#*yyoR,98v+v^yzF*y{L<Mv'vu#gu7rx$uU!y|du7*y}vGRB,vMv'vu8v)v+u6x-Fgu5rv_uPu*u>y~ukw!u>v_]x.Su5w!u6uP!x,dw#!xidw#v)vjwzz!z#Sw#ux]x.u*u6x-ukw!u6v)y:ya"
def zkR : List D -> Sto -> Res D := za8 11 znY
theorem sco {N P : List Str} {sc : Scope} (a : autoParam (sc.kind = .function) AutoP.a3._auto_1) (b : autoParam (sc.isCoroutine = false) AutoP.a3._auto_1) (c : autoParam (sc.isGenerator = false) AutoP.a3._auto_1) (d : autoParam (N.Nodup) AutoP.a5._auto_1) (e : autoParam (N.take P.length = P) AutoP.a3._auto_1)
  (f : autoParam (∀ x ∈ P,sc.names.lookup x = some .local ∨ sc.names.lookup x = some .cell) AutoP.a5._auto_1) (g : autoParam (∀ y ∈ sc.names,y.2 ≠ .free) AutoP.a5._auto_1) : FnScope N P sc := ⟨a,b,c,d,e,f,g⟩
theorem qxi {X : Cx} {cl : Str -> Addr} {ex : XD} {a b : Expr} {fa fb : EV} {pos : Pos} {k : Nat} (hr : Room k X.A) (ha : QE X cl ex a fa) (hb : QE X cl ex b fb) (hs : autoParam (zkb b) AutoP.a6._auto_1) : QE X cl ex (.Subscript a b pos) (eOp ixD fa fb) :=
 qe_ix (ix_A (zjY hr)) od_ix ha hb hs
theorem qfn {X : Cx} {cl : Str -> Addr} {e : Expr} {es : List Expr} {fr : AV} {p pos : Pos} {x : Str} {k n j : Nat} {g : List D -> Sto -> Res D} (h : FnX X.prog X.w X.K X.mg X.base cl x k n g) (hr : Room j X.A)
  (ha : QA X cl X0 (e :: es) fr) (hn : autoParam (n = (e :: es).length) AutoP.a3._auto_1) (hk : autoParam (k <= j) AutoP.a1._auto_1) (hg : autoParam (Gl X x) AutoP.a3._auto_1) (hlen : autoParam (∀ ρ m ds m1,fr ρ m = .ok ds m1 -> ds.length = (e :: es).length) AutoP.a7._auto_1) (hdb : autoParam ((x == ("__debug__" : Str)) = false) AutoP.a1._auto_1) (he : autoParam (starEach (e :: es) X.env = (false,eval e X.env) :: starEach es X.env) AutoP.a3._auto_1) (hpl : autoParam ((backTo pos (starEach es X.env)).any (·.1) = false) AutoP.a3._auto_1) :
  QE X cl X0 (.Call (.Name x p) (e :: es) [] pos) (eFn g fr) := qe_fn h hn (hr.mono hk) hg ha hlen hdb he hpl
theorem mkx (P : Program) (w : World) (base : Heap) (cl : Str -> Addr) (k : Nat) {K : PySem.W.Frag} {mg : Str -> Option Value} {x qual : Str} {st : Stmt} {f : Addr} {fd : FuncData} {N ps : List Str} {body : SV} (F : Fun K x qual st f fd) (b : Binds K fd ps []) (m : mg x = some (.ref f)) (S : FnScope N ps (zai st))
  (h : ∀ (cdv : Value) (A : Around) (outer : List PySem.Env) (s : Shared) (H : Hp) (E : XK),Room k (A.deeper (envOfC qual (zai st) s.heap.objs.size f cdv)) -> QSs (zl3 CX0 P w K mg base N qual (zai st) f cdv A outer s H E).nox cl X0 (zbu st) body) : FnX P w K mg base cl x (k + 1) ps.length (za8 N.length body) := FnX.mk' F b m S rfl h
theorem mkm (P : Program) (w : World) (base : Heap) (cl : Str -> Addr) (k : Nat) {K : PySem.W.Frag} {mg : Str -> Option Value} {c x qual : Str} {st : Stmt} {f : Addr} {fd : FuncData} {N ps : List Str} {body : SV} (F : Fun K x qual st f fd) (b : Binds K fd ps []) (m : Meth K (cl c) x f) (S : FnScope N ps (zai st))
  (h : ∀ (cdv : Value) (A : Around) (outer : List PySem.Env) (s : Shared) (H : Hp) (E : XK),Room k (A.deeper (envOfC qual (zai st) s.heap.objs.size f cdv)) -> QSs (zl3 CX0 P w K mg base N qual (zai st) f cdv A outer s H E).nox cl X0 (zbu st) body) : FnM P w K mg base cl c x (k + 1) ps.length (za8 N.length body) := FnM.mk' F b m S rfl h
theorem _root_.L2.Fun.bindA {K : PySem.W.Frag} {x qual : Str} {st : Stmt} {f : Addr} {fd : FuncData} {ps : List Str} (F : Fun K x qual st f fd)
  (h : ∀ (kV doc pm : Value) (an : Option Addr) (cdv ct : Value) (us : List Value),us.length = ps.length -> bindArgs (PySem.W.fnOf x qual (zes st) (zbu st) (zai st) .none kV doc pm an cdv ct) ⟨us,[]⟩ = pure (ps.zip us) := by intro _ _ _ _ _ _ us hl; first | (obtain rfl := us0 hl; rfl) | (obtain ⟨_,rfl⟩ := us1 hl; rfl) | (obtain ⟨_,_,rfl⟩ := us2 hl; rfl) | (obtain ⟨_,_,_,rfl⟩ := us3 hl; rfl) | (obtain ⟨_,_,_,_,rfl⟩ := us4 hl; rfl) | (obtain ⟨_,_,_,_,_,rfl⟩ := us5 hl; rfl) | (obtain ⟨_,_,_,_,_,_,rfl⟩ := us6 hl; rfl)) : Binds K fd ps [] := F.binds h
end MD
namespace Mth
end Mth
set_option autoImplicit false
namespace MD
open PySem PySem.Spec PyProof.Rows L2
theorem zkI {a : Addr} {o : Obj} : ∀ {K : PySem.W.Frag},K.lookup a = some o -> (a,o) ∈ K
 | [],h => nomatch h
 | (b,u) :: K,h => by
  rw [List.lookup_cons] at h
  cases hb : a == b with
  | true =>
   rw [hb] at h
   cases h
   rw [eq_of_beq hb]
   exact List.mem_cons_self
  | false =>
   rw [hb] at h
   exact List.mem_cons_of_mem _ (zkI h)
theorem Kof_in (n : Nat) (h : Heap) : (Kof n h).In h := fun a o e => by
 obtain ⟨b,_,hb⟩ := List.mem_filterMap.mp (zkI e)
 obtain ⟨u,hu,e2⟩ := Option.map_eq_some_iff.mp hb
 cases e2
 exact hu
theorem fun_of {K : PySem.W.Frag} {f : Addr} {x q : Str} {st : Stmt} (h : fnV K f = (some (x,q,zes st,zbu st,zai st),true)) : ∃ fd,Fun K x q st f fd := by
 unfold fnV at h
 split at h
 ·rename_i oc od x' q' ps b sc gl dv kV doc pm an cd ct bl sl hl
  simp only [Prod.mk.injEq,Option.some.injEq,Bool.and_eq_true] at h
  obtain ⟨⟨rfl,rfl,rfl,rfl,rfl⟩,⟨⟨h1,h2⟩,h3⟩,h4⟩ := h
  have e1 := Nat.eq_of_beq_eq_true h1
  have e2 := Nat.eq_of_beq_eq_true h2
  subst e1 e2
  have e3 : dv = .none := by
   unfold zma at h3
   split at h3
   ·rfl
   ·cases h3
  subst e3
  refine ⟨_,⟨⟨oc,od,kV,doc,pm,an,cd,ct,sl,rfl,hl,h4⟩,?_⟩⟩
  unfold PySem.W.keepIn
  dsimp only
  rw [hl]
 ·cases h
theorem zrj {τ υ : Type} {f : τ -> υ} {l : List τ} {e : List υ} (h : l.map f = e) (i : Nat) {x : τ} {v : υ} (hx : l[i]? = some x) (hv : e[i]? = some v) : f x = v := by
 rw [<- h,List.getElem?_map,hx] at hv
 exact Option.some.inj hv
theorem both {α β γ : Type} {r : Option α} {f : α -> β} {g : α -> γ} {a : β} {b : γ} (h1 : r.map f = some a) (h2 : r.map g = some b) : r.map (fun s => (f s,g s)) = some (a,b) := by
 cases r with
 | none => cases h1
 | some s =>
  simp only [Option.map_some,Option.some.injEq] at h1 h2 ⊢
  rw [h1,h2]
theorem znH {α τ υ : Type} {r : Option α} {g : α -> τ -> υ} {l1 l2 : List τ} {e1 e2 : List υ} (h1 : r.map (fun s => l1.map (g s)) = some e1) (h2 : r.map (fun s => l2.map (g s)) = some e2) : r.map (fun s => (l1 ++ l2).map (g s)) = some (e1 ++ e2) := by
 cases r with
 | none => cases h1
 | some s =>
  simp only [Option.map_some,Option.some.injEq] at h1 h2 ⊢
  rw [List.map_append,h1,h2]
theorem both4 {α A B C D : Type} {r : Option α} {f1 : α -> A} {f2 : α -> B} {f3 : α -> C} {f4 : α -> D} {a : A} {b : B} {c : C} {d : D} (h1 : r.map f1 = some a) (h2 : r.map (fun s => (f2 s,f4 s)) = some (b,d)) (h3 : r.map f3 = some c) : r.map (fun s => (f1 s,f2 s,f3 s,f4 s)) = some (a,b,c,d) := by
 cases r with
 | none => cases h1
 | some s =>
  simp only [Option.map_some,Option.some.injEq,Prod.mk.injEq] at h1 h2 h3 ⊢
  exact ⟨h1,h2.1,h3,h2.2⟩
theorem parts4 {α B C D : Type} {r : Option α} {f : α -> Seen × B × C × D} {g : Seen × B × C × D} (k : Nat) (ha : r.map (fun s => (f s).1.defs.take k) = some (g.1.defs.take k)) (hb : r.map (fun s => (f s).1.defs.drop k) = some (g.1.defs.drop k)) (ho : r.map (fun s => (f s).1.ownsOk) = some g.1.ownsOk) (hn : r.map (fun s => (f s).1.names) = some g.1.names) (h1 : r.map (fun s => ((f s).1.globalsOk,(f s).1.builtinsOk,(f s).1.noLimit,(f s).1.gens)) = some (g.1.globalsOk,g.1.builtinsOk,g.1.noLimit,g.1.gens)) (hv : r.map (fun s => (f s).2.1) = some g.2.1) (h2 : r.map (fun s => (f s).2.2.1) = some g.2.2.1) (h3 : r.map (fun s => (f s).2.2.2) = some g.2.2.2) : r.map f = some g := by
 cases r with
 | none => cases h1
 | some s =>
  simp only [Option.map_some,Option.some.injEq,Prod.mk.injEq] at ha hb ho hn h1 hv h2 h3 ⊢
  have e0 : (f s).1.defs = g.1.defs := by rw [<- List.take_append_drop k (f s).1.defs,ha,hb,List.take_append_drop]
  generalize f s = x at *
  obtain ⟨⟨a1,a2,a3,a4,a5,a6,a7⟩,b,c,d⟩ := x
  obtain ⟨⟨b1,b2,b3,b4,b5,b6,b7⟩,b',c',d'⟩ := g
  simp only at e0 ho hn h1 hv h2 h3
  obtain ⟨rfl,rfl,rfl,rfl⟩ := h1
  subst e0 ho hn hv h2 h3
  rfl
theorem walk_ofY {l : PySem.W.OpenLaw} {n k nK : Nat} {q : Program} {loose : List Str} {XP : (Str -> Option Value) -> Heap -> Prop} {d : DefRec} {CX : CXT} {sp : PySem.W.Frag -> Sp} {x : Str} {α : Type} {Yf : PySem.W.Frag -> α} {E : α}
  (hn : l.most = some n) (hn2 : n <= sizeLine) (hdf : d.params.defaults = []) (hr : Room k callerA)
  (F : ∀ (K : PySem.W.Frag),Yf K = E -> ∀ (w : World) (mg : Str -> Option Value) (fa : Addr) (h : Heap),K.In h -> h.Ns mainGlobals mg -> mg d.name = some (.ref fa) →
   ∃ fd : FuncData,(∀ (s : Shared) (u : Value),BindsTo s fd ⟨[u],[]⟩ [(x,u)]) /\ ∀ base : Heap,K.In base -> base.Ns mainGlobals mg -> FnOk l.prog w K mg base CX k fa fd [x] (sp K))
  (hsp : ∀ (K : PySem.W.Frag) (H : Hp) (a : Addr) (ns : List Int),ns.length <= n -> Only H -> SqL K H a (ns.map V.int) -> sp K [.ref a] H (fun v _ => v = .bl true) fun _ _ _ => False)
  (hCX : ∀ (H : Hp) (s : Shared) (e : Value) (s' : Shared),CX [] H s (fun _ _ _ => False) e s' -> False) :
  PySem.W.WalkX q loose XP (fun s => Yf (Kof nK s.heap)) (fun _ => E) l.row.toRowW d [] (fun f vs => PySem.call f vs) := by
 intro w s₀ s₁ mg mb G y a o pm cd doc dV kV ho hd hcd hD hmg hg args vals as' L hpre hlay hrd hwl hlo
 have KX : (Kof nK s₀.heap).In s₁.heap := (Kof_in nK s₀.heap).keeps L.keeps
 exact L2.walk_ofK (YP := fun w h => (Kof nK s₀.heap).In h) (K := fun _ => Kof nK s₀.heap) hn hn2 hdf hr (fun w h Y => Y) (F (Kof nK s₀.heap) y) hsp hCX w s₀ s₁ mg mb G KX a o pm cd doc dV kV ho hd hcd hD hmg hg args vals as' hpre hlay hrd hwl hlo
section
variable {α β γ : Type}
def kThen (f : α -> Sto -> Res β) (g : β -> Sto -> Res γ) : α -> Sto -> Res γ := fun a m => (f a m).bind g
theorem then_at (f : α -> Sto -> Res β) (g : β -> Sto -> Res γ) (a : α) (m : Sto) : kThen f g a m = (f a m).bind g := rfl
theorem bind_then (r : Res α) (f : α -> Sto -> Res β) (g : β -> Sto -> Res γ) : (r.bind f).bind g = r.bind (kThen f g) := Res.bind_assoc r f g
end
section
variable (m : Sto) (ρ : En) (d : D) (f g : SV) (fa fb fc : EV) (fr : AV) (c t : TV) (h : GV)
def kSeq (g : SV) : Fl -> Sto -> Res Fl := fun fl m1 => match fl with
 | .nx ρ1 => g ρ1 m1
 | fl => .ok fl m1
theorem seq_at : zap f g ρ m = (f ρ m).bind (kSeq g) := rfl
theorem seq_nx : kSeq g (.nx ρ) m = g ρ m := rfl
theorem seq_rt : kSeq g (.rt d) m = .ok (.rt d) m := rfl
theorem nil_at : zba ρ m = .ok (.nx ρ) m := rfl
def kRt : D -> Sto -> Res Fl := fun d m => .ok (.rt d) m
theorem ret_at : zaE fa ρ m = (fa ρ m).bind kRt := rfl
theorem rt_at : kRt d m = .ok (.rt d) m := rfl
theorem retN_at : sRetN ρ m = .ok (.rt .non) m := rfl
def kDrop (ρ : En) : D -> Sto -> Res Fl := fun _ m => .ok (.nx ρ) m
theorem drop_at : zck fa ρ m = (fa ρ m).bind (kDrop ρ) := rfl
theorem kdrop_at : kDrop ρ d m = .ok (.nx ρ) m := rfl
def kIf (f g : SV) (ρ : En) : Bool -> Sto -> Res Fl := fun b m => if b = true then f ρ m else g ρ m
theorem if_at : sIf c f g ρ m = (c ρ m).bind (kIf f g ρ) := rfl
theorem kif_at (b : Bool) : kIf f g ρ b m = if b = true then f ρ m else g ρ m := rfl
def kAsg (h : GV) (ρ : En) : D -> Sto -> Res Fl := fun d m1 => (h d ρ m1).bind fun ρ1 m2 => .ok (.nx ρ1) m2
def kNx : En -> Sto -> Res Fl := fun ρ m => .ok (.nx ρ) m
theorem asg_at : zaH fa h ρ m = (fa ρ m).bind (kAsg h ρ) := rfl
theorem kasg_at : kAsg h ρ d m = (h d ρ m).bind kNx := rfl
theorem nx_at : kNx ρ m = .ok (.nx ρ) m := rfl
theorem gN_at (i : Nat) : gN i d ρ m = .ok (ρ.set i (some d)) m := rfl
theorem gs_nil : zeY [] ρ m = .ok ρ m := rfl
theorem gs_cons (gs : List D -> En -> Sto -> Res En) (r : List D) : zaP h gs (d :: r) ρ m = (h d ρ m).bind (gs r) := rfl
theorem gT_at (n : Nat) (gs : List D -> En -> Sto -> Res En) (ds : List D) : gT n gs (.tup ds) ρ m = if ds.length = n then gs ds ρ m else .bad := rfl
def kPar (i j : Nat) (ρ : En) : List D -> Sto -> Res Fl := fun ds m1 => match ds with
 | [x,y] => .ok (.nx ((ρ.set i (some x)).set j (some y))) m1
 | _ => .bad
theorem par_at (i j : Nat) : zqP i j fr ρ m = (fr ρ m).bind (kPar i j ρ) := rfl
theorem kpar_at (i j : Nat) (x y : D) : kPar i j ρ [x,y] m = .ok (.nx ((ρ.set i (some x)).set j (some y))) m := rfl
def kFor (h : GV) (f : SV) (ρ : En) : List D -> Sto -> Res Fl := fun ds m1 => zfJ h f ds ρ m1
theorem for_at : zia fr h f ρ m = (fr ρ m).bind (kFor h f ρ) := rfl
theorem kfor_at (ds : List D) : kFor h f ρ ds m = zfJ h f ds ρ m := rfl
theorem eC_at : eC d ρ m = .ok d m := rfl
def kOp (g : D -> D -> Sto -> Res D) (fb : EV) (ρ : En) : D -> Sto -> Res D := fun x m1 => (fb ρ m1).bind (g x)
theorem op_at (g : D -> D -> Sto -> Res D) : eOp g fa fb ρ m = (fa ρ m).bind (kOp g fb ρ) := rfl
theorem kop_at (g : D -> D -> Sto -> Res D) : kOp g fb ρ d m = (fb ρ m).bind (g d) := rfl
theorem un_at (g : D -> Sto -> Res D) : eUn g fa ρ m = (fa ρ m).bind g := rfl
theorem fn_at (g : List D -> Sto -> Res D) : eFn g fr ρ m = (fr ρ m).bind g := rfl
def kIfE (f g : EV) (ρ : En) : Bool -> Sto -> Res D := fun b m => if b = true then f ρ m else g ρ m
theorem ife_at : eIf c fa fb ρ m = (c ρ m).bind (kIfE fa fb ρ) := rfl
theorem kife_at (b : Bool) : kIfE fa fb ρ b m = if b = true then fa ρ m else fb ρ m := rfl
theorem aNil_at : zaj ρ m = .ok [] m := rfl
def kCons (fr : AV) (ρ : En) : D -> Sto -> Res (List D) := fun x m1 => (fr ρ m1).bind fun xs m2 => .ok (x :: xs) m2
def zqb (x : D) : List D -> Sto -> Res (List D) := fun xs m2 => .ok (x :: xs) m2
theorem aCons_at : zac fa fr ρ m = (fa ρ m).bind (kCons fr ρ) := rfl
theorem kcons_at : kCons fr ρ d m = (fr ρ m).bind (zqb d) := rfl
theorem kcons2_at (xs : List D) : zqb d xs m = .ok (d :: xs) m := rfl
theorem asB_at (b : Bool) : asB (.bl b) m = .ok b m := rfl
theorem tV_at : tV fa ρ m = (fa ρ m).bind asB := rfl
def kAndT (t : TV) (ρ : En) : Bool -> Sto -> Res Bool := fun b m => if b = true then t ρ m else .ok false m
theorem andT_at : zeP c t ρ m = (c ρ m).bind (kAndT t ρ) := rfl
theorem kandT_at (b : Bool) : kAndT t ρ b m = if b = true then t ρ m else .ok false m := rfl
def kOrT (t : TV) (ρ : En) : Bool -> Sto -> Res Bool := fun b m => if b = true then .ok true m else t ρ m
theorem orT_at : zmg c t ρ m = (c ρ m).bind (kOrT t ρ) := rfl
theorem korT_at (b : Bool) : kOrT t ρ b m = if b = true then .ok true m else t ρ m := rfl
def kNotT : Bool -> Sto -> Res Bool := fun c m1 => .ok (!c) m1
theorem notT_at : zjo c ρ m = (c ρ m).bind kNotT := rfl
theorem knotT_at (b : Bool) : kNotT b m = .ok (!b) m := rfl
def kAnd (fb : EV) (ρ : En) : D -> Sto -> Res D := fun c m1 => (asB c m1).bind fun c m1 => if c = true then fb ρ m1 else .ok (.bl false) m1
theorem and_at : eAnd fa fb ρ m = (fa ρ m).bind (kAnd fb ρ) := rfl
theorem kand_at (b : Bool) : kAnd fb ρ (.bl b) m = if b = true then fb ρ m else .ok (.bl false) m := rfl
def kOr (fb : EV) (ρ : En) : D -> Sto -> Res D := fun c m1 => (asB c m1).bind fun c m1 => if c = true then .ok (.bl true) m1 else fb ρ m1
theorem or_at : eOr fa fb ρ m = (fa ρ m).bind (kOr fb ρ) := rfl
theorem kor_at (b : Bool) : kOr fb ρ (.bl b) m = if b = true then .ok (.bl true) m else fb ρ m := rfl
def kNot : D -> Sto -> Res D := fun c m1 => (asB c m1).bind fun c m1 => .ok (.bl (!c)) m1
theorem not_at : eNot fa ρ m = (fa ρ m).bind kNot := rfl
theorem knot_at (b : Bool) : kNot (.bl b) m = .ok (.bl (!b)) m := rfl
theorem aIt_at : aIt fa ρ m = (fa ρ m).bind zj9 := rfl
theorem sq_t (ds : List D) : zj9 (.tup ds) m = .ok ds m := rfl
theorem sq_l (ds : List D) : zj9 (.lst ds) m = .ok ds m := rfl
theorem sq_s (z : Str) : zj9 (.str z) m = .ok (zeR z) m := rfl
theorem sq_c (ds : List D) : zj9 (.scr ds) m = .ok ds m := rfl
theorem rngA_at (g : List D -> Sto -> Res (List D)) : zl4 g fr ρ m = (fr ρ m).bind g := rfl
def zr3 : D -> Sto -> Res (List D) := fun d m1 => (asSq2 d m1).bind fun ds m2 => .ok (zbS 0 ds) m2
theorem enumA_at : zl0 fa ρ m = (fa ρ m).bind zr3 := rfl
theorem kenum_t (ds : List D) : zr3 (.tup ds) m = .ok (zbS 0 ds) m := rfl
theorem kenum_l (ds : List D) : zr3 (.lst ds) m = .ok (zbS 0 ds) m := rfl
def kZip (fb : EV) (ρ : En) : D -> Sto -> Res (List D) := fun x m1 => (fb ρ m1).bind (zoz x)
theorem zipA_at : aZip fa fb ρ m = (fa ρ m).bind (kZip fb ρ) := rfl
theorem kzip_at : kZip fb ρ d m = (fb ρ m).bind (zoz d) := rfl
def kZip3 (fb fc : EV) (ρ : En) : D -> Sto -> Res (List D) := fun x m1 => (fb ρ m1).bind fun y m2 => (fc ρ m2).bind (zip3 x y)
def kZip4 (x : D) (fc : EV) (ρ : En) : D -> Sto -> Res (List D) := fun y m1 => (fc ρ m1).bind (zip3 x y)
theorem zip3A_at : aZip3 fa fb fc ρ m = (fa ρ m).bind (kZip3 fb fc ρ) := rfl
theorem kzip3_at : kZip3 fb fc ρ d m = (fb ρ m).bind (kZip4 d fc ρ) := rfl
theorem kzip4_at (x : D) : kZip4 x fc ρ d m = (fc ρ m).bind (zip3 x d) := rfl
theorem oNone_at : zlD ρ m = .ok none m := rfl
def kSome : D -> Sto -> Res (Option Int) := fun d m1 => match d with
 | .int i => .ok (some i) m1
 | _ => .bad
theorem oSome_at : zeV fa ρ m = (fa ρ m).bind kSome := rfl
theorem ksome_at (i : Int) : kSome (.int i) m = .ok (some i) m := rfl
def kSl1 (lo hi : OV) (ρ : En) : D -> Sto -> Res D := fun x m1 => (lo ρ m1).bind fun l m2 => (hi ρ m2).bind (slD x l)
def kSl2 (hi : OV) (ρ : En) (x : D) : Option Int -> Sto -> Res D := fun l m2 => (hi ρ m2).bind (slD x l)
theorem slD_at (lo hi : OV) : eSl fa lo hi ρ m = (fa ρ m).bind (kSl1 lo hi ρ) := rfl
theorem ksl1_at (lo hi : OV) : kSl1 lo hi ρ d m = (lo ρ m).bind (kSl2 hi ρ d) := rfl
theorem ksl2_at (hi : OV) (l : Option Int) : kSl2 hi ρ d l m = (hi ρ m).bind (slD d l) := rfl
def kSlA1 (lo hi : OV) (ρ : En) : D -> Sto -> Res D := fun x m1 => (lo ρ m1).bind fun l m2 => (hi ρ m2).bind (slA x l)
def kSlA2 (hi : OV) (ρ : En) (x : D) : Option Int -> Sto -> Res D := fun l m2 => (hi ρ m2).bind (slA x l)
theorem slA_at (lo hi : OV) : eSlA fa lo hi ρ m = (fa ρ m).bind (kSlA1 lo hi ρ) := rfl
theorem kslA1_at (lo hi : OV) : kSlA1 lo hi ρ d m = (lo ρ m).bind (kSlA2 hi ρ d) := rfl
theorem kslA2_at (hi : OV) (l : Option Int) : kSlA2 hi ρ d l m = (hi ρ m).bind (slA d l) := rfl
def kMeth (ty : D -> Sto -> Bool) (g : D -> List D -> Sto -> Res D) (fr : AV) (ρ : En) : D -> Sto -> Res D := fun o m1 => if ty o m1 = true then (fr ρ m1).bind (g o) else .bad
theorem meth_at (ty : D -> Sto -> Bool) (g : D -> List D -> Sto -> Res D) : zer ty g fa fr ρ m = (fa ρ m).bind (kMeth ty g fr ρ) := rfl
theorem kmeth_at (ty : D -> Sto -> Bool) (g : D -> List D -> Sto -> Res D) : kMeth ty g fr ρ d m = if ty d m = true then (fr ρ m).bind (g d) else .bad := rfl
theorem isStr_at (z : Str) : isStr (.str z) m = true := rfl
theorem isTup_at (ds : List D) : zr6 (.tup ds) m = true := rfl
theorem fin_nx : ziZ (.nx ρ) m = .ok .non m := rfl
theorem fin_rt : ziZ (.rt d) m = .ok d m := rfl
theorem run_at (n : Nat) (ds : List D) : za8 n f ds m = (f (ds.map some ++ List.replicate (n - ds.length) none) m).bind ziZ := rfl
def kCh3 (g' : D -> D -> Sto -> Res D) (fc : EV) (ρ : En) (y : D) : D -> Sto -> Res D := fun z m3 => (asB z m3).bind fun k m3 => if k = true then (fc ρ m3).bind (g' y) else .ok (.bl false) m3
def kCh2 (g g' : D -> D -> Sto -> Res D) (fc : EV) (ρ : En) (x : D) : D -> Sto -> Res D := fun y m2 => (g x y m2).bind (kCh3 g' fc ρ y)
def kCh1 (g g' : D -> D -> Sto -> Res D) (fb fc : EV) (ρ : En) : D -> Sto -> Res D := fun x m1 => (fb ρ m1).bind (kCh2 g g' fc ρ x)
theorem chain_at (g g' : D -> D -> Sto -> Res D) : eChain g g' fa fb fc ρ m = (fa ρ m).bind (kCh1 g g' fb fc ρ) := rfl
theorem kch1_at (g g' : D -> D -> Sto -> Res D) : kCh1 g g' fb fc ρ d m = (fb ρ m).bind (kCh2 g g' fc ρ d) := rfl
theorem kch2_at (g g' : D -> D -> Sto -> Res D) (x : D) : kCh2 g g' fc ρ x d m = (g x d m).bind (kCh3 g' fc ρ d) := rfl
theorem kch3_at (g' : D -> D -> Sto -> Res D) (y : D) (b : Bool) : kCh3 g' fc ρ y (.bl b) m = if b = true then (fc ρ m).bind (g' y) else .ok (.bl false) m := rfl
def kPutA (fo fi : EV) (ρ : En) : D -> Sto -> Res Fl := fun v m1 => (fo ρ m1).bind fun x m2 => (fi ρ m2).bind fun y m3 => (zgg x y v m3).bind fun _ m4 => .ok (.nx ρ) m4
def kPutB (fi : EV) (ρ : En) (v : D) : D -> Sto -> Res Fl := fun x m2 => (fi ρ m2).bind fun y m3 => (zgg x y v m3).bind fun _ m4 => .ok (.nx ρ) m4
def kPutC (ρ : En) (v x : D) : D -> Sto -> Res Fl := fun y m3 => (zgg x y v m3).bind fun _ m4 => .ok (.nx ρ) m4
def kPutE (ρ : En) : Unit -> Sto -> Res Fl := fun _ m4 => .ok (.nx ρ) m4
theorem put_at : zgc fa fb fc ρ m = (fc ρ m).bind (kPutA fa fb ρ) := rfl
theorem kputA_at : kPutA fa fb ρ d m = (fa ρ m).bind (kPutB fb ρ d) := rfl
theorem kputB_at (x : D) : kPutB fb ρ d x m = (fb ρ m).bind (kPutC ρ d x) := rfl
theorem kputC_at (x y : D) : kPutC ρ d x y m = (zgg x y d m).bind (kPutE ρ) := rfl
theorem kputE_at : kPutE ρ () m = .ok (.nx ρ) m := rfl
theorem var_0 : zae 0 (some d :: ρ) m = .ok d m := rfl
theorem var_S (i : Nat) (x : Option D) : zae (i + 1) (x :: ρ) m = zae i ρ m := rfl
end
theorem bind_ok {α β : Type} (a : α) (m : Sto) (k : α -> Sto -> Res β) : (Res.ok a m).bind k = k a m := rfl
def Run {α : Type} (r : Res α) (P : α -> Sto -> Prop) : Prop := ∃ a m,r = .ok a m /\ P a m
theorem Run.bind {α β : Type} {r : Res α} {k : α -> Sto -> Res β} {Q : α -> Sto -> Prop} {P : β -> Sto -> Prop} (h : Run r Q) (hk : ∀ a m,Q a m -> Run (k a m) P) : Run (r.bind k) P := by
 obtain ⟨a,m,rfl,q⟩ := h
 exact hk a m q
theorem Run.ok {α : Type} {a : α} {m : Sto} {P : α -> Sto -> Prop} (h : P a m) : Run (.ok a m) P := ⟨a,m,rfl,h⟩
theorem Run.mono {α : Type} {r : Res α} {P Q : α -> Sto -> Prop} (h : Run r P) (k : ∀ a m,P a m -> Q a m) : Run r Q := by
 obtain ⟨a,m,e,p⟩ := h
 exact ⟨a,m,e,k a m p⟩
theorem za2 {g : GV} {body : SV} (I : Nat -> En -> Sto -> Prop) : ∀ (ds : List D) (k : Nat) {ρ : En} {m : Sto},I k ρ m -> (∀ i d ρ m,ds[i]? = some d -> I (k + i) ρ m -> Run ((g d ρ m).bind body) fun fl m2 => ∃ ρ2,fl = .nx ρ2 /\ I (k + i + 1) ρ2 m2) →
  Run (zfJ g body ds ρ m) fun fl m' => ∃ ρ',fl = .nx ρ' /\ I (k + ds.length) ρ' m'
 | [],k,ρ,m,h,_ => ⟨_,m,rfl,ρ,rfl,h⟩
 | d :: r,k,ρ,m,h,st => by
  obtain ⟨_,m2,e2,ρ2,rfl,h2⟩ := st 0 d ρ m rfl h
  obtain ⟨_,m',e3,ρ',rfl,h3⟩ := za2 I r (k + 1) h2 fun i d ρ m hd hi => by
   have := st (i + 1) d ρ m (by simpa using hd) (by rw [show k + (i + 1) = k + 1 + i by omega]; exact hi)
   rw [show k + (i + 1) + 1 = k + 1 + i + 1 by omega] at this
   exact this
  refine ⟨_,m',?_,ρ',rfl,by rw [List.length_cons,show k + (r.length + 1) = k + 1 + r.length by omega]; exact h3⟩
  rw [zfJ,<- Res.bind_assoc,e2,bind_ok]
  exact e3
theorem zhS {g : GV} {el : EV} {ρ : En} (I : Nat -> Sto -> Prop) (P : Nat -> D -> D -> Prop) : ∀ (ds : List D) (k : Nat) {m : Sto},I k m -> (∀ i d m,ds[i]? = some d -> I (k + i) m -> Run ((g d ρ m).bind el) fun x m3 => P (k + i) d x /\ I (k + i + 1) m3) →
  Run (zeu g zc6 el ρ ds m) fun xs m' => xs.length = ds.length /\ (∀ i d x,ds[i]? = some d -> xs[i]? = some x -> P (k + i) d x) /\ I (k + ds.length) m'
 | [],k,m,h,_ => ⟨[],m,rfl,rfl,fun i d x e => by simp at e,h⟩
 | d :: r,k,m,h,st => by
  obtain ⟨x,m3,e3,hP,h3⟩ := st 0 d m rfl h
  obtain ⟨xs,m',e4,hl,hPs,h4⟩ := zhS I P r (k + 1) h3 fun i d m hd hi => by
   have := st (i + 1) d m (by simpa using hd) (by rw [show k + (i + 1) = k + 1 + i by omega]; exact hi)
   rw [show k + (i + 1) + 1 = k + 1 + i + 1 by omega,show k + (i + 1) = k + 1 + i by omega] at this
   exact this
  refine ⟨x :: xs,m',?_,by rw [List.length_cons,List.length_cons,hl],fun i d' x' hd hx => ?_,by rw [List.length_cons,show k + (r.length + 1) = k + 1 + r.length by (clear hl; omega)]; exact h4⟩
  ·have e : zeu g zc6 el ρ (d :: r) m = ((g d ρ m).bind el).bind fun x m3 => (zeu g zc6 el ρ r m3).bind fun xs m4 => .ok (x :: xs) m4 := by
    rw [zeu,Res.bind_assoc]
    rfl
   rw [e,e3,bind_ok,e4,bind_ok]
  ·cases i with
   | zero => simp at hd hx; subst hd hx; exact hP
   | succ i =>
    have := hPs i d' x' (by simpa using hd) (by simpa using hx)
    rw [show k + (i + 1) = k + 1 + i by (clear hl; omega)]
    exact this
theorem zk3 {g : GV} {el : EV} {ρ : En} {m : Sto} (f : D -> D) : ∀ (ds : List D),(∀ d ∈ ds,∃ ρ1,g d ρ m = .ok ρ1 m /\ el ρ1 m = .ok (f d) m) -> zeu g zc6 el ρ ds m = .ok (ds.map f) m
 | [],_ => rfl
 | d :: r,h => by
  obtain ⟨ρ1,e1,e2⟩ := h d (by simp)
  rw [zeu,e1,bind_ok]
  show (Res.ok true m).bind _ = _
  rw [bind_ok,if_pos rfl,e2,bind_ok,zk3 f r fun d hd => h d (List.mem_cons_of_mem _ hd),bind_ok]
  rfl
theorem zcY : ∀ ns : List Int,pyL (ns.map D.int) = ns.map PyData.int
 | [] => by simp [pyL]
 | a :: r => by simp [pyL,py,zcY r]
theorem zcX : ∀ ns : List Int,pyOkL (ns.map D.int) = true
 | [] => by simp [pyOkL]
 | a :: r => by simp [pyOkL,zge,zcX r]
theorem zfi : ∀ ns : List Int,PyData.canLayAll0 (ns.map PyData.int) = true
 | [] => by simp [PyData.canLayAll0]
 | a :: r => by simp [PyData.canLayAll0,PyData.canLay0,zfi r]
theorem zhQ : ∀ ns : List Int,PyData.depthAll (ns.map PyData.int) = 0
 | [] => by simp [PyData.depthAll]
 | a :: r => by simp [PyData.depthAll,PyData.depth,zhQ r]
theorem zhN : ∀ ns ms : List Int,PyData.eqvAll (ns.map PyData.int) (ms.map PyData.int) = decide (ns = ms)
 | [],[] => by simp [PyData.eqvAll]
 | [],_ :: _ => by simp [PyData.eqvAll]
 | _ :: _,[] => by simp [PyData.eqvAll]
 | a :: r,b :: t => by
  simp only [List.map_cons,PyData.eqvAll,PyData.eqv,zhN r t]
  by_cases h : a = b <;> by_cases h' : r = t <;> simp [h,h']
theorem zk2 (ns : List Int) : zea (.lst (ns.map D.int)) = true := by
 simp [zea,zge,py,zcX,zcY,SeqAt.shaped,PyData.canLay0,zfi,PyData.depth,zhQ]
theorem zpI (ns : List Int) : zea (.tup (ns.map D.int)) = true := by
 simp [zea,zge,py,zcX,zcY,SeqAt.shaped,PyData.canLay0,zfi,PyData.depth,zhQ]
theorem zn7 (ns ms : List Int) : eqB (.lst (ns.map D.int)) (.lst (ms.map D.int)) = some (decide (ns = ms)) := by
 show (if zea (.lst (ns.map D.int)) && zea (.lst (ms.map D.int)) then some (PyData.eqv (py (.lst (ns.map D.int))) (py (.lst (ms.map D.int)))) else none) = _
 rw [zk2,zk2]
 simp [py,PyData.eqv,zcY,zhN]
structure Fr (p q : Nat) (m m' : Sto) : Prop where
 len : m.length <= m'.length
 at' : ∀ j,j < m.length -> j ≠ p -> j ≠ q -> m'[j]? = m[j]?
theorem Fr.refl {p q : Nat} {m : Sto} : Fr p q m m := ⟨Nat.le_refl _,fun _ _ _ _ => rfl⟩
theorem Fr.trans {p q : Nat} {a b c : Sto} (h : Fr p q a b) (k : Fr p q b c) : Fr p q a c := ⟨Nat.le_trans h.len k.len,fun j h1 h2 h3 => (k.at' j (Nat.lt_of_lt_of_le h1 h.len) h2 h3).trans (h.at' j h1 h2 h3)⟩
section
variable {m : Sto}
theorem add_i (a b : Int) : zbm (.int a) (.int b) m = .ok (.int (a + b)) m := rfl
theorem sub_i (a b : Int) : zfl (.int a) (.int b) m = .ok (.int (a - b)) m := rfl
theorem eq_i (a b : Int) : eqD (.int a) (.int b) m = .ok (.bl (decide (a = b))) m := rfl
theorem ne_i (a b : Int) : neD (.int a) (.int b) m = .ok (.bl (!decide (a = b))) m := rfl
theorem eq_s (a b : Str) : eqD (.str a) (.str b) m = .ok (.bl (decide (a = b))) m := rfl
theorem ne_s (a b : Str) : neD (.str a) (.str b) m = .ok (.bl (!decide (a = b))) m := rfl
theorem lt_i (a b : Int) : ltD (.int a) (.int b) m = .ok (.bl (decide (a < b))) m := rfl
theorem gt_i (a b : Int) : gtD (.int a) (.int b) m = .ok (.bl (decide (b < a))) m := rfl
theorem ge_i (a b : Int) : geD (.int a) (.int b) m = .ok (.bl (decide (b <= a))) m := rfl
theorem le_i (a b : Int) : leD (.int a) (.int b) m = .ok (.bl (decide (a <= b))) m := rfl
theorem zlH {a b : Int} (h : -(2 ^ 64) < b /\ b < 2 ^ 64) : zdh (.int a) (.int b) m = .ok (.int (a * b)) m := by rw [zfG]; exact if_pos (.inr h)
theorem zhG {a b : Int} (h : -(2 ^ 64) < a /\ a < 2 ^ 64) : zdh (.int a) (.int b) m = .ok (.int (a * b)) m := by rw [zfG]; exact if_pos (.inl h)
theorem zco {a b : Int} (h : 0 < b) : zd9 (.int a) (.int b) m = .ok (.int (a % b)) m := if_pos h
theorem zsc {a b : Int} (h : 0 < b /\ b < 2 ^ 64) : zhM (.int a) (.int b) m = .ok (.int (a / b)) m := by rw [zkX]; exact if_pos h
theorem zef {n : Nat} (h : n <= 1000000) : zg8 (.int 1) (.int n) m = .ok (.int (2 ^ n)) m := by
 rw [zmo]
 show (if _ then _ else _) = _
 rw [if_pos ⟨by (clear h; omega),by omega,by decide⟩,Int.toNat_natCast,Int.one_mul]
theorem lst_0 : zc0 [] m = .ok (.lst []) m := if_pos (Nat.zero_le _)
theorem zbh {n : Nat} (h : n <= 8) : n <= sizeLine := Nat.le_trans h (by decide)
theorem lst_2 (a b : D) : zc0 [a,b] m = .ok (.lst [a,b]) m := if_pos (zbh (by simp))
theorem lst_3 (a b c : D) : zc0 [a,b,c] m = .ok (.lst [a,b,c]) m := if_pos (zbh (by simp))
theorem lst_4 (a b c d : D) : zc0 [a,b,c,d] m = .ok (.lst [a,b,c,d]) m := if_pos (zbh (by simp))
theorem lst_5 (a b c d e : D) : zc0 [a,b,c,d,e] m = .ok (.lst [a,b,c,d,e]) m := if_pos (zbh (by simp))
theorem tup_0 : zbG [] m = .ok (.tup []) m := if_pos (Nat.zero_le _)
theorem tup_1 (a : D) : zbG [a] m = .ok (.tup [a]) m := if_pos (zbh (by simp))
theorem tup_2 (a b : D) : zbG [a,b] m = .ok (.tup [a,b]) m := if_pos (zbh (by simp))
theorem tup_3 (a b c : D) : zbG [a,b,c] m = .ok (.tup [a,b,c]) m := if_pos (zbh (by simp))
theorem zrL : znW [] m = .ok (.ob m.length) (m ++ [.lst []]) := if_pos (Nat.zero_le _)
theorem min_i (a b : Int) : zlJ [.int a,.int b] m = .ok (.int (if b < a then b else a)) m := rfl
theorem len_t (xs : List D) : ziA [.tup xs] m = .ok (.int xs.length) m := rfl
theorem len_l (xs : List D) : ziA [.lst xs] m = .ok (.int xs.length) m := rfl
theorem tup_l (xs : List D) : zox [.lst xs] m = .ok (.tup xs) m := rfl
theorem l1 (xs : List D) : gL1 xs m = .ok (.lst xs) m := rfl
theorem zhU {τ : Type} {xs : List τ} {n : Nat} : L2.atI xs (n : Int) = xs[n]? := by
 unfold L2.atI L2.ixN
 by_cases h : n < xs.length
 ·rw [if_pos (by (clear h; omega)),if_pos (by omega)]
  simp
 ·rw [if_pos (by (clear h; omega)),if_neg (by omega)]
  simp
  omega
theorem zoy {xs : List D} {n : Nat} {d : D} (h : xs[n]? = some d) : ixD (.tup xs) (.int n) m = .ok d m := by
 show opt (L2.atI xs n) m = _
 rw [zhU,h]
 rfl
theorem ix_l {xs : List D} {n : Nat} {d : D} (h : xs[n]? = some d) : ixD (.lst xs) (.int n) m = .ok d m := by
 show opt (L2.atI xs n) m = _
 rw [zhU,h]
 rfl
theorem ix_t0 (a : D) (xs : List D) : ixD (.tup (a :: xs)) (.int 0) m = .ok a m := zoy (n := 0) rfl
theorem ix_t1 (a b : D) (xs : List D) : ixD (.tup (a :: b :: xs)) (.int 1) m = .ok b m := zoy (n := 1) rfl
theorem ix_t2 (a b c : D) (xs : List D) : ixD (.tup (a :: b :: c :: xs)) (.int 2) m = .ok c m := zoy (n := 2) rfl
theorem zqc {xs : List D} {d : Int} (h0 : 0 <= d) (h1 : d < xs.length) : ∃ x ∈ xs,ixD (.lst xs) (.int d) m = .ok x m := by
 obtain ⟨n,rfl⟩ : ∃ n : Nat,d = n := ⟨d.toNat,by (clear h1; omega)⟩
 have hn : n < xs.length := by (clear h0; omega)
 exact ⟨xs[n],List.getElem_mem hn,ix_l (by simp [hn])⟩
end
theorem zcN {n : Nat} {it : AV} {g : GV} {el : EV} {ρ : En} {m : Sto} {ds : List D} (f : D -> D) (h : it ρ m = .ok ds m) (hl : ds.length <= 1000000) (hf : ∀ d ∈ ds,∃ ρ1,g d (ρ ++ List.replicate n none) m = .ok ρ1 m /\ el ρ1 m = .ok (f d) m) : zda n it g zc6 el ρ m = .ok (ds.map f) m := by
 unfold zda
 rw [h,bind_ok,if_pos hl]
 exact zk3 f ds hf
theorem zjm {n : Nat} {it : AV} {g : GV} {el : EV} {ρ : En} {m : Sto} {ds : List D} (I : Nat -> Sto -> Prop) (P : Nat -> D -> D -> Prop) (h : it ρ m = .ok ds m) (hl : ds.length <= 1000000) (h0 : I 0 m) (hf : ∀ i d m,ds[i]? = some d -> I i m -> Run ((g d (ρ ++ List.replicate n none) m).bind el) fun x m3 => P i d x /\ I (i + 1) m3) :
  Run (zda n it g zc6 el ρ m) fun xs m' => xs.length = ds.length /\ (∀ i d x,ds[i]? = some d -> xs[i]? = some x -> P i d x) /\ I ds.length m' := by
 unfold zda
 rw [h,bind_ok,if_pos hl]
 have := zhS (g := g) (el := el) (ρ := ρ ++ List.replicate n none) I P ds 0 h0 (fun i d m hd hi => by
  have := hf i d m hd (by rw [Nat.zero_add] at hi; exact hi)
  rw [Nat.zero_add]
  exact this)
 simpa only [Nat.zero_add] using this
theorem zaX (lo : Int) (n : Nat) : (zc9 lo n).length = n := by simp [zc9]
theorem zfr {j : Int} {m : Sto} (h : 0 <= j) (h' : j <= 1000000) : zll [.int j] m = .ok (zc9 0 j.toNat) m := by rw [zmx]; exact if_pos ⟨by (clear h'; omega),by (clear h; omega)⟩
theorem zrE {a b : String} (h : Str.ofString a = Str.ofString b) : a = b := by
 rw [PySem.Str.ofString_eq_toList,PySem.Str.ofString_eq_toList] at h
 have h2 := congrArg (fun s : Str => s.cps.toList) h
 exact String.toList_inj.mp ((List.map_inj_right fun x y e => Char.toNat_inj.mp e).mp h2)
theorem ofs_eq (a b : String) : (Str.ofString a = Str.ofString b) = (a = b) := propext ⟨zrE,fun h => by rw [h]⟩
local macro_rules | `(tactic| walk_at "w") => do
  let ids := ("run_at fin_nx fin_rt seq_at seq_nx seq_rt nil_at ret_at rt_at retN_at drop_at kdrop_at if_at kif_at asg_at kasg_at nx_at gs_nil gs_cons gT_at par_at kpar_at List.set_cons_zero List.set_cons_succ for_at kfor_at eC_at op_at kop_at un_at fn_at ife_at kife_at aNil_at aCons_at kcons_at kcons2_at asB_at tV_at andT_at kandT_at orT_at korT_at notT_at knotT_at and_at kand_at or_at kor_at not_at knot_at aIt_at sq_t sq_l sq_s sq_c rngA_at enumA_at kenum_t kenum_l zipA_at kzip_at zip3A_at kzip3_at kzip4_at oNone_at oSome_at ksome_at slD_at ksl1_at ksl2_at slA_at kslA1_at kslA2_at meth_at kmeth_at isStr_at isTup_at chain_at kch1_at kch2_at kch3_at put_at kputA_at kputB_at kputC_at kputE_at bind_ok bind_then then_at var_0 var_S gN_at Bool.false_eq_true reduceIte List.map_cons List.map_nil List.length_cons List.length_nil Nat.reduceAdd Nat.reduceSub List.cons_append List.nil_append add_i sub_i eq_i ne_i eq_s ne_s lt_i le_i gt_i ge_i lst_0 lst_2 lst_3 lst_4 lst_5 tup_0 tup_1 tup_2 tup_3 min_i len_t len_l tup_l l1 ix_t0 ix_t1 ix_t2 List.replicate List.append_nil decide_eq_true_eq Bool.not_true Bool.not_false eq_self not_true_eq_false not_false_eq_true decide_true decide_false ofs_eq String.reduceEq".splitOn " ").toArray.map fun s => Lean.mkIdent s.toName
  `(tactic| try simp only [$[$ids:ident],*])
theorem zaT {m : Sto} {p : Nat} {kvs : List (L2.Key × D)} {k : Str} {d : D} (h : m[p]? = some (.dct kvs)) (e : zdc kvs (.inr k) = some d) : ixD (.ob p) (.str k) m = .ok d m := by
 simp only [ixD,h,e,opt]
theorem zjA {m : Sto} {p : Nat} {kvs : List (L2.Key × D)} {k : Str} {d : D} (h : m[p]? = some (.dct kvs)) (hl : kvs.length < sizeLine) : zgg (.ob p) (.str k) d m = .ok () (m.set p (.dct (zgB kvs (.inr k) d))) := by
 simp only [zgg,h,zgn,if_pos hl]
theorem zbb {m : Sto} {p : Nat} {o o' : MO} (h : m[p]? = some o) : (m.set p o')[p]? = some o' := List.getElem?_set_self (List.getElem?_eq_some_iff.mp h).1
theorem zaF {m : Sto} {p j : Nat} {o : MO} (h : p ≠ j) : (m.set p o)[j]? = m[j]? := List.getElem?_set_ne h
theorem Fr.set {p q : Nat} {m : Sto} {o : MO} : Fr p q m (m.set p o) := ⟨by rw [List.length_set]; exact Nat.le_refl _,fun j _ h _ => zaF (Ne.symm h)⟩
theorem Fr.set' {p q : Nat} {m : Sto} {o : MO} : Fr p q m (m.set q o) := ⟨by rw [List.length_set]; exact Nat.le_refl _,fun j _ _ h => zaF (Ne.symm h)⟩
theorem znq (x : Int) : -(2 ^ 64) < x % 1000003 + 69621 /\ x % 1000003 + 69621 < 2 ^ 64 := by
 have h0 := Int.emod_nonneg x (b := 1000003) (by decide)
 have h1 := Int.emod_lt_of_pos x (b := 1000003) (by decide)
 (clear h1 h0; omega)
theorem zmL {m : Sto} {q : Nat} {a : Int} {own : List Int} (h : m[q]? = some (.lst ((a :: own).map D.int))) : popM (.ob q) [.int 0] m = .ok (.int a) (m.set q (.lst (own.map D.int))) := by
 simp only [popM,h]; rw [if_pos (by decide)]
 have e : seqIndex? 0 ((a :: own).map D.int).length = some 0 := by
  simp [seqIndex?]
 rw [e]
 simp
inductive Kd where
 | step (n : Int) | turn (row : List Int) | wth (i : Nat) (f : Int) | still | drawn
def Kd.e : Kd -> D
 | .step n => .tup [.str "step", .int n]
 | .turn row => .tup [.str "turn", .tup (row.map D.int)]
 | .wth i f => .tup [.str "with", .int i,.int f]
 | .still => .tup [.str "still"]
 | .drawn => .tup [.str "drawn"]
def Kd.Ok (pl b : Nat) : Kd -> Prop
 | .step n => 0 <= n /\ n < 2 ^ b
 | .turn row => row ≠ [] /\ row.length <= 12 /\ ∀ v ∈ row,0 <= v /\ v < 2 ^ b
 | .wth i f => i < pl /\ -99 <= f /\ f <= 99
 | _ => True
theorem p2 (b : Nat) : (0 : Int) < 2 ^ b := Int.pow_pos (by decide)
theorem p2le {b : Nat} (h : b <= 40) : (2 : Int) ^ b <= 2 ^ 40 := by
 have := Nat.pow_le_pow_right (n := 2) (by decide) h
 exact_mod_cast this
theorem p2lt {b : Nat} (h : b <= 40) : (2 : Int) ^ b < 2 ^ 64 := Int.lt_of_le_of_lt (p2le h) (by decide)
structure Fd where
 nm : Str
 b : Nat
 kd : Kd
def Fd.e (f : Fd) : D := .tup [.str f.nm,.int f.b,f.kd.e]
def zqt (fs : List Fd) : Prop := ∀ (i : Nat) (f : Fd),fs[i]? = some f -> 0 < f.b /\ f.b <= 40 /\ f.kd.Ok i f.b
theorem zou {m : Sto} {r : Nat} {xs : List D} {d : D} (h : m[r]? = some (.lst xs)) (hl : xs.length < sizeLine) : zdA (.ob r) [d] m = .ok .non (m.set r (.lst (xs ++ [d]))) := by
 simp only [zdA,h,if_pos hl]
theorem znM {m : Sto} {r : Nat} {xs : List D} (h : m[r]? = some (.lst xs)) : zfQ (.ob r) m = true := by simp only [zfQ,h]
theorem mul_s {z : Str} {n : Int} {m : Sto} (h : z.length = 1) (h0 : 0 <= n) (h1 : n <= 1000) : zdh (.str z) (.int n) m = .ok (.str (Txt.mul z n)) m := by rw [zfG]; exact if_pos ⟨h0,h1,by (clear h1 h0; omega)⟩
theorem zcP {n : Nat} (h : n < 1000) : n < sizeLine := Nat.lt_trans h (by decide)
theorem pow106 {m : Sto} : zkC (.int 10) (.int 6) m = .ok (.int 1000000) m := by
 rw [zfu]
 have e : zrb (.int 10) (.int 6) m = if (0 : Int) <= 6 /\ (6 : Int) <= 1000000 /\ (10 : Int).natAbs < 2 ^ 64 then .ok (.int ((10 : Int) ^ (6 : Int).toNat)) m else .bad := rfl
 rw [e,if_pos (by decide)]
 rfl
theorem zaw {τ : Type} {r : Res τ} {x : τ} {m : Sto} (h : Run r fun a m' => a = x /\ m' = m) : r = .ok x m := by
 obtain ⟨a,m',e,rfl,rfl⟩ := h
 exact e
theorem zr7 {v : Int} {row : List Int} {m : Sto} : inD (.int v) (.tup (row.map D.int)) m = .ok (.bl (decide (v ∈ row))) m := by
 have h : inO (.int v) (.tup (row.map D.int)) m = some (decide (v ∈ row)) := by
  show inB (.int v) (row.map D.int) = _
  unfold inB; rw [zcX,zcY,zfi]
  have hd : zea (.int v) = true := by simp [zea,zge,py,SeqAt.shaped,PyData.canLay0,PyData.depth]
  rw [hd]; simp only [Bool.and_self,if_true,py]
  congr 1
  rw [List.any_map]
  induction row with
  | nil => simp
  | cons a r ih =>
   rw [List.any_cons,ih]; simp only [Function.comp,PyData.eqv,List.mem_cons,Bool.decide_or]
   by_cases e : a = v
   ·simp [e]
   ·have e' : ¬ v = a := fun h => e h.symm
    simp [e,e']
 simp only [inD,h]
theorem zlE {v : Int} {row : List Int} {m : Sto} : zis (.int v) (.tup (row.map D.int)) m = .ok (.bl (!decide (v ∈ row))) m := by
 have h := zr7 (v := v) (row := row) (m := m)
 unfold inD at h
 unfold zis
 split at h
 ·rename_i b e
  simp only [Res.ok.injEq,D.bl.injEq,and_true] at h
  rw [h]
 ·cases h
theorem zcb : ∀ row : List Int,zd7 (row.map D.int) = some row
 | [] => rfl
 | a :: r => by simp only [List.map_cons,zd7,zcb r]; rfl
theorem zoE {v : Int} {row : List Int} {m : Sto} (h : v ∈ row) : zee (.tup (row.map D.int)) [.int v] m = .ok (.int (row.idxOf v)) m := by
 simp only [zee,zcb,if_pos h]
theorem zek {row : List Int} {m : Sto} {n : Nat} {v : Int} (h : row[n]? = some v) : ixD (.tup (row.map D.int)) (.int n) m = .ok (.int v) m := zoy (by simp [h])
def exV (b : Nat) (kd : Kd) (v more : Int) (fo ah : List Int) : Int := match kd with
 | .step n => (v + more * n) % 2 ^ b
 | .turn row => if v ∈ row then row.getD ((row.idxOf v + more) % row.length).toNat 0 else v
 | .wth i f => (v + f * (ah.getD i 0 - fo.getD i 0)) % 2 ^ b
 | .still => v
 | .drawn => v
def shD (fs : List Fd) (n : Int) : D := .tup [.tup (fs.map Fd.e),.int n]
def zf8 (l : List Int) : D := .tup (l.map D.int)
theorem ix_fd {fs : List Fd} {i : Nat} {f : Fd} {m : Sto} (h : fs[i]? = some f) : ixD (.tup (fs.map Fd.e)) (.int i) m = .ok (.tup [.str f.nm,.int f.b,f.kd.e]) m := zoy (by simp [h,Fd.e])
def Bin (l : List Nat) : Prop := ∀ c ∈ l,c = 48 ∨ c = 49
def zdq (l : List Nat) : Int := l.foldl (fun a c => a * 2 + if c = 49 then 1 else 0) 0
theorem zng (l : List Nat) (c : Nat) : zdq (l ++ [c]) = zdq l * 2 + if c = 49 then 1 else 0 := by simp only [zdq,List.foldl_append,List.foldl_cons,List.foldl_nil]
theorem zkq {z : Str} {i : Nat} {d : D} (h : (zeR z)[i]? = some d) : ∃ c,z.cps.toList[i]? = some c /\ d = .str ⟨#[c]⟩ := by
 have hi : i < z.cps.size := by have := (List.getElem?_eq_some_iff.mp h).1; simpa [zeR] using this
 have hd : d = .str ⟨#[z.cps.getD i 0]⟩ := by
  simp only [zeR,List.getElem?_map,List.getElem?_range hi,Option.map_some,Option.some.injEq] at h
  exact h.symm
 refine ⟨z.cps[i],by simp [hi],?_⟩
 rw [hd]
 simp [Array.getD,hi]
theorem zmm (z : Str) : (zeR z).length = z.cps.toList.length := by simp [zeR]
theorem zhZ {l : List Nat} {i c : Nat} (h : l[i]? = some c) : l.take (i + 1) = l.take i ++ [c] := by
 rw [List.take_add_one,h]
 rfl
theorem int_0 {m : Sto} : zqe [.str ⟨#[48]⟩] m = .ok (.int 0) m := by
 have e : PySem.intText? ⟨#[48]⟩ = some 0 := by decide +kernel
 simp only [zqe,e]
 rfl
theorem int_1 {m : Sto} : zqe [.str ⟨#[49]⟩] m = .ok (.int 1) m := by
 have e : PySem.intText? ⟨#[49]⟩ = some 1 := by decide +kernel
 simp only [zqe,e]
 rfl
theorem zgC {z : Str} {m : Sto} (hz : Bin z.cps.toList) : Run (zaZ [.str z] m) fun a m' => a = .int (zdq z.cps.toList) /\ m' = m := by
 unfold zaZ zgK; ac_nf; refine Run.bind (za2 (fun k ρ m' => ∃ x,ρ = [some (.str z),some (.int (zdq (z.cps.toList.take k))),x] /\ m' = m) (zeR z) 0 ⟨_,rfl,rfl⟩ ?_) ?_
 ·rintro i d ρ m' hd ⟨x,rfl,rfl⟩
  obtain ⟨c,hc,rfl⟩ := zkq hd
  rw [Nat.zero_add,zhZ hc,zng]; erw [zlH (by decide)]; ac_nf
  rcases hz c (List.mem_of_getElem? hc) with rfl | rfl
  ·rw [int_0]; ac_nf; exact Run.ok ⟨_,rfl,_,rfl,rfl⟩
  ·rw [int_1]; ac_nf; exact Run.ok ⟨_,rfl,_,rfl,rfl⟩
 ·rintro _ m' ⟨ρ,rfl,x,rfl,rfl⟩; rw [Nat.zero_add,zmm,List.take_length]; ac_nf; exact Run.ok ⟨rfl,rfl⟩
inductive Wy where
 | keep | whole | low (w : Nat) (bl : Int)
def Wy.e : Wy -> D
 | .keep => .tup [.str "keep"]
 | .whole => .tup [.str "whole"]
 | .low w bl => .tup [.str "low", .int w,.int bl]
def Wy.w (b : Nat) : Wy -> Nat
 | .keep => 0
 | .whole => b
 | .low w _ => w
def Wy.Ok (b : Nat) : Wy -> Prop
 | .low w bl => 0 < w /\ w <= b /\ 0 <= bl /\ bl < 2 ^ w
 | _ => True
theorem Wy.w_le {b : Nat} {w : Wy} (h : w.Ok b) : w.w b <= b := by
 cases w with
 | keep => exact Nat.zero_le _
 | whole => exact Nat.le_refl _
 | low w bl => exact h.2.1
def zqx (wy : Wy) (b : Nat) (base rest : Int) : Int := match wy with
 | .keep => base
 | .whole => rest
 | .low w bl => ((base - bl) + (rest - (base - bl)) % 2 ^ w) % 2 ^ b
theorem zb4 {n : Int} {w : Nat} {m : Sto} (h : w <= 1000000) : Run (zb3 [.int n,.int w] m) fun a m' => a = .int (n % 2 ^ w) /\ m' = m := by
 unfold zb3 zkN; erw [zef h]; erw [zco (p2 _)]; ac_nf; exact Run.ok ⟨rfl,rfl⟩
theorem zlY {b w : Nat} {base bl rest : Int} {m : Sto} (hb : b <= 1000000) (hw : w <= 1000000) : Run (zf2 [.int b,.int base,.int bl,.int rest,.int w] m) fun a m' => a = .int (((base - bl) + (rest - (base - bl)) % 2 ^ w) % 2 ^ b) /\ m' = m := by
 have h1 : Run (za9 [.int (base - bl),.int rest,.int w] m) fun a m' => a = .int ((base - bl) + (rest - (base - bl)) % 2 ^ w) /\ m' = m := by
  unfold za9 zel; erw [zaw (zb4 hw)]; ac_nf; exact Run.ok ⟨rfl,rfl⟩
 unfold zf2 zkT; erw [zaw h1]; erw [zaw (zb4 hb)]; ac_nf; exact Run.ok ⟨rfl,rfl⟩
theorem zg2 {wy : Wy} {b : Nat} {base rest : Int} {m : Sto} (hb : b <= 1000000) (hw : wy.Ok b) : Run (zb6 [wy.e,.int b,.int base,.int rest] m) fun a m' => a = .int (zqx wy b base rest) /\ m' = m := by
 unfold zb6 zfT
 cases wy with
 | keep => simp only [Wy.e]; ac_nf; exact Run.ok ⟨rfl,rfl⟩
 | whole => simp only [Wy.e]; ac_nf; exact Run.ok ⟨rfl,rfl⟩
 | low w bl =>
  simp only [Wy.e]; ac_nf
  have h2 := hw.2.1
  rw [zaw (zlY hb (by omega))]; ac_nf; exact Run.ok ⟨rfl,rfl⟩
theorem zdl {wy : Wy} {b : Nat} {m : Sto} : Run (zbB [wy.e,.int b] m) fun a m' => a = .int (wy.w b : Nat) /\ m' = m := by
 unfold zbB ziK
 cases wy with
 | keep => simp only [Wy.e]; ac_nf; exact Run.ok ⟨rfl,rfl⟩
 | whole => simp only [Wy.e]; ac_nf; exact Run.ok ⟨rfl,rfl⟩
 | low w bl => simp only [Wy.e]; ac_nf; exact Run.ok ⟨rfl,rfl⟩
theorem zk9 {row : List Int} {v more : Int} {m : Sto} : Run (zfU [.tup (row.map D.int),.int v,.int more] m) fun a m' => a = .int (if v ∈ row then row.getD ((row.idxOf v + more) % row.length).toNat 0 else v) /\ m' = m := by
 unfold zfU zkL; erw [zlE]; ac_nf
 by_cases hr : v ∈ row
 ·rw [decide_eq_true hr]; erw [zoE hr]; ac_nf; simp only [List.length_map]
  have hl : 0 < row.length := List.length_pos_of_mem hr
  rw [zco (by omega)]; ac_nf
  have a0 := Int.emod_nonneg (row.idxOf v + more) (b := row.length) (by omega)
  have a1 := Int.emod_lt_of_pos (row.idxOf v + more) (b := row.length) (by (clear a0; omega))
  rw [if_pos hr]; generalize hx : ((row.idxOf v : Int) + more) % row.length = x at a0 a1
  obtain ⟨j,rfl⟩ : ∃ j : Nat,x = j := ⟨x.toNat,by (clear a1 hx hl; omega)⟩
  have hj : j < row.length := by (clear a0 hx hl; omega)
  rw [zek (List.getElem?_eq_getElem hj)]; ac_nf
  refine Run.ok ⟨?_,rfl⟩
  simp only [Int.toNat_natCast,List.getD_eq_getElem?_getD,List.getElem?_eq_getElem hj,Option.getD_some]
 ·rw [decide_eq_false hr]; erw [if_neg hr]; exact Run.ok ⟨rfl,rfl⟩
theorem sl_fd {a b c : D} {m : Sto} : slD (.tup [a,b,c]) (some 1) none m = .ok (.tup [b,c]) m := by
 have e : slD (.tup [a,b,c]) (some 1) none m = if HT.sIx 3 0 (some 1) = 0 /\ HT.sIx 3 3 none = 3 then .bad else .ok (.tup (zoh [a,b,c] (some 1) none)) m := rfl
 rw [e,if_neg (by decide)]
 rfl
theorem zi0 {fs : List Fd} {n : Int} {i : Nat} {f : Fd} {fo ah : List Int} {v more : Int} {m : Sto} (hs : zqt fs) (hf : fs[i]? = some f) (hv : fo[i]? = some v) (v0 : 0 <= v) (v1 : v < 2 ^ f.b) (ha : ah.length = i) :
  Run (zcL [shD fs n,.int i,.tup (fo.map D.int),.tup (ah.map D.int),.int more] m) fun a m' => a = .int (exV f.b f.kd v more fo ah) /\ m' = m := by
 obtain ⟨hb0,hb1,hk⟩ := hs i f hf
 unfold zcL zgO shD; erw [ix_fd hf]; erw [sl_fd]; erw [zek hv]; ac_nf
 have hlt := p2lt hb1
 cases hkd : f.kd with
 | step w =>
  rw [hkd] at hk
  simp only [Kd.Ok] at hk
  simp only [Kd.e]; erw [zhG (by (clear hb1 hb0 ha v1 v0; omega))]; erw [zaw (zb4 (by (clear hk hlt hb0 ha v1 v0; omega)))]; ac_nf; exact Run.ok ⟨by simp only [exV,Int.mul_comm],rfl⟩
 | turn row =>
  simp only [Kd.e]; erw [zaw zk9]; ac_nf; exact Run.ok ⟨by simp only [exV],rfl⟩
 | wth j w =>
  rw [hkd] at hk
  simp only [Kd.Ok] at hk
  simp only [Kd.e]; ac_nf
  have hj1 : j < ah.length := by (clear hlt hb1 hb0 v1 v0; omega)
  have hj2 : j < fo.length := by have := (List.getElem?_eq_some_iff.mp hv).1; (clear hj1 hlt hb1 hb0 ha v1 v0; omega)
  rw [zek (List.getElem?_eq_getElem hj1)]; erw [zek (List.getElem?_eq_getElem hj2)]; erw [zhG (by (clear hj2 hj1 hlt hb1 hb0 ha v1 v0; omega))]; erw [zaw (zb4 (by (clear hj2 hj1 hk hlt hb0 ha v1 v0; omega)))]; ac_nf
  refine Run.ok ⟨?_,rfl⟩
  simp only [exV,List.getD_eq_getElem?_getD,List.getElem?_eq_getElem hj1,List.getElem?_eq_getElem hj2,Option.getD_some]
 | still =>
  simp only [Kd.e]; ac_nf; exact Run.ok ⟨by simp only [exV],rfl⟩
 | drawn =>
  simp only [Kd.e]; ac_nf; exact Run.ok ⟨by simp only [exV],rfl⟩
def fmD (a b : Int) (wys : List Wy) : D := .tup [.int a,.int b,.tup (wys.map Wy.e)]
def zdb (fs : List Fd) (wys : List Wy) : List Nat := List.zipWith (fun f w => Wy.w f.b w) fs wys
theorem zeO {fs : List Fd} {n : Int} {m : Sto} (h : fs.length <= 1000) : Run (zbR [shD fs n] m) fun a m' => a = .lst (fs.map fun f => .int f.b) /\ m' = m := by
 unfold zbR zgP shD; ac_nf
 rw [zcN (ds := fs.map Fd.e) (fun d => match d with | .tup [_,b,_] => b | d => d)]
 ·ac_nf
  refine Run.ok ⟨?_,rfl⟩
  rw [List.map_map]
  rfl
 ·ac_nf
 ·rw [List.length_map]; omega
 ·intro d hd
  simp only [List.mem_map] at hd
  obtain ⟨f,_,rfl⟩ := hd
  exact ⟨_,rfl,(ix_t1 (.str f.nm) (.int f.b) [f.kd.e] : ixD (.tup _) (.int 1) m = _)⟩
theorem zpQ : ∀ (fs : List Fd) (wys : List Wy),zjn (wys.map Wy.e) (fs.map fun f => D.int f.b) = List.zipWith (fun (f : Fd) (w : Wy) => D.tup [w.e,.int f.b]) fs wys
 | [],[] => rfl
 | [],_ :: _ => rfl
 | _ :: _,[] => rfl
 | f :: fs,w :: ws => by simp only [List.map_cons,zjn,List.zipWith_cons_cons,zpQ fs ws]
theorem znu {α β γ δ : Type} (g : γ -> δ) (f : α -> β -> γ) : ∀ (a : List α) (b : List β),(List.zipWith f a b).map g = List.zipWith (fun x y => g (f x y)) a b
 | [],_ => by simp
 | _ :: _,[] => by simp
 | x :: a,y :: b => by simp [znu g f a b]
theorem zp7 {α β γ : Type} (f : α -> β -> γ) : ∀ (a : List α) (b : List β) {c : γ},c ∈ List.zipWith f a b -> ∃ x y,c = f x y
 | [],_,c,h => by simp at h
 | _ :: _,[],c,h => by simp at h
 | x :: a,y :: b,c,h => by
  simp only [List.zipWith_cons_cons,List.mem_cons] at h
  rcases h with h | h
  ·exact ⟨x,y,h⟩
  ·exact zp7 f a b h
def wdF (d : D) : D := match d with
 | .tup [a,b] => match zbB [a,b] [] with
  | .ok x _ => x
  | _ => .non
 | d => d
theorem zgq {fs : List Fd} {n a b : Int} {wys : List Wy} {m : Sto} (h : fs.length <= 1000) (hl : wys.length = fs.length) : Run (zdu [shD fs n,fmD a b wys] m) fun x m' => x = .lst ((zdb fs wys).map fun k : Nat => .int k) /\ m' = m := by
 unfold zdu zkK fmD; erw [zcN (ds := List.zipWith (fun (f : Fd) (w : Wy) => D.tup [w.e,.int f.b]) fs wys) wdF]
 ·ac_nf
  refine Run.ok ⟨?_,rfl⟩
  rw [znu,zdb,znu]
  congr 2
  funext f w
  show (match zbB [w.e,.int f.b] [] with | .ok x _ => x | _ => .non) = _
  rw [zaw zdl]
 ·erw [zaw (zeO h)]; ac_nf; simp only [zoz]; rw [if_pos (by simp [hl]),zpQ]
 ·simp; (clear hl; omega)
 ·intro d hd
  obtain ⟨f,w,rfl⟩ := zp7 _ _ _ hd
  refine ⟨_,rfl,?_⟩
  show zbB [w.e,.int f.b] m = .ok (match zbB [w.e,.int f.b] [] with | .ok x _ => x | _ => .non) m
  rw [zaw zdl,zaw zdl]
def zg5 (ws : List Nat) (k : Nat) : Nat := (ws.take k).sum
theorem zfk {ws : List Nat} {k w : Nat} (h : ws[k]? = some w) : zg5 ws (k + 1) = zg5 ws k + w := by
 unfold zg5; rw [zhZ h,List.sum_append]
 simp
theorem zqD (ws : List Nat) (k : Nat) : zg5 ws k <= ws.sum := by
 unfold zg5
 conv => rhs; rw [<- List.take_append_drop k ws,List.sum_append]
 omega
def zjM (l : List Nat) (ws : List Nat) (k : Nat) : Int := zdq ((l.drop (zg5 ws k)).take (ws.getD k 0))
theorem Bin.drop {l : List Nat} (h : Bin l) (k : Nat) : Bin (l.drop k) := fun c hc => h c (List.mem_of_mem_drop hc)
theorem Bin.take {l : List Nat} (h : Bin l) (k : Nat) : Bin (l.take k) := fun c hc => h c (List.mem_of_mem_take hc)
theorem zkp {z : Str} {lo hi : Option Int} {m : Sto} (h : z.length <= sizeLine) : slD (.str z) lo hi m = .ok (.str (Txt.slice z lo hi)) m := if_pos h
theorem zgd {τ : Type} (f : Nat -> τ) (k : Nat) : (List.range (k + 1)).map f = (List.range k).map f ++ [f k] := by rw [List.range_succ,List.map_append]; rfl
theorem zfE {z : Str} {ws : List Nat} {m : Sto} (hz : Bin z.cps.toList) (hl : z.length <= sizeLine) (hs : ws.sum <= z.cps.size) (hw : ws.length < 1000) :
  Run (zbr [.str z,.lst (ws.map fun k : Nat => .int k)] m) fun a m' => a = .lst (((List.range ws.length).map (zjM z.cps.toList ws)).map D.int) /\ m' = m := by
 have h : Run (za8 5 zdv [.str z,.lst (ws.map fun k : Nat => .int k)] m) fun a m' => a = .ob m.length /\ m' = m ++ [.lst (((List.range ws.length).map (zjM z.cps.toList ws)).map D.int)] := by
  unfold zdv; erw [zrL]; ac_nf; refine Run.bind (za2 (fun k ρ m' => ∃ x,ρ = [some (.str z),some (.lst (ws.map fun k : Nat => .int k)),some (.ob m.length),some (.int (zg5 ws k : Nat)),x] /\ m' = m ++ [.lst (((List.range k).map (zjM z.cps.toList ws)).map D.int)]) (ws.map fun k : Nat => .int k) 0 ⟨_,rfl,rfl⟩ ?_) ?_
  ·rintro i d ρ m' hd ⟨x,rfl,rfl⟩; rw [Nat.zero_add]
   have hi : i < ws.length := by have := (List.getElem?_eq_some_iff.mp hd).1; simpa using this
   have hwi : ws[i]? = some ws[i] := List.getElem?_eq_getElem hi
   have hd' : d = .int (ws[i] : Nat) := by
    rw [List.getElem?_map,hwi] at hd
    simpa using hd.symm
   subst hd'
   have hm : (m ++ [MO.lst (((List.range i).map (zjM z.cps.toList ws)).map D.int)])[m.length]? = some (.lst (((List.range i).map (zjM z.cps.toList ws)).map D.int)) := by simp
   have hsum := zfk hwi
   have hle := zqD ws (i + 1)
   erw [if_pos (znM hm)]; erw [zkp hl]; ac_nf
   have hsl := Mth.slice_mid z (zg5 ws i) (zg5 ws (i + 1)) (by (clear hle hw hs hl; omega)) (by (clear hsum hw hl; omega))
   rw [hsum] at hsl
   rw [Nat.add_sub_cancel_left] at hsl
   rw [show ((zg5 ws i : Nat) : Int) + (ws[i] : Nat) = ((zg5 ws i + ws[i] : Nat) : Int) by (clear hle hsum hw hs hl; omega)]; rw [zaw (zgC (by rw [hsl]; exact (hz.drop _).take _)),hsl]; erw [zou hm (by simp; exact zcP (by (clear hle hsum hs hl; omega)))]; ac_nf
   refine Run.ok ⟨_,rfl,_,by rw [hsum,Int.natCast_add],?_⟩
   rw [zgd,List.map_append]
   have : zjM z.cps.toList ws i = zdq ((z.cps.toList.drop (zg5 ws i)).take ws[i]) := by rw [zjM,List.getD_eq_getElem?_getD,hwi]; rfl
   rw [this]
   simp
  ·rintro _ m' ⟨ρ,rfl,x,rfl,rfl⟩; ac_nf
   refine Run.ok ⟨rfl,?_⟩
   simp
 unfold zbr
 unfold locF
 have h' := zaw h
 rw [h',bind_ok]; generalize ((List.range ws.length).map (zjM z.cps.toList ws)) = l
 have e : frz (m ++ [.lst (l.map D.int)]) m.length (.ob m.length) = .lst (l.map D.int) := by simp [frz]
 rw [e]
 have hcl : clsd m.length (.lst (l.map D.int)) = true := by
  have : ∀ l : List Int,clsdL m.length (l.map D.int) = true := by
   intro l
   induction l with
   | nil => simp [clsdL]
   | cons a r ih => simp [clsdL,clsd,ih]
  simp [clsd,this]
 rw [if_pos ⟨by simp,hcl⟩]; exact Run.ok ⟨rfl,by simp⟩
theorem zhO {τ : Type} {f : τ -> D} : ∀ {xs : List τ} {k i : Nat} {d : D},(zbS k (xs.map f))[i]? = some d -> ∃ x,xs[i]? = some x /\ d = .tup [.int ((k + i : Nat) : Int),f x]
 | [],k,i,d,h => by simp [zbS] at h
 | x :: xs,k,0,d,h => by
  simp only [List.map_cons,zbS,List.getElem?_cons_zero,Option.some.injEq] at h
  exact ⟨x,rfl,h.symm⟩
 | x :: xs,k,i + 1,d,h => by
  simp only [List.map_cons,zbS,List.getElem?_cons_succ] at h
  obtain ⟨y,h1,h2⟩ := zhO h
  exact ⟨y,by simpa using h1,by rw [h2,show k + 1 + i = k + (i + 1) by omega]⟩
theorem zfh {τ : Type} {f : τ -> D} : ∀ {xs : List τ} {k : Nat},(zbS k (xs.map f)).length = xs.length
 | [],k => rfl
 | x :: xs,k => by simp [zbS,zfh]
def hdV (fs : List Fd) (wys : List Wy) (fo : List Int) (more : Int) (l : List Nat) : Nat -> List Int
 | 0 => []
 | k + 1 => hdV fs wys fo more l k ++ [match fs[k]?,wys[k]?,fo[k]? with
  | some f,some w,some v => zqx w f.b (exV f.b f.kd v more fo (hdV fs wys fo more l k)) (zjM l (zdb fs wys) k)
  | _,_,_ => 0]
theorem zjZ (fs : List Fd) (wys : List Wy) (fo : List Int) (more : Int) (l : List Nat) : ∀ k,(hdV fs wys fo more l k).length = k
 | 0 => rfl
 | k + 1 => by rw [hdV,List.length_append,zjZ fs wys fo more l k]; rfl
structure HdOk (fs : List Fd) (fo : List Int) : Prop where
 len : fo.length = fs.length
 at' : ∀ (i : Nat) (f : Fd) (v : Int),fs[i]? = some f -> fo[i]? = some v -> 0 <= v /\ v < 2 ^ f.b
structure WyOk (fs : List Fd) (wys : List Wy) : Prop where
 len : wys.length = fs.length
 at' : ∀ (i : Nat) (f : Fd) (w : Wy),fs[i]? = some f -> wys[i]? = some w -> w.Ok f.b
theorem zbT {fs : List Fd} {wys : List Wy} (h : WyOk fs wys) : (zdb fs wys).length = fs.length := by simp [zdb,h.len]
theorem zg0 {fs : List Fd} {wys : List Wy} {i : Nat} {f : Fd} {w : Wy} (hf : fs[i]? = some f) (hw : wys[i]? = some w) : (zdb fs wys)[i]? = some (w.w f.b) := by
 rw [zdb,List.getElem?_zipWith,hf,hw]
theorem zlp {fs : List Fd} {n a b : Int} {wys : List Wy} {z : Str} {fo : List Int} {more : Int} {m : Sto} (hs : zqt fs) (hn : fs.length <= 12) (hw : WyOk fs wys) (hf : HdOk fs fo) (hz : Bin z.cps.toList) (hl : z.length <= sizeLine) (hsz : z.cps.size = (zdb fs wys).sum) :
  Run (zfY [shD fs n,fmD a b wys,.str z,.tup (fo.map D.int),.int more] m) fun x m' => x = .tup ((hdV fs wys fo more z.cps.toList fs.length).map D.int) /\ m' = m := by
 unfold zfY zkP; erw [zaw (zgq (by (clear hsz hl; omega)) hw.len)]; erw [zaw (zfE hz hl (by (clear hl hn; omega)) (by rw [zbT hw]; (clear hsz hl; omega)))]; ac_nf; refine Run.bind (za2 (fun k ρ m' => ∃ x y w,ρ = [some (shD fs n),some (fmD a b wys),some (.str z),some (.tup (fo.map D.int)),some (.int more),some (.tup ((hdV fs wys fo more z.cps.toList k).map D.int)),x,y,w] /\ m' = m) _ 0 ⟨_,_,_,rfl,rfl⟩ ?_) ?_
 ·rintro i d ρ m' hd ⟨x,y,w,rfl,rfl⟩
  obtain ⟨v,hv,rfl⟩ := zhO hd
  have hi : i < fs.length := by
   have := (List.getElem?_eq_some_iff.mp hv).1
   rw [List.length_map,List.length_range,zbT hw] at this
   exact this
  have hv' : v = zjM z.cps.toList (zdb fs wys) i := by
   rw [List.getElem?_map,List.getElem?_range (by rw [zbT hw]; exact hi)] at hv
   simpa using hv.symm
  subst hv'
  rw [Nat.zero_add]
  have e1 := List.getElem?_eq_getElem hi
  have e2 := List.getElem?_eq_getElem (show i < wys.length by rw [hw.len]; exact hi)
  have e3 := List.getElem?_eq_getElem (show i < fo.length by rw [hf.len]; exact hi)
  obtain ⟨v0,v1⟩ := hf.at' i _ _ e1 e3
  erw [zaw (zi0 hs e1 e3 v0 v1 (zjZ _ _ _ _ _ i))]; ac_nf; simp only [shD,fmD]; erw [zoy (d := (wys[i]'(by rw [hw.len]; exact hi)).e) (by rw [List.getElem?_map,e2]; rfl)]; erw [ix_fd e1]; erw [zaw (zg2 (by have := (hs i _ e1).2.1; (clear v1 v0 hsz hl hn; omega)) (hw.at' i _ _ e1 e2))]; ac_nf; simp only [zbm]
  rw [if_pos (by rw [List.length_map,zjZ]; exact Nat.le_of_lt (zcP (by simp; (clear v0 hsz hl; omega))))]; ac_nf
  have eh : (hdV fs wys fo more z.cps.toList (i + 1)).map D.int = (hdV fs wys fo more z.cps.toList i).map D.int ++ [.int (zqx (wys[i]'(by rw [hw.len]; exact hi)) fs[i].b (exV fs[i].b fs[i].kd (fo[i]'(by rw [hf.len]; exact hi)) more fo (hdV fs wys fo more z.cps.toList i)) (zjM z.cps.toList (zdb fs wys) i))] := by
   rw [hdV,e1,e2,e3]
   simp
  rw [eh]; exact Run.ok ⟨_,rfl,_,_,_,rfl,rfl⟩
 ·rintro _ m' ⟨ρ,rfl,x,y,w,rfl,rfl⟩; rw [Nat.zero_add,zfh,List.length_map,List.length_range,zbT hw]; ac_nf; exact Run.ok ⟨rfl,rfl⟩
open PySem PyProof.Rows L2 Mth
section
variable {m : Sto}
theorem zqd (xs : List D) : zhW "tuple" (.tup xs) m = .ok (.bl true) m := rfl
theorem isi_ti (a : Int) : zhW "tuple" (.int a) m = .ok (.bl false) m := rfl
theorem isi_ii (a : Int) : zhW "int" (.int a) m = .ok (.bl true) m := rfl
theorem isi_bi (a : Int) : zhW "bool" (.int a) m = .ok (.bl false) m := rfl
theorem isi_si (a : Int) : zhW "str" (.int a) m = .ok (.bl false) m := rfl
theorem is_ni (a : Int) : isD (.int a) .non m = .ok (.bl false) m := rfl
end
theorem zoT {n : Nat} {a : Int} {m : Sto} : Run (zaU (n + 1) [.int a,.int a] m) fun x m' => x = .bl true /\ m' = m := by
 rw [zaU]
 unfold zcI; erw [isi_ti]; erw [is_ni]; erw [isi_si]; erw [isi_ii]; erw [isi_bi]; ac_nf; exact Run.ok ⟨by simp,rfl⟩
theorem lift {τ : Type} (enc : τ -> D) (P : Nat -> τ -> Prop) : ∀ (xs : List D) (k : Nat),(∀ i x,xs[i]? = some x -> ∃ t,x = enc t /\ P (k + i) t) -> ∃ l : List τ,xs = l.map enc /\ ∀ i t,l[i]? = some t -> P (k + i) t
 | [],k,_ => ⟨[],rfl,fun i t h => by simp at h⟩
 | x :: xs,k,h => by
  obtain ⟨t,rfl,ht⟩ := h 0 x rfl
  obtain ⟨l,rfl,hl⟩ := lift enc P xs (k + 1) fun i x hx => by
   rw [show k + 1 + i = k + (i + 1) by omega]
   exact h (i + 1) x (by simpa using hx)
  refine ⟨t :: l,rfl,fun i u hu => ?_⟩
  cases i with
  | zero => simp at hu; subst hu; exact ht
  | succ i =>
   rw [show k + (i + 1) = k + 1 + i by omega]
   exact hl i u (by simpa using hu)
open PySem L2
theorem str_0 {m : Sto} : strF [.int 0] m = .ok (.str ⟨#[48]⟩) m := rfl
theorem str_1 {m : Sto} : strF [.int 1] m = .ok (.str ⟨#[49]⟩) m := rfl
theorem zg4 {fs : List Fd} {wys : List Wy} (hs : zqt fs) (hw : WyOk fs wys) : ∀ k,k <= fs.length -> zg5 (zdb fs wys) k <= 40 * k
 | 0,_ => by simp [zg5]
 | k + 1,h => by
  have e1 := List.getElem?_eq_getElem (show k < fs.length by omega)
  have e2 := List.getElem?_eq_getElem (show k < wys.length by rw [hw.len]; omega)
  rw [zfk (zg0 e1 e2)]
  have := zg4 hs hw k (by omega)
  have h2 := Wy.w_le (hw.at' k _ _ e1 e2)
  have h3 := (hs k _ e1).2.1
  omega
theorem zrd {m : Sto} : zkC (.int 10) (.int 18) m = .ok (.int 1000000000000000000) m := by
 rw [zfu]
 have e : zrb (.int 10) (.int 18) m = if (0 : Int) <= 18 /\ (18 : Int) <= 1000000 /\ (10 : Int).natAbs < 2 ^ 64 then .ok (.int ((10 : Int) ^ (18 : Int).toNat)) m else .bad := rfl
 rw [e,if_pos (by decide)]
 rfl
theorem add_s {a b : Str} {m : Sto} (h : a.length + b.length <= sizeLine) : zbm (.str a) (.str b) m = .ok (.str (a ++ b)) m := if_pos h
open PySem L2
def dig (n : Int) (k : Nat) : Nat := if n / 2 ^ k % 2 = 1 then 49 else 48
def dgs (n : Int) : Nat -> List Nat
 | 0 => []
 | k + 1 => dig n k :: dgs n k
theorem zaI (n : Int) : ∀ k,(dgs n k).length = k
 | 0 => rfl
 | k + 1 => by rw [dgs,List.length_cons,zaI n k]
theorem zdy (n : Int) : ∀ k,Bin (dgs n k)
 | 0 => fun c h => by simp [dgs] at h
 | k + 1 => fun c h => by
  rw [dgs,List.mem_cons] at h
  rcases h with rfl | h
  ·unfold dig; split <;> simp
  ·exact zdy n k c h
theorem zfm {a b : Str} (h : a.cps.toList = b.cps.toList) : a = b := by
 cases a; cases b
 congr 1
 exact Array.ext' h
theorem zd6 {x : Int} {w : Nat} {m : Sto} (hw : w <= 40) : Run (zbD [.int x,.int w] m) fun a m' => a = .str ⟨(dgs x w).toArray⟩ /\ m' = m := by
 unfold zbD ziV; erw [zfr (by (clear hw; omega)) (by omega),Int.toNat_natCast]; ac_nf; refine Run.bind (za2 (fun k ρ m' => ∃ (x3 : Option D),ρ = [some (.int (x / 2 ^ k)),some (.int w),some (.str ⟨(dgs x k).toArray⟩),x3] /\ m' = m) (zc9 0 w) 0 ⟨none,by rw [Int.pow_zero,Int.ediv_one]; rfl,rfl⟩ ?_) ?_
 ·rintro i d ρ m' hd ⟨x3,rfl,rfl⟩
  have hi : i < w := by
   have := (List.getElem?_eq_some_iff.mp hd).1
   rw [zaX] at this
   exact this
  rw [Nat.zero_add]
  have hdiv : x / 2 ^ i / 2 = x / 2 ^ (i + 1) := by rw [Int.ediv_ediv_of_nonneg (Int.le_of_lt (p2 i)),Int.pow_succ]
  have fin : ∀ (c : Nat),c = dig x i -> Run ((zbm (.str ⟨#[c]⟩) (.str ⟨(dgs x i).toArray⟩) m').bind fun a m => (zhM (.int (x / 2 ^ i)) (.int 2) m).bind fun b m => Res.ok (Fl.nx [some b,some (.int w),some a,some d]) m) fun fl m2 => ∃ ρ2,fl = Fl.nx ρ2 /\ ∃ (x3 : Option D),ρ2 = [some (.int (x / 2 ^ (i + 1))),some (.int w),some (.str ⟨(dgs x (i + 1)).toArray⟩),x3] /\ m2 = m' := by
   intro c hcc
   have h1 : (⟨(dgs x i).toArray⟩ : Str).length = i := by show (dgs x i).toArray.size = i; rw [List.size_toArray,zaI]
   have h2 : (⟨#[c]⟩ : Str).length = 1 := rfl
   rw [add_s (by rw [h1,h2]; exact Nat.le_of_lt (zcP (by (clear h2 h1 hcc hdiv; omega))))]; erw [zsc (by decide)]; erw [hdiv]
   have e : (⟨#[c]⟩ : Str) ++ ⟨(dgs x i).toArray⟩ = ⟨(dgs x (i + 1)).toArray⟩ := by
    refine zfm ?_
    rw [PySem.W.KT.app_list,dgs,hcc]
    simp
   rw [e]; exact Run.ok ⟨_,rfl,_,rfl,rfl⟩
  erw [zco (by decide)]; ac_nf
  rcases (show x / 2 ^ i % 2 = 0 ∨ x / 2 ^ i % 2 = 1 by (clear hdiv hi hw; omega)) with h | h
  ·rw [h,str_0]; ac_nf
   exact fin 48 (by unfold dig; rw [h]; rfl)
  ·rw [h,str_1]; ac_nf
   exact fin 49 (by unfold dig; rw [h]; rfl)
 ·rintro _ m' ⟨ρ,rfl,x3,rfl,rfl⟩; erw [Nat.zero_add,zaX]; ac_nf; exact Run.ok ⟨rfl,rfl⟩
def pcK (fs : List Fd) (wys : List Wy) (hd : List Int) : Nat -> List Nat
 | 0 => []
 | k + 1 => pcK fs wys hd k ++ match fs[k]?,wys[k]?,hd[k]? with
  | some f,some w,some v => dgs (v % 2 ^ w.w f.b) (w.w f.b)
  | _,_,_ => []
theorem zfw {fs : List Fd} {wys : List Wy} {hd : List Int} (hw : WyOk fs wys) (hh : HdOk fs hd) : ∀ k,k <= fs.length -> (pcK fs wys hd k).length = zg5 (zdb fs wys) k
 | 0,_ => by simp [pcK,zg5]
 | k + 1,h => by
  have e1 := List.getElem?_eq_getElem (show k < fs.length by omega)
  have e2 := List.getElem?_eq_getElem (show k < wys.length by rw [hw.len]; omega)
  have e3 := List.getElem?_eq_getElem (show k < hd.length by rw [hh.len]; omega)
  rw [pcK,e1,e2,e3,List.length_append,zfw hw hh k (by omega),zfk (zg0 e1 e2)]; simp only [zaI]
theorem zmV {fs : List Fd} {wys : List Wy} {hd : List Int} : ∀ k,Bin (pcK fs wys hd k)
 | 0 => fun c h => by simp [pcK] at h
 | k + 1 => fun c h => by
  rw [pcK] at h
  rcases List.mem_append.mp h with h | h
  ·exact zmV k c h
  ·split at h
   ·exact zdy _ _ c h
   ·simp at h
open PySem PyProof.Rows L2 Mth
def pc1 (fs : List Fd) (wys : List Wy) (hd : List Int) (k : Nat) : List Nat := match fs[k]?,wys[k]?,hd[k]? with
 | some f,some w,some v => dgs (v % 2 ^ w.w f.b) (w.w f.b)
 | _,_,_ => []
theorem zjl {τ : Type} (f : τ -> Bool) : ∀ l : List τ,zlX (l.map fun t => D.bl (f t)) = some (l.map f)
 | [] => rfl
 | a :: r => by simp only [List.map_cons,zlX,zjl f r]; rfl
open PySem L2
theorem max_i (a b : Int) {m : Sto} : zhH [.int a,.int b] m = .ok (.int (if b > a then b else a)) m := rfl
open PySem L2
theorem zir (l : List Nat) : ∀ a : Int,l.foldl (fun a c => a * 2 + if c = 49 then 1 else 0) a = a * 2 ^ l.length + zdq l := by
 induction l with
 | nil => intro a; simp [zdq]
 | cons c l ih =>
  intro a
  rw [List.foldl_cons,ih]
  have e : zdq (c :: l) = (if c = 49 then 1 else 0) * 2 ^ l.length + zdq l := by
   unfold zdq; rw [List.foldl_cons,ih]; simp only [Int.zero_mul,Int.zero_add]
   rfl
  rw [e,List.length_cons,Int.pow_succ]; generalize (2 : Int) ^ l.length = B; generalize zdq l = C
  split
  ·rw [Int.add_mul,Int.mul_assoc,Int.mul_comm 2 B,Int.add_assoc]
  ·rw [Int.add_zero,Int.mul_assoc,Int.mul_comm 2 B,Int.zero_mul,Int.zero_add]
theorem znh (c : Nat) (l : List Nat) : zdq (c :: l) = (if c = 49 then 1 else 0) * 2 ^ l.length + zdq l := by
 have := zir (c :: l) 0
 unfold zdq; rw [List.foldl_cons,zir]; simp only [Int.zero_mul,Int.zero_add]
 rfl
theorem zrS (n : Int) (k : Nat) : n % 2 ^ (k + 1) = (n / 2 ^ k % 2) * 2 ^ k + n % 2 ^ k := by
 have hB := p2 k
 rw [Int.pow_succ]; generalize (2 : Int) ^ k = B at hB
 have h1 := Int.emod_add_mul_ediv n B
 have h2 := Int.emod_add_mul_ediv (n / B) 2
 have h3 := Int.emod_nonneg n (b := B) (by (clear h2 h1; omega))
 have h4 := Int.emod_lt_of_pos n hB
 have h5 := Int.emod_nonneg (n / B) (b := 2) (by (clear h4 h3 h2 h1 hB; omega))
 have h6 := Int.emod_lt_of_pos (n / B) (b := 2) (by (clear h5 h4 h3 h2 h1 hB; omega))
 generalize hs : n / B % 2 = s at *; generalize hr : n % B = r at *; generalize n / B / 2 = q' at *
 have e : n = s * B + r + B * 2 * q' := by
  rw [<- h2] at h1
  rw [<- h1,Int.mul_add,Int.mul_comm B s,<- Int.mul_assoc]
  (clear h2 h1 h4 h3 hr h6 h5 hs hB; omega)
 rw [e,Int.add_mul_emod_self_left]
 apply Int.emod_eq_of_lt
 ·have := Int.mul_nonneg h5 (Int.le_of_lt hB); (clear e h2 h4 h1 hr h6 h5 hs hB; omega)
 ·rcases (show s = 0 ∨ s = 1 by (clear e h2 h4 h3 h1 hr hs hB; omega)) with rfl | rfl
  ·(clear e h2 h6 h5 hs h1 hr hB; omega)
  ·(clear e h2 h6 h5 hs h3 h1 hr hB; omega)
theorem zff (n : Int) : ∀ w,zdq (dgs n w) = n % 2 ^ w
 | 0 => by simp [dgs,zdq,Int.emod_one]
 | k + 1 => by
  rw [dgs,znh,zaI,zff n k,zrS]
  congr 2
  have h5 := Int.emod_nonneg (n / 2 ^ k) (b := 2) (by omega)
  have h6 := Int.emod_lt_of_pos (n / 2 ^ k) (b := 2) (by (clear h5; omega))
  unfold dig
  by_cases h : n / 2 ^ k % 2 = 1
  ·rw [if_pos h,if_pos rfl,h]
  ·rw [if_neg h,if_neg (by decide)]
   (clear h6 h5; omega)
theorem zmU (fs : List Fd) (wys : List Wy) (hd : List Int) {k : Nat} : ∀ N,k < N -> ∃ t,pcK fs wys hd N = pcK fs wys hd k ++ (pc1 fs wys hd k ++ t)
 | 0,h => by omega
 | N + 1,h => by
  have e : ∀ j,pcK fs wys hd (j + 1) = pcK fs wys hd j ++ pc1 fs wys hd j := fun j => by
   rw [pcK]
   congr 1
  rcases Nat.lt_or_ge k N with hk | hk
  ·obtain ⟨t,ht⟩ := zmU fs wys hd N hk
   exact ⟨t ++ pc1 fs wys hd N,by rw [e,ht]; simp only [List.append_assoc]⟩
  ·have : k = N := by omega
   subst this
   exact ⟨[],by rw [e,List.append_nil]⟩
theorem zrJ {fs : List Fd} {wys : List Wy} {hd : List Int} (hw : WyOk fs wys) (hh : HdOk fs hd) {k : Nat} {f : Fd} {w : Wy} {v : Int} (e1 : fs[k]? = some f) (e2 : wys[k]? = some w) (e3 : hd[k]? = some v) :
  zjM (pcK fs wys hd fs.length) (zdb fs wys) k = v % 2 ^ w.w f.b := by
 have hk : k < fs.length := (List.getElem?_eq_some_iff.mp e1).1
 obtain ⟨t,ht⟩ := zmU fs wys hd fs.length hk
 unfold zjM
 have e4 : (zdb fs wys).getD k 0 = w.w f.b := by rw [List.getD_eq_getElem?_getD,zg0 e1 e2]; rfl
 have e5 : pc1 fs wys hd k = dgs (v % 2 ^ w.w f.b) (w.w f.b) := by simp only [pc1,e1,e2,e3]
 rw [ht,e4,e5,<- zfw hw hh k (by (clear e4; omega)),List.drop_append_of_le_length (Nat.le_refl _),List.drop_length,List.nil_append]
 have e6 : List.take (w.w f.b) (dgs (v % 2 ^ w.w f.b) (w.w f.b) ++ t) = dgs (v % 2 ^ w.w f.b) (w.w f.b) := by
  rw [List.take_append_of_le_length (by rw [zaI]; exact Nat.le_refl _),List.take_of_length_le (by rw [zaI]; exact Nat.le_refl _)]
 rw [e6,zff,Int.emod_emod]
section
variable {m : Sto}
theorem is_nn : isD .non .non m = .ok (.bl true) m := rfl
theorem isnt_nn : zeX .non .non m = .ok (.bl false) m := rfl
end
theorem zoI {fs : List Fd} {n a b : Int} {wys : List Wy} {m : Sto} (hs : zqt fs) (hn : fs.length <= 12) (hw : WyOk fs wys) : zem [shD fs n,fmD a b wys] m = .ok (.int ((zdb fs wys).sum : Nat)) m := by
 apply zaw
 unfold zem zkM; erw [zaw (zgq (by omega) hw.len)]; ac_nf
 have e : ((zdb fs wys).map fun k : Nat => D.int k) = ((zdb fs wys).map fun k : Nat => (k : Int)).map D.int := by rw [List.map_map]; rfl
 rw [e]; simp only [zqE,lOf,Option.bind_some,zcb]
 have hok : ∀ x,x ∈ ((zdb fs wys).map fun k : Nat => (k : Int)) -> 0 <= x /\ x <= 2 ^ 50 := by
  intro x hx
  simp only [List.mem_map] at hx
  obtain ⟨k,hk,rfl⟩ := hx
  obtain ⟨i,hi⟩ := List.mem_iff_getElem?.mp hk
  have hil : i < fs.length := by have := (List.getElem?_eq_some_iff.mp hi).1; rw [zbT hw] at this; exact this
  have e1 := List.getElem?_eq_getElem hil
  have e2 := List.getElem?_eq_getElem (show i < wys.length by rw [hw.len]; exact hil)
  rw [zg0 e1 e2] at hi
  cases hi
  have := Wy.w_le (hw.at' i _ _ e1 e2)
  have := (hs i _ e1).2.1
  (clear hn; omega)
 rw [if_pos ⟨hok,by rw [List.length_map,zbT hw]; omega⟩]; ac_nf
 refine Run.ok ⟨?_,rfl⟩
 congr 1
 generalize zdb fs wys = l
 induction l with
 | nil => rfl
 | cons x l ih => simp only [List.map_cons,List.sum_cons,ih]; (clear ih hn; omega)
theorem ix_sh {fs : List Fd} {n : Int} {m : Sto} : ixD (shD fs n) (.int 0) m = .ok (.tup (fs.map Fd.e)) m := ix_t0 _ _
open PySem L2
theorem ne_lst (ns ms : List Int) {m : Sto} : neD (.lst (ns.map D.int)) (.lst (ms.map D.int)) m = .ok (.bl (!decide (ns = ms))) m := by
 simp only [neD,rs,zn7]
theorem isi_tn {m : Sto} : zhW "tuple" .non m = .ok (.bl false) m := rfl
theorem zcp {m l : Sto} {r : Nat} {o : MO} (h : m[r]? = some o) : (m ++ l)[r]? = some o := by
 rw [List.getElem?_append_left (List.getElem?_eq_some_iff.mp h).1]; exact h
theorem zpS {xs : List D} {m : Sto} (h : xs.length <= 1000) : zbG xs m = .ok (.tup xs) m := if_pos (Nat.le_trans h (by decide))
theorem cut_to {τ : Type} (xs : List τ) (k : Nat) : zoh xs none (some (k : Int)) = xs.take k := by
 unfold zoh; rw [HT.sIx_nat,HT.sIx_none,List.drop_zero,Nat.sub_zero]
 rcases Nat.le_total k xs.length with h | h
 ·rw [Nat.min_eq_left h]
 ·rw [Nat.min_eq_right h,List.take_length,List.take_of_length_le h]
theorem mul_t {d : D} {n : Int} {m : Sto} (h : 1 <= n /\ n <= 1000) : zdh (.tup [d]) (.int n) m = .ok (.tup (List.replicate n.toNat d)) m := by rw [zfG]; exact if_pos h
open PySem L2
def kGI3 (ρ : En) : Unit -> Sto -> Res En := fun _ m => .ok ρ m
def kGI2 (ρ : En) (d x : D) : D -> Sto -> Res En := fun y m => (putL x y d m).bind (kGI3 ρ)
def kGI1 (fi : EV) (ρ : En) (d : D) : D -> Sto -> Res En := fun x m => (fi ρ m).bind (kGI2 ρ d x)
section
variable {m : Sto} {ρ : En} {d x y : D} {fo fi : EV}
theorem gI_at : gI fo fi d ρ m = (fo ρ m).bind (kGI1 fi ρ d) := rfl
theorem znC : kGI1 fi ρ d x m = (fi ρ m).bind (kGI2 ρ d x) := rfl
theorem znB : kGI2 ρ d x y m = (putL x y d m).bind (kGI3 ρ) := rfl
theorem zr1 : kGI3 ρ () m = .ok ρ m := rfl
theorem lst_6 (a b c e f g : D) : zc0 [a,b,c,e,f,g] m = .ok (.lst [a,b,c,e,f,g]) m := if_pos (zbh (by simp))
theorem zpt (a b c e f g i : D) : zc0 [a,b,c,e,f,g,i] m = .ok (.lst [a,b,c,e,f,g,i]) m := if_pos (zbh (by simp))
end
theorem alpha {j : Nat} {m : Sto} (h : j < 26) : ixD (.str "abcdefghijklmnopqrstuvwxyz") (.int j) m = .ok (.str ⟨#[97 + j]⟩) m := by
 have hc : ∀ j,j < 26 -> (Str.ofString "abcdefghijklmnopqrstuvwxyz").cps.toList[j]? = some (97 + j) := by decide
 have e : ixD (.str "abcdefghijklmnopqrstuvwxyz") (.int j) m = if (Str.ofString "abcdefghijklmnopqrstuvwxyz").length <= sizeLine then opt ((L2.atI (Str.ofString "abcdefghijklmnopqrstuvwxyz").cps.toList j).map fun c => D.str ⟨#[c]⟩) m else .bad := rfl
 rw [e,if_pos (by decide),zhU,hc j h]
 rfl
theorem add_ss {a b : Str} {m : Sto} (h : a.length + b.length <= sizeLine) : zbm (.str a) (.str b) m = .ok (.str (a ++ b)) m := if_pos h
theorem zos {i n : Nat} {d : D} (h : (zc9 0 n)[i]? = some d) : d = .int (i : Nat) := by
 have hi := (List.getElem?_eq_some_iff.mp h).1
 rw [zaX] at hi
 simp only [zc9,List.getElem?_map,List.getElem?_range hi,Option.map_some,Option.some.injEq,Int.zero_add] at h
 exact h.symm
theorem zrG {b : Nat} {y d : Int} (h : (2 : Int) ^ b ∣ (2 * y + 1) * d) : (2 : Int) ^ b ∣ d := by
 induction b generalizing d with
 | zero => simp
 | succ b ih =>
  obtain ⟨c,hc⟩ := h
  rw [Int.pow_succ] at hc
  have h2 : d % 2 = 0 := by
   have e1 : (2 * y + 1) * d = 2 * (y * d) + d := by rw [Int.add_mul,Int.mul_assoc,Int.one_mul]
   have e2 : 2 ^ b * 2 * c = 2 * (2 ^ b * c) := by rw [Int.mul_comm (2 ^ b) 2,Int.mul_assoc]
   rw [e1,e2] at hc
   generalize y * d = u at hc; generalize (2 : Int) ^ b * c = w at hc
   omega
  obtain ⟨d',rfl⟩ : ∃ d',d = 2 * d' := ⟨d / 2,by omega⟩
  have h3 : (2 : Int) ^ b ∣ (2 * y + 1) * d' := by
   refine ⟨c,?_⟩
   have e1 : (2 * y + 1) * (2 * d') = 2 * ((2 * y + 1) * d') := by rw [Int.mul_left_comm]
   have e2 : 2 ^ b * 2 * c = 2 * (2 ^ b * c) := by rw [Int.mul_comm (2 ^ b) 2,Int.mul_assoc]
   rw [e1,e2] at hc
   omega
  obtain ⟨e,he⟩ := ih h3
  exact ⟨e,by rw [he,Int.pow_succ,Int.mul_comm (2 ^ b) 2,Int.mul_assoc]⟩
theorem zqR {b : Nat} {f y : Int} {i j : Nat} (hi : (i : Int) < 2 ^ b) (hj : (j : Int) < 2 ^ b) (h : (f + (2 * y + 1) * i) % 2 ^ b = (f + (2 * y + 1) * j) % 2 ^ b) : i = j := by
 have h1 : (2 : Int) ^ b ∣ (2 * y + 1) * ((i : Int) - j) := by
  have := Int.dvd_of_emod_eq_zero (Int.emod_eq_emod_iff_emod_sub_eq_zero.mp h)
  rw [show f + (2 * y + 1) * i - (f + (2 * y + 1) * j) = (2 * y + 1) * ((i : Int) - j) by rw [Int.mul_sub]; omega] at this
  exact this
 obtain ⟨c,hc⟩ := zrG h1
 have hb := p2 b
 generalize (2 : Int) ^ b = B at *
 rcases Int.lt_trichotomy c 0 with h0 | h0 | h0
 ·have : B * c <= B * (-1) := Int.mul_le_mul_of_nonneg_left (by omega) (by omega)
  omega
 ·subst h0; omega
 ·have : B * 1 <= B * c := Int.mul_le_mul_of_nonneg_left (by omega) (by omega)
  omega
theorem znj {τ : Type} [DecidableEq τ] (g : Nat -> τ) : ∀ n,(∀ i j,i < n -> j < n -> g i = g j -> i = j) -> ((List.range n).map g).Nodup := fun n h => by
 rw [List.Nodup,List.pairwise_map]
 have := List.nodup_range (n := n)
 refine List.Pairwise.imp_of_mem ?_ this
 intro a b ha hb hab e
 exact hab (h a b (List.mem_range.mp ha) (List.mem_range.mp hb) e)
def Kd.Ok2 (pl b : Nat) (k : Kd) : Prop := k.Ok pl b /\ ∀ row,k = .turn row -> 2 <= row.length /\ row.Nodup
theorem zsj (bs : List Bool) {m : Sto} : allF [.lst (bs.map D.bl)] m = .ok (.bl (bs.all id)) m := by
 simp only [allF,lOf,Option.bind_some]; rw [zjl (fun b => b)]
 simp
theorem slen {n : Nat} (h : n <= 100) : n <= sizeLine := Nat.le_trans h (by decide)
open PySem L2
def chB (c : Nat) : Bool := decide (97 <= c /\ c <= 122)
def nmB (x : Str) : Bool := decide (1 <= x.length /\ x.length <= 8) && x.cps.toList.all chB
structure ShG (fs : List Fd) : Prop where
 at' : ∀ (i : Nat) (f : Fd),fs[i]? = some f -> 0 < f.b /\ f.b <= 40 /\ f.kd.Ok2 i f.b
 nm : ∀ x ∈ fs.map Fd.nm,nmB x = true /\ x.length <= 8
 nd : (fs.map Fd.nm).Nodup
theorem ShG.ok {fs : List Fd} (h : ShG fs) : zqt fs := fun i f hf => let ⟨a,b,c⟩ := h.at' i f hf; ⟨a,b,c.1⟩
open PySem L2
def zj6 (q : Nat) (seed turn : Int) : List (L2.Key × D) := [(Sum.inr "own", .ob q),(Sum.inr "seed", .int seed),(Sum.inr "turn", .int turn)]
structure P3 (m0 : Sto) (p q : Nat) (c : Nat) (m : Sto) : Prop where
 ex : ∃ (own : List Int) (seed turn : Int),m[p]? = some (.dct (zj6 q seed turn)) /\ m[q]? = some (.lst (own.map D.int)) /\ p ≠ q /\ own.length <= 63 /\ (∀ a ∈ own,0 <= a) /\ 0 <= seed /\ seed < 2 ^ 62 /\ 0 <= turn /\ turn <= c
 fr : Fr p q m0 m
theorem P3.more {m0 : Sto} {p q c c' : Nat} {m : Sto} (h : P3 m0 p q c m) (k : c <= c') : P3 m0 p q c' m := by
 obtain ⟨own,s,t,h1,h2,h3,h4,h5,h6,h7,h8,h9⟩ := h.ex
 exact ⟨⟨own,s,t,h1,h2,h3,h4,h5,h6,h7,h8,by (clear h8 h7 h6 h4 h3; omega)⟩,h.fr⟩
theorem P3.re {m0 : Sto} {p q c : Nat} {m : Sto} (h : P3 m0 p q c m) : P3 m p q c m := ⟨h.ex,Fr.refl⟩
theorem P3.via {m0 : Sto} {p q c c' : Nat} {m m' : Sto} (h : P3 m0 p q c m) (h' : P3 m p q c' m') : P3 m0 p q c' m' := ⟨h'.ex,h.fr.trans h'.fr⟩
theorem P3.lt {m0 : Sto} {p q c : Nat} {m : Sto} (h : P3 m0 p q c m) : p < m.length /\ q < m.length := by
 obtain ⟨own,s,t,h1,h2,_⟩ := h.ex
 exact ⟨(List.getElem?_eq_some_iff.mp h1).1,(List.getElem?_eq_some_iff.mp h2).1⟩
theorem P3.app {m0 : Sto} {p q c : Nat} {m r : Sto} (h : P3 m0 p q c m) : P3 m0 p q c (m ++ r) := by
 obtain ⟨own,s,t,h1,h2,h3⟩ := h.ex
 exact ⟨⟨own,s,t,by rw [List.getElem?_append_left (List.getElem?_eq_some_iff.mp h1).1]; exact h1,by rw [List.getElem?_append_left (List.getElem?_eq_some_iff.mp h2).1]; exact h2,h3⟩,by rw [List.length_append]; exact Nat.le_trans h.fr.len (Nat.le_add_right _ _),fun j a b d => by rw [List.getElem?_append_left (Nat.lt_of_lt_of_le a h.fr.len)]; exact h.fr.at' j a b d⟩
theorem P3.set {m0 : Sto} {p q c r : Nat} {m : Sto} {o : MO} (h : P3 m0 p q c m) (h0 : m0.length <= r) (h1 : r ≠ p) (h2 : r ≠ q) : P3 m0 p q c (m.set r o) := by
 obtain ⟨own,s,t,g1,g2,h3⟩ := h.ex
 exact ⟨⟨own,s,t,by rw [zaF h1]; exact g1,by rw [zaF h2]; exact g2,h3⟩,by rw [List.length_set]; exact h.fr.len,fun j a b d => by rw [zaF (by omega)]; exact h.fr.at' j a b d⟩
theorem P3.kept {m : Sto} {p q c r : Nat} {m' : Sto} {o : MO} (h : P3 m p q c m') (hr : m[r]? = some o) (h1 : r ≠ p) (h2 : r ≠ q) : m'[r]? = some o := by
 rw [h.fr.at' r (List.getElem?_eq_some_iff.mp hr).1 h1 h2]; exact hr
theorem zew (q : Nat) (s t : Int) : zdc (zj6 q s t) (.inr "own") = some (.ob q) := rfl
theorem zqw (q : Nat) (s t : Int) : zdc (zj6 q s t) (.inr "seed") = some (.int s) := rfl
theorem zl7 (q : Nat) (s t : Int) : zdc (zj6 q s t) (.inr "turn") = some (.int t) := rfl
theorem zrv (q : Nat) (s t v : Int) : zgB (zj6 q s t) (.inr "turn") (.int v) = zj6 q s v := rfl
theorem zpM (q : Nat) (s t : Int) : (zj6 q s t).length < sizeLine := by show 3 < sizeLine; decide
def zrw : TV := by walk_at "#uXuPvm!vT#wQBwR9"
def ownB : SV := by walk_at "#v8wKy]vmwS"
theorem znl {q : Nat} {own : List Int} {m : Sto} (h2 : m[q]? = some (.lst (own.map D.int))) : neD (.ob q) (.lst []) m = .ok (.bl (!decide (own = []))) m := by
 have e := zn7 own []
 rw [List.map_nil] at e
 simp only [neD,rs,h2,e]
theorem znJ {q : Nat} {a : Int} {own : List Int} {m : Sto} (h2 : m[q]? = some (.lst ((a :: own).map D.int))) : ixD (.ob q) (.int 0) m = .ok (.int a) m := by
 simp only [ixD,h2]
 show opt (atI _ ((0 : Nat) : Int)) m = _
 rw [zhU]
 rfl
theorem zkE {p q : Nat} {seed turn : Int} {ρ : En} : ∀ (own : List Int) (n : Nat) (m : Sto),own.length < n -> m[p]? = some (.dct (zj6 q seed turn)) -> m[q]? = some (.lst (own.map D.int)) -> p ≠ q →
  Run (zc8 zrw ownB n (some (.ob p) :: ρ) m) fun fl m' => fl = .nx (some (.ob p) :: ρ) /\ ∃ own' : List Int,(own' = [] ∨ ∃ a r,own' = a :: r /\ a ≠ 0) /\ (∀ a ∈ own',a ∈ own) /\ own'.length <= own.length /\ m'[p]? = some (.dct (zj6 q seed turn)) /\ m'[q]? = some (.lst (own'.map D.int)) /\ Fr p q m m'
 | own,0,m,h,_,_,_ => absurd h (Nat.not_lt_zero _)
 | [],n + 1,m,h,h1,h2,h3 => by
  rw [zc8]
  have e : zrw (some (.ob p) :: ρ) m = .ok false m := by
   unfold zrw; erw [zaT h1 (zew _ _ _)]; erw [znl (own := []) h2]
   rfl
  rw [e,bind_ok,if_neg (by decide)]; exact Run.ok ⟨rfl,[],.inl rfl,fun _ h => h,Nat.le_refl _,h1,h2,Fr.refl⟩
 | a :: own,n + 1,m,h,h1,h2,h3 => by
  rw [zc8]
  have e : zrw (some (.ob p) :: ρ) m = .ok (decide (a = 0)) m := by
   unfold zrw; erw [zaT h1 (zew _ _ _)]; erw [znl h2]; rw [decide_eq_false (by simp)]; erw [zaT h1 (zew _ _ _)]; erw [znJ h2]; ac_nf
  rw [e,bind_ok]
  by_cases h0 : a = 0
  ·rw [if_pos (decide_eq_true h0)]
   have eb : ownB (some (.ob p) :: ρ) m = .ok (.nx (some (.ob p) :: ρ)) (m.set q (.lst (own.map D.int))) := by
    unfold ownB; erw [zaT h1 (zew _ _ _)]; erw [if_pos (show zfQ (.ob q) m = true by simp only [zfQ,h2])]; erw [zmL h2]; ac_nf
   rw [eb,bind_ok]
   refine Run.mono (zkE own n (m.set q (.lst (own.map D.int))) (by simp at h; omega) (by rw [zaF (Ne.symm h3)]; exact h1) (zbb h2) h3) ?_
   rintro fl m' ⟨rfl,own',g1,g2,g3,g4,g5,g6⟩
   exact ⟨rfl,own',g1,fun x hx => List.mem_cons_of_mem _ (g2 x hx),by simp; omega,g4,g5,Fr.set'.trans g6⟩
  ·rw [if_neg (by simp [h0])]; exact Run.ok ⟨rfl,a :: own,.inr ⟨a,own,rfl,h0⟩,fun _ h => h,Nat.le_refl _,h1,h2,Fr.refl⟩
theorem ziR : ziS = (zap (zdE zeq zrw ownB)
 (zap (sIf (tV (eOp neD (eOp ixD (zae 0) (eC (.str "own"))) (eFn zc0 zaj)))
 (zap (zaH (eOp zd9 (eOp ixD (eOp ixD (zae 0) (eC (.str "own"))) (eC (.int 0))) (zae 1)) (gN 2))
 (zap (zaH (eOp zhM (eOp ixD (eOp ixD (zae 0) (eC (.str "own"))) (eC (.int 0))) (zae 1)) (gI (eOp ixD (zae 0) (eC (.str "own"))) (eC (.int 0))))
 (zaE (zae 2))))
 zba)
 (zap (zgc (zae 0) (eC (.str "turn")) (eOp zbm (eOp ixD (zae 0) (eC (.str "turn"))) (eC (.int 1))))
 (zap (zaH (eOp ixD (zae 0) (eC (.str "turn"))) (gN 3))
 (zap (zaH (eOp zbm (eOp zbm (eOp ixD (zae 0) (eC (.str "seed"))) (eOp zdh (eOp zdh (zae 3) (zae 3)) (eC (.int 7919)))) (eOp zdh (zae 3) (eC (.int 104729)))) (gN 4))
 (zap (zaH (eOp zd9 (eOp zdh (zae 4) (eC (.int 48271))) (eC (.int 2305843009213693921))) (gN 4))
 (zap (zaH (eOp zd9 (eOp zdh (zae 4) (eOp zbm (eOp zd9 (zae 4) (eC (.int 1000003))) (eC (.int 69621)))) (eC (.int 2305843009213693907))) (gN 4))
 (zaE (eOp zd9 (eOp zhM (zae 4) (eC (.int 65537))) (zae 1)))))))))) := rfl
theorem zq3 {q : Nat} {a b : Int} {own : List Int} {m : Sto} (h2 : m[q]? = some (.lst ((a :: own).map D.int))) : putL (.ob q) (.int 0) (.int b) m = .ok () (m.set q (.lst ((b :: own).map D.int))) := by
 have e : ixN ((a :: own).map D.int).length 0 = some 0 := by
  unfold ixN; rw [if_pos (by decide),if_pos (by simp)]
  rfl
 simp only [putL,h2,e]
 rfl
theorem zg1 {n : Nat} {t : TV} {b : SV} {ρ : En} {m : Sto} : zdE n t b ρ m = zc8 t b n ρ m := rfl
theorem zaL {m0 : Sto} {p q c : Nat} {k : Int} {m : Sto} (hp : P3 m0 p q c m) (hc : c < 2 ^ 40) (k0 : 0 < k) (k1 : k < 2 ^ 64) :
  Run (zav [.ob p,.int k] m) fun a m' => ∃ d : Int,a = .int d /\ 0 <= d /\ d < k /\ P3 m p q (c + 1) m' := by
 obtain ⟨own,s,t,h1,h2,h3,h4,h5,h6,h7,h8,h9⟩ := hp.ex
 unfold zav; rw [ziR,run_at]
 show Run (Res.bind (zap (zdE zeq zrw ownB) _ (some (.ob p) :: [some (.int k),none,none,none]) m) ziZ) _
 rw [seq_at,zg1,bind_then]; refine Run.bind (zkE (ρ := [some (.int k),none,none,none]) own zeq m (Nat.lt_of_le_of_lt h4 (by decide)) h1 h2 h3) ?_; rintro _ m1 ⟨rfl,own',g1,g2,g3,g4,g5,g6⟩; erw [zaT g4 (zew _ _ _)]; erw [znl g5]
 rcases g1 with rfl | ⟨a,r,rfl,a0⟩
 ·rw [decide_eq_true rfl]; erw [zaT g4 (zl7 _ _ _)]; erw [zjA g4 (zpM _ _ _),zrv]
  have hp2 : (m1.set p (.dct (zj6 q s (t + 1))))[p]? = some (.dct (zj6 q s (t + 1))) := zbb g4
  have hq2 : (m1.set p (.dct (zj6 q s (t + 1))))[q]? = some (.lst (([] : List Int).map D.int)) := by rw [zaF h3]; exact g5
  have f2 : Fr p q m (m1.set p (.dct (zj6 q s (t + 1)))) := g6.trans Fr.set
  generalize hm2 : m1.set p (.dct (zj6 q s (t + 1))) = m2 at hp2 hq2 f2; erw [zaT hp2 (zl7 _ _ _)]; erw [zaT hp2 (zqw _ _ _)]; erw [zhG ⟨by omega,by omega⟩]; erw [zlH ⟨by decide,by decide⟩]; erw [zhG ⟨by omega,by omega⟩]; erw [zlH ⟨by decide,by decide⟩]; erw [zco (by decide)]; ac_nf
  rw [zco (by decide)]; erw [zlH (znq _)]; erw [zco (by decide)]; erw [zsc ⟨by decide,by decide⟩]; erw [zco k0]; ac_nf; exact Run.ok ⟨_,rfl,Int.emod_nonneg _ (by omega),Int.emod_lt_of_pos _ k0,⟨⟨[],s,t + 1,hp2,hq2,h3,by decide,fun _ h => (nomatch h),h6,h7,by omega,by omega⟩,f2⟩⟩
 ·rw [decide_eq_false (by simp)]; erw [zaT g4 (zew _ _ _)]; erw [znJ g5]; erw [zco k0]; erw [zaT g4 (zew _ _ _)]; erw [znJ g5]; erw [zsc ⟨k0,k1⟩]; ac_nf; simp only [gI_at,znC,znB,bind_ok,bind_then,eC_at,op_at,kop_at,var_0]; rw [zaT g4 (zew _ _ _)]; simp only [bind_ok,then_at,znC,znB,eC_at,bind_then]
  rw [zq3 g5]; simp only [bind_ok,then_at,zr1]; ac_nf
  have ha : 0 <= a := h5 a (g2 a (by simp))
  exact Run.ok ⟨_,rfl,Int.emod_nonneg _ (by omega),Int.emod_lt_of_pos _ k0,⟨⟨a / k :: r,s,t,by rw [zaF (Ne.symm h3)]; exact g4,zbb g5,h3,Nat.le_trans g3 h4,fun x hx => by
   rcases List.mem_cons.mp hx with rfl | hx
   ·exact Int.ediv_nonneg ha (by omega)
   ·exact h5 x (g2 x (List.mem_cons_of_mem _ hx)),h6,h7,h8,by omega⟩,g6.trans Fr.set'⟩⟩
theorem zbX {m0 : Sto} {p q c : Nat} {m : Sto} {xs : List D} (hp : P3 m0 p q c m) (hc : c < 2 ^ 40) (h0 : 0 < xs.length) (h1 : xs.length < 1000) :
  Run (zaM [.ob p,.lst xs] m) fun a m' => a ∈ xs /\ P3 m p q (c + 1) m' := by
 unfold zaM znX; ac_nf; refine Run.bind (zaL hp hc (by omega) (by omega)) ?_; rintro _ m1 ⟨d,rfl,d0,d1,hp1⟩; ac_nf
 obtain ⟨x,hx,e⟩ := zqc (m := m1) (xs := xs) d0 d1
 rw [e]; exact Run.ok ⟨hx,hp1⟩
theorem zeb {m0 : Sto} {p q c b : Nat} {m : Sto} (hp : P3 m0 p q c m) (hc : c + 2 < 2 ^ 40) (hb : b <= 40) :
  Run (za6 [.ob p,.int b] m) fun a m' => ∃ v : Int,a = .int v /\ 0 <= v /\ v < 2 ^ b /\ P3 m p q (c + 2) m' := by
 have hB := p2 b
 have hB2 := p2lt hb
 unfold za6 zfZ; erw [zef (by omega)]; erw [zef (by omega)]; ac_nf; refine Run.bind (zaL hp (by omega) hB hB2) ?_; rintro _ m1 ⟨x,rfl,x0,x1,hp1⟩; ac_nf; refine Run.bind (zaL hp1 (by omega) (by decide) (by decide)) ?_; rintro _ m2 ⟨y,rfl,y0,y1,hp2⟩; ac_nf
 obtain ⟨v,hv,e⟩ := zqc (m := m2) (xs := [.int 0,.int 1,.int (2 ^ b - 1),.int x]) y0 y1
 rw [e]; ac_nf
 have hv' : ∃ n : Int,v = .int n := by
  simp only [List.mem_cons,List.not_mem_nil,or_false] at hv
  rcases hv with rfl | rfl | rfl | rfl <;> exact ⟨_,rfl⟩
 obtain ⟨n,rfl⟩ := hv'
 rw [zef (by omega)]; erw [zco hB]; ac_nf; exact Run.ok ⟨_,rfl,Int.emod_nonneg _ (by omega),Int.emod_lt_of_pos _ hB,hp1.via hp2⟩
theorem zlF (n : Int) {m : Sto} : zlG (.int n) m = .ok (.int (-n)) m := rfl
theorem znA {m0 : Sto} {p q c : Nat} {m : Sto} {pl b : Nat} (hp : P3 m0 p q c m) (hc : c + 8 < 2 ^ 40) (h1 : 0 < b) (h2 : b <= 40) (hpl : pl <= 100) :
  Run (zcJ [.ob p,.int pl,.int b] m) fun a m' => ∃ kd : Kd,a = kd.e /\ kd.Ok2 pl b /\ P3 m p q (c + 8) m' := by
 have hB := p2 b
 have hB2 := p2lt h2
 have hB4 := p2le h2
 have hB3 : (2 : Int) <= 2 ^ b := by
  have := Nat.pow_le_pow_right (n := 2) (by decide) h1
  exact_mod_cast this
 unfold zcJ zgL; ac_nf; refine Run.bind (zaL hp (by omega) (by decide) (by decide)) ?_; rintro _ m1 ⟨w,rfl,w0,w1,hp1⟩; ac_nf
 by_cases c1 : w < 2
 ·rw [if_pos c1]; ac_nf; exact Run.ok ⟨.still,rfl,⟨trivial,fun _ h => by cases h⟩,hp1.more (by omega)⟩
 rw [if_neg c1]; ac_nf
 by_cases c2 : w < 4
 ·rw [if_pos c2]; ac_nf; refine Run.bind (zeb hp1 (by omega) h2) ?_; rintro _ m2 ⟨x,rfl,x0,x1,hp2⟩; ac_nf; exact Run.ok ⟨.step x,rfl,⟨⟨x0,x1⟩,fun _ h => by cases h⟩,(hp1.via hp2).more (by omega)⟩
 rw [if_neg c2]; ac_nf
 by_cases c3 : w = 4
 ·rw [if_pos c3]; ac_nf; refine Run.bind (zaL hp1 (by omega) (by decide) (by decide)) ?_; rintro _ m2 ⟨x,rfl,x0,x1,hp2⟩; erw [zef (by omega)]; erw [zef (by omega)]; ac_nf; refine Run.bind (zaL hp2 (by omega) hB hB2) ?_; rintro _ m3 ⟨y,rfl,y0,y1,hp3⟩; ac_nf; refine Run.bind (zaL hp3 (by omega) (by decide) (by decide)) ?_; rintro _ m4 ⟨z,rfl,z0,z1,hp4⟩
  erw [zhG ⟨by decide,by decide⟩]; ac_nf; generalize hn : (if (2 : Int) ^ b < 2 + x then (2 : Int) ^ b else 2 + x) = n
  have n0 : 2 <= n := by rw [<- hn]; split <;> omega
  have n1 : n <= 12 := by rw [<- hn]; split <;> omega
  have n2 : n <= 2 ^ b := by rw [<- hn]; split <;> omega
  clear hn
  obtain ⟨N,rfl⟩ : ∃ N : Nat,n = N := ⟨n.toNat,by omega⟩
  rw [zcN (ds := zc9 0 N) (fun d => match d with | .int i => .int ((y + (2 * z + 1) * i) % 2 ^ b) | _ => .non)]
  ·ac_nf
   refine Run.ok ⟨.turn ((List.range N).map fun i : Nat => (y + (2 * z + 1) * (i : Int)) % 2 ^ b),?_,⟨⟨?_,by simp; omega,?_⟩,fun row h => ?_⟩,(hp1.via (hp2.via (hp3.via hp4))).more (by omega)⟩
   ·simp only [Kd.e,zc9,List.map_map,Int.zero_add]; rfl
   ·intro h
    have := congrArg List.length h
    simp at this
    omega
   ·intro v hv
    simp only [List.mem_map] at hv
    obtain ⟨i,_,rfl⟩ := hv
    exact ⟨Int.emod_nonneg _ (by omega),Int.emod_lt_of_pos _ hB⟩
   ·cases h
    exact ⟨by simp; omega,znj _ _ fun i j hi hj e => zqR (by omega) (by omega) e⟩
  ·erw [zfr (by omega) (by omega)]
   rfl
  ·rw [zaX]; omega
  ·intro d hd
   simp only [zc9,List.mem_map] at hd
   obtain ⟨i,hi,rfl⟩ := hd
   refine ⟨_,rfl,?_⟩
   show eOp zd9 (eOp zbm (zae 5) (eOp zdh (zae 6) (zae 8))) (eOp zg8 (eC (.int 1)) (zae 2)) [some (.ob p),some (.int pl),some (.int b),some (.int w),some (.int N),some (.int y),some (.int (2 * z + 1)),none,some (.int (0 + (i : Nat)))] m4 = _
   erw [zhG ⟨by omega,by omega⟩]; erw [zef (by omega)]; erw [zco hB]
 rw [if_neg c3]; ac_nf
 by_cases c4 : w < 7 /\ 0 < pl
 ·rw [if_pos c4.1]; rw [decide_eq_true (show (0 : Int) < (pl : Nat) by omega)]; erw [zlF]; erw [zlF]; ac_nf; refine Run.bind (zaL hp1 (by omega) (by decide) (by decide)) ?_; rintro _ m2 ⟨x,rfl,x0,x1,hp2⟩; erw [zpt]; ac_nf; refine Run.bind (zaL hp2 (by omega) (by omega) (by omega)) ?_; rintro _ m3 ⟨y,rfl,y0,y1,hp3⟩; ac_nf
  refine Run.bind (zbX hp3 (by omega) (by simp) (by simp)) ?_; rintro v m4 ⟨hv,hp4⟩; ac_nf
  obtain ⟨i,rfl⟩ : ∃ i : Nat,y = i := ⟨y.toNat,by omega⟩
  have hv' : ∃ t : Int,v = .int t /\ -99 <= t /\ t <= 99 := by
   simp only [List.mem_cons,List.not_mem_nil,or_false] at hv
   rcases hv with rfl | rfl | rfl | rfl | rfl | rfl | rfl <;> exact ⟨_,rfl,by omega,by omega⟩
  obtain ⟨t,rfl,t0,t1⟩ := hv'
  exact Run.ok ⟨.wth i t,rfl,⟨⟨by omega,t0,t1⟩,fun _ h => by cases h⟩,(hp1.via (hp2.via (hp3.via hp4))).more (by omega)⟩
 ·have hd : Run (Res.bind (zap zba (zaE (eFn zbG (zac (eC (.str "drawn")) zaj))) [some (.ob p),some (.int pl),some (.int b),some (.int w),none,none,none,none] m1) ziZ) fun a m' => ∃ kd : Kd,a = kd.e /\ kd.Ok2 pl b /\ P3 m p q (c + 8) m' := by
   ac_nf; exact Run.ok ⟨.drawn,rfl,⟨trivial,fun _ h => by cases h⟩,hp1.more (by omega)⟩
  by_cases c5 : w < 7
  ·rw [if_pos c5]; rw [decide_eq_false (show ¬ (0 : Int) < (pl : Nat) by omega)]; ac_nf; exact Run.ok ⟨.drawn,rfl,⟨trivial,fun _ h => by cases h⟩,hp1.more (by omega)⟩
  ·rw [if_neg c5]; ac_nf; exact Run.ok ⟨.drawn,rfl,⟨trivial,fun _ h => by cases h⟩,hp1.more (by omega)⟩
theorem zkw (c : Nat) : ∀ (k : Nat) (a : Array Nat),((List.replicate k #[c]).foldl (· ++ ·) a).toList = a.toList ++ List.replicate k c
 | 0,a => by simp
 | k + 1,a => by
  rw [List.replicate_succ,List.foldl_cons,zkw c k]
  simp [List.replicate_succ]
theorem mul_one {c : Nat} {n : Nat} (h : 1 <= n) : (Txt.mul ⟨#[c]⟩ (n : Nat)).cps.toList = List.replicate n c := by
 unfold Txt.mul
 rw [if_neg (by omega)]
 split
 ·rename_i h2
  have : n = 1 := by
   rw [Bool.or_eq_true] at h2
   rcases h2 with h2 | h2
   ·have := eq_of_beq h2
    omega
   ·exact absurd (eq_of_beq h2) (by show ¬ 1 = 0; decide)
  subst this
  rfl
 ·show ((List.replicate (n : Int).toNat #[c]).foldl (· ++ ·) #[]).toList = _
  rw [zkw]
  simp
theorem nm_mul {j n : Nat} (hj : j < 26) (h1 : 1 <= n) (h2 : n <= 8) : nmB (Txt.mul ⟨#[97 + j]⟩ (n : Nat)) = true /\ (Txt.mul ⟨#[97 + j]⟩ (n : Nat)).length <= 8 /\ (Txt.mul ⟨#[97 + j]⟩ (n : Nat)).cps.toList.head? = some (97 + j) := by
 have e := mul_one (c := 97 + j) h1
 have hl : (Txt.mul ⟨#[97 + j]⟩ (n : Nat)).length = n := by
  show (Txt.mul ⟨#[97 + j]⟩ (n : Nat)).cps.size = n
  rw [<- Array.length_toList,e,List.length_replicate]
 refine ⟨?_,by omega,?_⟩
 ·unfold nmB; rw [hl,e,decide_eq_true ⟨h1,h2⟩,Bool.true_and,List.all_eq_true]
  intro x hx
  have := (List.mem_replicate.mp hx).2
  subst this
  simp only [chB,decide_eq_true_eq]
  omega
 ·rw [e]
  cases n with
  | zero => omega
  | succ n => rfl
theorem lst_8 (a b c e f g i j : D) {m : Sto} : zc0 [a,b,c,e,f,g,i,j] m = .ok (.lst [a,b,c,e,f,g,i,j]) m := if_pos (zbh (by simp))
theorem zlg {m0 : Sto} {p q c most : Nat} {m : Sto} (hp : P3 m0 p q c m) (hc : c + 200 < 2 ^ 40) (hm0 : 0 < most) (hm1 : most <= 12) :
  Run (zb8 [.ob p,.int most] m) fun a m' => ∃ (fs : List Fd) (n : Int),a = shD fs n /\ 0 < n /\ n <= 1000000 /\ 0 < fs.length /\ fs.length <= 12 /\ ShG fs /\ P3 m p q (c + 200) m' := by
 unfold zb8 zf0; ac_nf; refine Run.bind (zaL hp (by omega) (by decide) (by decide)) ?_; rintro _ m1 ⟨f,rfl,f0,f1,hp1⟩
 obtain ⟨f,rfl⟩ : ∃ f' : Nat,f = f' := ⟨f.toNat,by omega⟩
 erw [zrL]; ac_nf
 have hpA : P3 m p q (c + 1) (m1 ++ [.lst []]) := hp1.app
 have hr : (m1 ++ [MO.lst []])[m1.length]? = some (.lst []) := by simp
 have hrp : m1.length ≠ p := Nat.ne_of_gt hp1.lt.1
 have hrq : m1.length ≠ q := Nat.ne_of_gt hp1.lt.2
 have hr0 : m.length <= m1.length := hp1.fr.len
 generalize m1.length = r at hr hrp hrq hr0 ⊢; generalize m1 ++ [MO.lst []] = mA at hpA hr ⊢; refine Run.bind (zaL hpA (by omega) (by omega) (by omega)) ?_; rintro _ m2 ⟨k,rfl,k0,k1,hp2⟩
 obtain ⟨k,rfl⟩ : ∃ k' : Nat,k = k' := ⟨k.toNat,by omega⟩
 have hr2 := hp2.kept hr hrp hrq
 have hpB := hpA.via hp2
 erw [zfr (by omega) (by omega)]; ac_nf; refine Run.bind (za2 (fun i ρ m' => ∃ (fs : List Fd) (x5 x6 x7 : Option D),ρ = [some (.ob p),some (.int most),some (.str "abcdefghijklmnopqrstuvwxyz"),some (.int f),some (.ob r),x5,x6,x7] /\ m'[r]? = some (.lst (fs.map Fd.e)) /\ fs.length = i /\ (∀ (j : Nat) (g : Fd),fs[j]? = some g -> (0 < g.b /\ g.b <= 40 /\ g.kd.Ok2 j g.b) /\ nmB g.nm = true /\ g.nm.length <= 8 /\ g.nm.cps.toList.head? = some (97 + (f + 3 * j) % 26)) /\ P3 m p q (c + 2 + 9 * i) m') (zc9 0 (1 + (k : Int)).toNat) 0 ⟨[],none,none,none,rfl,hr2,rfl,fun j g h => by simp at h,hpB⟩ ?_) ?_
 ·rintro i d ρ m3 hd ⟨fs,x5,x6,x7,rfl,g1,g2,g3,g4⟩
  have hi := (List.getElem?_eq_some_iff.mp hd).1
  rw [zaX] at hi
  have := zos hd
  subst this
  rw [Nat.zero_add] at g2 g4 ⊢
  erw [lst_8]; ac_nf; refine Run.bind (zbX g4 (by omega) (by simp) (by simp)) ?_; rintro v m4 ⟨hv,hp4⟩
  have hv' : ∃ b : Nat,v = .int b /\ 0 < b /\ b <= 40 := by
   simp only [List.mem_cons,List.not_mem_nil,or_false] at hv
   rcases hv with rfl | rfl | rfl | rfl | rfl | rfl | rfl | rfl
   ·exact ⟨1,rfl,by decide,by decide⟩
   ·exact ⟨2,rfl,by decide,by decide⟩
   ·exact ⟨3,rfl,by decide,by decide⟩
   ·exact ⟨4,rfl,by decide,by decide⟩
   ·exact ⟨5,rfl,by decide,by decide⟩
   ·exact ⟨8,rfl,by decide,by decide⟩
   ·exact ⟨16,rfl,by decide,by decide⟩
   ·exact ⟨40,rfl,by decide,by decide⟩
  obtain ⟨b,rfl,b0,b1⟩ := hv'
  erw [zhG ⟨by decide,by decide⟩]; erw [zco (by decide)]; erw [show ((f : Int) + 3 * (i : Nat)) % 26 = (((f + 3 * i) % 26 : Nat) : Int) by push_cast; rfl,alpha (Nat.mod_lt _ (by decide))]; erw [zco (by decide)]; erw [show (1 : Int) + ((f : Int) + (i : Nat)) % 8 = ((1 + (f + i) % 8 : Nat) : Int) by push_cast; rfl,mul_s (by rfl) (by omega) (by omega)]
  ac_nf
  have g1' := hp4.kept g1 hrp hrq
  rw [if_pos (znM g1')]; ac_nf; refine Run.bind (znA hp4 (by omega) b0 b1 (by omega)) ?_; rintro _ m5 ⟨kd,rfl,hk,hp5⟩
  have g1'' := hp5.kept g1' hrp hrq
  erw [zou g1'' (by rw [List.length_map]; exact zcP (by omega))]; ac_nf
  obtain ⟨n1,n2,n3⟩ := nm_mul (j := (f + 3 * i) % 26) (n := 1 + (f + i) % 8) (Nat.mod_lt _ (by decide)) (by omega) (by omega)
  refine Run.ok ⟨_,rfl,fs ++ [⟨Txt.mul ⟨#[97 + (f + 3 * i) % 26]⟩ ((1 + (f + i) % 8 : Nat) : Int),b,kd⟩],_,_,_,rfl,?_,?_,?_,?_⟩
  ·rw [zbb g1'',List.map_append]
   rfl
  ·rw [List.length_append,g2]; rfl
  ·intro j g hg
   rcases Nat.lt_trichotomy j fs.length with hj | hj | hj
   ·rw [List.getElem?_append_left hj] at hg; exact g3 j g hg
   ·subst hj
    simp at hg
    subst hg
    exact ⟨⟨b0,b1,by rw [g2]; exact hk⟩,n1,n2,by rw [g2]; exact n3⟩
   ·rw [List.getElem?_eq_none (by simp; omega)] at hg; cases hg
  ·refine P3.set ((g4.via (hp4.via hp5)).more (by omega)) hr0 hrp hrq
 ·rintro _ m3 ⟨ρ,rfl,fs,x5,x6,x7,rfl,g1,g2,g3,g4⟩
  rw [Nat.zero_add,zaX] at g2 g4
  ac_nf; simp only [zox,g1]; erw [pow106]; erw [lst_8]; ac_nf; refine Run.bind (zbX g4 (by omega) (by simp) (by simp)) ?_; rintro v m4 ⟨hv,hp4⟩
  have hv' : ∃ n : Int,v = .int n /\ 0 < n /\ n <= 1000000 := by
   simp only [List.mem_cons,List.not_mem_nil,or_false] at hv
   rcases hv with rfl | rfl | rfl | rfl | rfl | rfl | rfl | rfl <;> exact ⟨_,rfl,by omega,by omega⟩
  obtain ⟨n,rfl,n0,n1⟩ := hv'
  ac_nf
  have hfl : fs.length <= 12 := by omega
  refine Run.ok ⟨fs,n,rfl,n0,n1,by omega,hfl,⟨fun j g h => (g3 j g h).1,fun x hx => ?_,?_⟩,(g4.via hp4).more (by omega)⟩
  ·obtain ⟨g,hg,rfl⟩ := List.mem_map.mp hx
   obtain ⟨j,hj⟩ := List.mem_iff_getElem?.mp hg
   exact ⟨(g3 j g hj).2.1,(g3 j g hj).2.2.1⟩
  ·rw [List.Nodup,List.pairwise_map,List.pairwise_iff_getElem]
   intro i j hi hj hij e
   have a1 := (g3 i fs[i] (List.getElem?_eq_getElem hi)).2.2.2
   have a2 := (g3 j fs[j] (List.getElem?_eq_getElem hj)).2.2.2
   rw [e,a2] at a1
   have := Option.some.inj a1
   omega
structure Fm where
 a : Nat
 b : Nat
 wys : List Wy
def Fm.e (f : Fm) : D := fmD f.a f.b f.wys
structure FmOk (fs : List Fd) (f : Fm) : Prop where
 a0 : 0 < f.a
 a1 : f.a <= 40
 b0 : 0 < f.b
 b1 : f.b <= 40
 wy : WyOk fs f.wys
structure Rd4 where
 skips : Nat
 gap : Nat
 late : Nat
 anew : Nat
def Rd4.e (r : Rd4) : D := .tup [.int r.skips,.int r.gap,.int r.late,.int r.anew]
structure RdOk (r : Rd4) : Prop where
 s1 : r.skips <= 39
 g0 : r.skips <= r.gap
 g1 : r.gap <= 400
 l1 : r.late <= 20
 n1 : r.anew <= 400
structure Pt where
 fs : List Fd
 n : Int
 wide : Nat
 fms : List Fm
 rd : Rd4
def Pt.e (p : Pt) : D := .tup [shD p.fs p.n,.int p.wide,.tup (p.fms.map Fm.e),p.rd.e]
structure PtOk (p : Pt) : Prop where
 n0 : 0 < p.n
 n1 : p.n <= 1000000
 f0 : 0 < p.fs.length
 f1 : p.fs.length <= 12
 sh : ShG p.fs
 w0 : 0 < p.wide
 w1 : p.wide <= 40
 fm : ∀ f ∈ p.fms,FmOk p.fs f
 fml : p.fms.length <= 12
 rd : RdOk p.rd
theorem zoA {m0 : Sto} {p q c b : Nat} {m : Sto} (hp : P3 m0 p q c m) (hc : c + 5 < 2 ^ 40) (h0 : 0 < b) (h1 : b <= 40) :
  Run (zd1 [.ob p,.int b] m) fun a m' => ∃ wy : Wy,a = wy.e /\ wy.Ok b /\ P3 m p q (c + 4) m' := by
 unfold zd1 ziM; ac_nf; refine Run.bind (zaL hp (by omega) (by decide) (by decide)) ?_; rintro _ m1 ⟨x,rfl,x0,x1,hp1⟩; ac_nf
 by_cases c1 : x < 3
 ·rw [if_pos c1]; ac_nf; exact Run.ok ⟨.keep,rfl,trivial,hp1.more (by omega)⟩
 rw [if_neg c1]; ac_nf
 by_cases c2 : x = 3
 ·rw [if_pos c2]; ac_nf; exact Run.ok ⟨.whole,rfl,trivial,hp1.more (by omega)⟩
 rw [if_neg c2]; ac_nf; refine Run.bind (zaL hp1 (by omega) (by omega) (by omega)) ?_; rintro _ m2 ⟨y,rfl,y0,y1,hp2⟩
 obtain ⟨w,hw⟩ : ∃ w : Nat,1 + y = w := ⟨(1 + y).toNat,by omega⟩
 erw [hw]; refine Run.bind (zeb hp2 (by omega) (b := w) (by omega)) ?_; rintro _ m3 ⟨v,rfl,v0,v1,hp3⟩; ac_nf; exact Run.ok ⟨.low w v,rfl,⟨by omega,by omega,v0,v1⟩,(hp1.via (hp2.via hp3)).more (by omega)⟩
theorem lst_9 (a b c e f g i j k : D) {m : Sto} : zc0 [a,b,c,e,f,g,i,j,k] m = .ok (.lst [a,b,c,e,f,g,i,j,k]) m := if_pos (slen (by simp))
theorem zn0 {m0 : Sto} {p q c : Nat} {m : Sto} {fs : List Fd} {n : Int} (hp : P3 m0 p q c m) (hc : c + 62 < 2 ^ 40) (hs : zqt fs) (hn : fs.length <= 12) :
  Run (zb9 [.ob p,shD fs n] m) fun x m' => ∃ f : Fm,x = f.e /\ FmOk fs f /\ P3 m p q (c + 62) m' := by
 unfold zb9 zgM shD; ac_nf; refine Run.bind (zjm (ds := fs.map Fd.e) (fun k m' => P3 m p q (c + 5 * k) m') (fun i d x => ∃ w : Wy,x = w.e /\ ∀ f,fs[i]? = some f -> w.Ok f.b) (by ac_nf) (by rw [List.length_map]; omega) hp.re ?_) ?_
 ·intro i d m' hd hI
  have hi : i < fs.length := by have := (List.getElem?_eq_some_iff.mp hd).1; simpa using this
  have e1 := List.getElem?_eq_getElem hi
  have hd' : d = fs[i].e := by
   rw [List.getElem?_map,e1] at hd
   simpa using hd.symm
  subst hd'
  obtain ⟨b0,b1,hk⟩ := hs i _ e1
  simp only [Fd.e]; ac_nf
  refine Run.mono (zoA hI (by omega) b0 b1) ?_
  rintro a m3 ⟨w,rfl,hw,hp3⟩
  exact ⟨⟨w,rfl,fun f hf => by rw [e1] at hf; cases hf; exact hw⟩,(hI.via hp3).more (by omega)⟩
 ·rintro xs m' ⟨hlen,hP,hI⟩; ac_nf
  rw [List.length_map] at hlen hI
  obtain ⟨l,rfl,hl⟩ := lift Wy.e (fun i w => ∀ f,fs[i]? = some f -> Wy.Ok f.b w) xs 0 fun i x hx => by
   have hi : i < fs.length := by have := (List.getElem?_eq_some_iff.mp hx).1; omega
   rw [Nat.zero_add]
   exact hP i fs[i].e x (by rw [List.getElem?_map,List.getElem?_eq_getElem hi]; rfl) hx
  rw [zpt]; ac_nf; refine Run.bind (zbX hI (by omega) (by simp) (by simp)) ?_; rintro v m2 ⟨hv,hp2⟩; erw [lst_9]; ac_nf; refine Run.bind (zbX hp2 (by omega) (by simp) (by simp)) ?_; rintro u m3 ⟨hu,hp3⟩; ac_nf
  have hv' : ∃ a : Nat,v = .int a /\ 0 < a /\ a <= 40 := by
   simp only [List.mem_cons,List.not_mem_nil,or_false] at hv
   rcases hv with rfl | rfl | rfl | rfl | rfl | rfl | rfl
   ·exact ⟨1,rfl,by decide,by decide⟩
   ·exact ⟨2,rfl,by decide,by decide⟩
   ·exact ⟨3,rfl,by decide,by decide⟩
   ·exact ⟨4,rfl,by decide,by decide⟩
   ·exact ⟨6,rfl,by decide,by decide⟩
   ·exact ⟨9,rfl,by decide,by decide⟩
   ·exact ⟨40,rfl,by decide,by decide⟩
  have hu' : ∃ a : Nat,u = .int a /\ 0 < a /\ a <= 40 := by
   simp only [List.mem_cons,List.not_mem_nil,or_false] at hu
   rcases hu with rfl | rfl | rfl | rfl | rfl | rfl | rfl | rfl | rfl
   ·exact ⟨1,rfl,by decide,by decide⟩
   ·exact ⟨2,rfl,by decide,by decide⟩
   ·exact ⟨3,rfl,by decide,by decide⟩
   ·exact ⟨4,rfl,by decide,by decide⟩
   ·exact ⟨5,rfl,by decide,by decide⟩
   ·exact ⟨6,rfl,by decide,by decide⟩
   ·exact ⟨8,rfl,by decide,by decide⟩
   ·exact ⟨12,rfl,by decide,by decide⟩
   ·exact ⟨40,rfl,by decide,by decide⟩
  obtain ⟨a,rfl,a0,a1⟩ := hv'
  obtain ⟨b,rfl,b0,b1⟩ := hu'
  refine Run.ok ⟨⟨a,b,l⟩,rfl,⟨a0,a1,b0,b1,⟨by simpa using hlen,fun i f v hf hv => ?_⟩⟩,(hI.via (hp2.via hp3)).more (by omega)⟩
  have := hl i v hv
  rw [Nat.zero_add] at this
  exact this f hf
theorem zoW {m0 : Sto} {p q c : Nat} {m : Sto} (hp : P3 m0 p q c m) (hc : c + 4 < 2 ^ 40) :
  Run (zd2 [.ob p] m) fun x m' => ∃ r : Rd4,x = r.e /\ RdOk r /\ P3 m p q (c + 4) m' := by
 unfold zd2 ziP; erw [zpt]; ac_nf; refine Run.bind (zbX hp (by omega) (by simp) (by simp)) ?_; rintro v m1 ⟨hv,hp1⟩
 have hv' : ∃ s : Nat,v = .int s /\ s <= 39 := by
  simp only [List.mem_cons,List.not_mem_nil,or_false] at hv
  rcases hv with rfl | rfl | rfl | rfl | rfl | rfl | rfl
  ·exact ⟨0,rfl,by decide⟩
  ·exact ⟨0,rfl,by decide⟩
  ·exact ⟨1,rfl,by decide⟩
  ·exact ⟨2,rfl,by decide⟩
  ·exact ⟨3,rfl,by decide⟩
  ·exact ⟨5,rfl,by decide⟩
  ·exact ⟨39,rfl,by decide⟩
 obtain ⟨s,rfl,s1⟩ := hv'
 ac_nf; refine Run.bind (zbX hp1 (by omega) (by simp) (by simp)) ?_; rintro v m2 ⟨hv,hp2⟩
 have hv' : ∃ g : Nat,v = .int g /\ g <= 361 := by
  simp only [List.mem_cons,List.not_mem_nil,or_false] at hv
  rcases hv with rfl | rfl | rfl | rfl | rfl
  ·exact ⟨0,rfl,by decide⟩
  ·exact ⟨1,rfl,by decide⟩
  ·exact ⟨4,rfl,by decide⟩
  ·exact ⟨30,rfl,by decide⟩
  ·exact ⟨361,rfl,by decide⟩
 obtain ⟨g,rfl,g1⟩ := hv'
 erw [lst_6]; ac_nf; refine Run.bind (zbX hp2 (by omega) (by simp) (by simp)) ?_; rintro v m3 ⟨hv,hp3⟩
 have hv' : ∃ l : Nat,v = .int l /\ l <= 20 := by
  simp only [List.mem_cons,List.not_mem_nil,or_false] at hv
  rcases hv with rfl | rfl | rfl | rfl | rfl | rfl
  ·exact ⟨0,rfl,by decide⟩
  ·exact ⟨0,rfl,by decide⟩
  ·exact ⟨1,rfl,by decide⟩
  ·exact ⟨2,rfl,by decide⟩
  ·exact ⟨5,rfl,by decide⟩
  ·exact ⟨20,rfl,by decide⟩
 obtain ⟨l,rfl,l1⟩ := hv'
 erw [zpt]; ac_nf; refine Run.bind (zbX hp3 (by omega) (by simp) (by simp)) ?_; rintro v m4 ⟨hv,hp4⟩
 have hv' : ∃ a : Nat,v = .int a /\ a <= 400 := by
  simp only [List.mem_cons,List.not_mem_nil,or_false] at hv
  rcases hv with rfl | rfl | rfl | rfl | rfl | rfl | rfl
  ·exact ⟨0,rfl,by decide⟩
  ·exact ⟨0,rfl,by decide⟩
  ·exact ⟨0,rfl,by decide⟩
  ·exact ⟨7,rfl,by decide⟩
  ·exact ⟨30,rfl,by decide⟩
  ·exact ⟨1,rfl,by decide⟩
  ·exact ⟨400,rfl,by decide⟩
 obtain ⟨a,rfl,a1⟩ := hv'
 erw [zpS (by simp)]; ac_nf; exact Run.ok ⟨⟨s,s + g,l,a⟩,by simp [Rd4.e],⟨s1,by show s <= s + g; omega,by show s + g <= 400; omega,l1,a1⟩,(hp1.via (hp2.via (hp3.via hp4))).more (by omega)⟩
theorem zmW {m0 : Sto} {p q c most : Nat} {m : Sto} (hp : P3 m0 p q c m) (hc : c + 1000 < 2 ^ 40) (hm0 : 0 < most) (hm1 : most <= 12) :
  Run (zcq [.ob p,.int most] m) fun x m' => ∃ pt : Pt,x = pt.e /\ PtOk pt /\ 9 <= pt.wide /\ P3 m p q (c + 1000) m' := by
 unfold zcq ziQ; ac_nf; refine Run.bind (zlg hp (by omega) hm0 hm1) ?_; rintro _ m1 ⟨fs,n,rfl,n0,n1,f0,f1,hs,hp1⟩; ac_nf
 have hk : Run (zda 1 (zl4 zll (zac (eFn zaM (zac (zae 0) (zac (eFn zc0 (zac (eC (.int 0)) (zac (eC (.int 1)) (zac (eC (.int 2)) (zac (eC (.int 3)) (zac (eC (.int 5)) (zac (eC (.int 12)) zaj))))))) zaj))) zaj)) (gN 4) zc6 (eFn zb9 (zac (zae 0) (zac (zae 2) zaj))) [some (.ob p),some (.int most),some (shD fs n),none] m1) fun xs m' => ∃ fms : List Fm,xs = fms.map Fm.e /\ (∀ f ∈ fms,FmOk fs f) /\ fms.length <= 12 /\ P3 m p q (c + 950) m' := by
  unfold zda; erw [lst_6]; ac_nf; refine Run.bind (zbX hp1 (by omega) (by simp) (by simp)) ?_; rintro v m2 ⟨hv,hp2⟩
  have hv' : ∃ k : Nat,v = .int k /\ k <= 12 := by
   simp only [List.mem_cons,List.not_mem_nil,or_false] at hv
   rcases hv with rfl | rfl | rfl | rfl | rfl | rfl
   ·exact ⟨0,rfl,by decide⟩
   ·exact ⟨1,rfl,by decide⟩
   ·exact ⟨2,rfl,by decide⟩
   ·exact ⟨3,rfl,by decide⟩
   ·exact ⟨5,rfl,by decide⟩
   ·exact ⟨12,rfl,by decide⟩
  obtain ⟨k,rfl,k1⟩ := hv'
  erw [zfr (by omega) (by omega)]; erw [if_pos (by rw [zaX]; omega)]
  refine Run.mono (zhS (g := gN 4) (ρ := [some (.ob p),some (.int most),some (shD fs n),none] ++ List.replicate 1 none) (fun k m' => P3 m p q (c + 201 + 62 * k) m') (fun i d x => ∃ f : Fm,x = f.e /\ FmOk fs f) (zc9 0 (k : Int).toNat) 0 (hp1.via hp2) ?_) ?_
  ·intro i d m' hd hI
   have hi := (List.getElem?_eq_some_iff.mp hd).1
   rw [zaX] at hi
   rw [Nat.zero_add] at hI
   show Run (Res.bind (gN 4 d [some (.ob p),some (.int most),some (shD fs n),none,none] m') _) _
   ac_nf
   refine Run.mono (zn0 hI (by omega) hs.ok f1) ?_
   rintro a m3 ⟨f,rfl,hf,hp3⟩
   exact ⟨⟨f,rfl,hf⟩,(hI.via hp3).more (by omega)⟩
  ·rintro xs m' ⟨hlen,hP,hI⟩
   rw [zaX] at hlen hI
   obtain ⟨l,rfl,hl⟩ := lift Fm.e (fun i f => FmOk fs f) xs 0 fun i x hx => by
    have hi : i < k := by have := (List.getElem?_eq_some_iff.mp hx).1; omega
    exact hP i (.int (i : Nat)) x (by simp [zc9,hi]) hx
   refine ⟨l,rfl,fun f hf => ?_,by rw [List.length_map] at hlen; omega,hI.more (by omega)⟩
   obtain ⟨i,hi⟩ := List.mem_iff_getElem?.mp hf
   exact hl i f hi
 refine Run.bind hk ?_; rintro _ m2 ⟨fms,rfl,hfm,hfl,hp2⟩; ac_nf; refine Run.bind (zbX hp2 (by omega) (by simp) (by simp)) ?_; rintro v m3 ⟨hv,hp3⟩
 have hv' : ∃ w : Nat,v = .int w /\ 9 <= w /\ w <= 40 := by
  simp only [List.mem_cons,List.not_mem_nil,or_false] at hv
  rcases hv with rfl | rfl | rfl | rfl
  ·exact ⟨9,rfl,by decide,by decide⟩
  ·exact ⟨12,rfl,by decide,by decide⟩
  ·exact ⟨16,rfl,by decide,by decide⟩
  ·exact ⟨40,rfl,by decide,by decide⟩
 obtain ⟨w,rfl,w0,w1⟩ := hv'
 ac_nf; refine Run.bind (zoW hp3 (by omega)) ?_; rintro _ m4 ⟨r,rfl,hr,hp4⟩; erw [zpS (by simp)]; ac_nf; exact Run.ok ⟨⟨fs,n,w,fms,r⟩,rfl,⟨n0,n1,f0,f1,hs,by show 0 < w; omega,w1,hfm,hfl,hr⟩,w0,(hp2.via (hp3.via hp4)).more (by omega)⟩
theorem zph {m0 : Sto} {p q c most : Nat} {m : Sto} (hp : P3 m0 p q c m) (hc : c + 1000 < 2 ^ 40) (hm0 : 0 < most) (hm1 : most <= 12) :
  Run (zcq [.ob p,.int most] m) fun x m' => ∃ pt : Pt,x = pt.e /\ PtOk pt /\ P3 m p q (c + 1000) m' := Run.mono (zmW hp hc hm0 hm1) fun _ _ ⟨pt,h1,h2,_,h3⟩ => ⟨pt,h1,h2,h3⟩
theorem zfv {m : Sto} : zkC (.int 10) (.int 60) m = .ok (.int (10 ^ 60)) m := by
 rw [zfu]
 have e : zrb (.int 10) (.int 60) m = if (0 : Int) <= 60 /\ (60 : Int) <= 1000000 /\ (10 : Int).natAbs < 2 ^ 64 then .ok (.int ((10 : Int) ^ (60 : Int).toNat)) m else .bad := rfl
 rw [e,if_pos (by decide)]
 rfl
theorem zrc {m : Sto} : zkC (.int 10) (.int 30) m = .ok (.int 1000000000000000000000000000000) m := by
 rw [zfu]
 have e : zrb (.int 10) (.int 30) m = if (0 : Int) <= 30 /\ (30 : Int) <= 1000000 /\ (10 : Int).natAbs < 2 ^ 64 then .ok (.int ((10 : Int) ^ (30 : Int).toNat)) m else .bad := rfl
 rw [e,if_pos (by decide)]
 rfl
theorem zkG {a b : Int} {m : Sto} (h : a.natAbs.log2 < 1100 /\ b.natAbs.log2 < 1100) : zrR (.int a) (.int b) m = .ok (.int (a * b)) m := by rw [znp]; exact if_pos h
theorem zsa : (0 : Int) < 10 ^ 60 * 10 ^ 60 * 10 ^ 60 * 10 ^ 60 * 10 ^ 60 := by decide +kernel
theorem abs_i (c : Int) {m : Sto} : absF [.int c] m = .ok (.int c.natAbs) m := by
 have e : (if c < 0 then -c else c) = (c.natAbs : Int) := by split <;> omega
 rw [<- e]
 rfl
theorem sl_scr {ns : List Int} {m : Sto} : slD (.scr (ns.map D.int)) none (some 63) m = .ok (.lst ((ns.take 63).map D.int)) m := by
 show Res.ok (D.lst (zoh (ns.map D.int) none (some ((63 : Nat) : Int)))) m = _
 rw [cut_to,List.map_take]
theorem zsh {ns : List Int} {m : Sto} (hn : ns.length <= 63) : Run (zep [.scr (ns.map D.int)] m) fun a m' => ∃ p q,a = .ob p /\ P3 m' p q 0 m' := by
 unfold zep zkQ; erw [zrL]; erw [zfv]; erw [zfv]; erw [zkG (by decide +kernel)]; erw [zfv]; erw [zkG (by decide +kernel)]; erw [zfv]; erw [zkG (by decide +kernel)]; erw [zfv]; erw [zkG (by decide +kernel)]; ac_nf
 have hN := zsa
 generalize (10 : Int) ^ 60 * 10 ^ 60 * 10 ^ 60 * 10 ^ 60 * 10 ^ 60 = N at hN; rw [sl_scr]; ac_nf
 have hr : (m ++ [MO.lst []])[m.length]? = some (.lst []) := by simp
 generalize m.length = r at hr ⊢; generalize m ++ [MO.lst []] = mA at hr ⊢; refine Run.bind (za2 (fun k ρ m' => ∃ (seed : Int) (own : List Int) (x4 : Option D),ρ = [some (.scr (ns.map D.int)),some (.int seed),some (.ob r),some (.int N),x4] /\ m'[r]? = some (.lst (own.map D.int)) /\ own.length <= k /\ (∀ a ∈ own,0 <= a) /\ 0 <= seed /\ seed < 2305843009213693951) ((ns.take 63).map D.int) 0 ⟨41,[],none,rfl,hr,Nat.le_refl _,fun _ h => (nomatch h),by decide,by decide⟩ ?_) ?_
 ·rintro i d ρ m1 hd ⟨seed,own,x4,rfl,g1,g2,g3,g4,g5⟩
  have hi := (List.getElem?_eq_some_iff.mp hd).1
  rw [List.length_map,List.length_take] at hi
  obtain ⟨v,hv,rfl⟩ := List.mem_map.mp (List.mem_of_getElem? hd)
  erw [zlH ⟨by decide,by decide⟩]; erw [zrc]; erw [zco (by decide)]; erw [zco (by decide)]; erw [abs_i]; erw [zrd]; ac_nf; generalize hS : (seed * 1000003 + v % 1000000000000000000000000000000 + 7) % 2305843009213693951 = S
  have S0 : 0 <= S := by rw [<- hS]; exact Int.emod_nonneg _ (by decide)
  have S1 : S < 2305843009213693951 := by rw [<- hS]; exact Int.emod_lt_of_pos _ (by decide)
  by_cases hb : (1000000000000000000 : Int) <= (v.natAbs : Int)
  ·rw [if_pos hb]; erw [if_pos (znM g1)]; erw [abs_i]; erw [zco hN]; erw [zou g1 (by rw [List.length_map]; exact zcP (by omega))]; ac_nf
   refine Run.ok ⟨_,rfl,S,own ++ [(v.natAbs : Int) % N],_,rfl,by rw [zbb g1,List.map_append]; rfl,by rw [List.length_append]; show own.length + 1 <= _; omega,fun a ha => ?_,S0,S1⟩
   rcases List.mem_append.mp ha with ha | ha
   ·exact g3 a ha
   ·rw [List.mem_singleton.mp ha]
    exact Int.emod_nonneg _ (by omega)
  ·rw [if_neg hb]; ac_nf; exact Run.ok ⟨_,rfl,S,own,_,rfl,g1,by omega,g3,S0,S1⟩
 ·rintro _ m1 ⟨ρ,rfl,seed,own,x4,rfl,g1,g2,g3,g4,g5⟩
  rw [Nat.zero_add,List.length_map,List.length_take] at g2
  erw [show zcr [("own", zae 2),("seed", zae 1),("turn", eC (.int 0))] [some (.scr (ns.map D.int)),some (.int seed),some (.ob r),some (.int N),x4] m1 = .ok (.ob m1.length) (m1 ++ [.dct (zj6 r seed 0)]) from rfl]; ac_nf
  have hrl := (List.getElem?_eq_some_iff.mp g1).1
  exact Run.ok ⟨m1.length,r,rfl,⟨⟨own,seed,0,by simp,by rw [List.getElem?_append_left hrl]; exact g1,by omega,by omega,g3,g4,by omega,by decide,by decide⟩,Fr.refl⟩⟩
open PySem L2
theorem zov {τ : Type} (l : List τ) {m : Sto} : allF [.lst (l.map fun _ => D.bl true)] m = .ok (.bl true) m := by
 rw [show (l.map fun _ => D.bl true) = (l.map fun _ => true).map D.bl by simp,zsj]
 simp
section
variable {c f mth : Str} {fa fv : EV} {fr : AV} {ρ : En} {m : Sto} {d : D} {g : List D -> Sto -> Res D}
def kFs3 (ρ : En) : Unit -> Sto -> Res Fl := fun _ m3 => .ok (.nx ρ) m3
def kFs2 (c f : Str) (ρ : En) (y : D) : D -> Sto -> Res Fl := fun x m2 => (zoK c f x y m2).bind (kFs3 ρ)
def kFs1 (c f : Str) (fo : EV) (ρ : En) : D -> Sto -> Res Fl := fun y m1 => (fo ρ m1).bind (kFs2 c f ρ y)
theorem fld_at : zcw c f fa ρ m = (fa ρ m).bind (zqj c f) := rfl
theorem sfld_at : zdm c f fa fv ρ m = (fv ρ m).bind (kFs1 c f fa ρ) := rfl
theorem kfs1_at : kFs1 c f fa ρ d m = (fa ρ m).bind (kFs2 c f ρ d) := rfl
theorem kfs2_at (x : D) : kFs2 c f ρ d x m = (zoK c f x d m).bind (kFs3 ρ) := rfl
theorem kfs3_at : kFs3 ρ () m = .ok (.nx ρ) m := rfl
def kMt2 (g : List D -> Sto -> Res D) (x : D) : List D -> Sto -> Res D := fun ds m2 => g (x :: ds) m2
def kMt1 (c mth : Str) (g : List D -> Sto -> Res D) (fr : AV) (ρ : En) : D -> Sto -> Res D := fun x m1 => if ziI c mth x m1 = true then (fr ρ m1).bind (kMt2 g x) else .bad
theorem mth_at : zdx c mth g fa fr ρ m = (fa ρ m).bind (kMt1 c mth g fr ρ) := rfl
theorem kmt1_at : kMt1 c mth g fr ρ d m = if ziI c mth d m = true then (fr ρ m).bind (kMt2 g d) else .bad := rfl
theorem kmt2_at (ds : List D) : kMt2 g d ds m = g (d :: ds) m := rfl
def kPar3 (i j k : Nat) (ρ : En) : List D -> Sto -> Res Fl := fun ds m1 => match ds with
 | [x,y,z] => .ok (.nx (((ρ.set i (some x)).set j (some y)).set k (some z))) m1
 | _ => .bad
theorem par3_at (i j k : Nat) : zoU i j k fr ρ m = (fr ρ m).bind (kPar3 i j k ρ) := rfl
theorem kpar3_at (i j k : Nat) (x y z : D) : kPar3 i j k ρ [x,y,z] m = .ok (.nx (((ρ.set i (some x)).set j (some y)).set k (some z))) m := rfl
def kForO (h : GV) (b : SV) (ρ : En) : Nat × MO × List D -> Sto -> Res Fl := fun t m1 => znw t.1 t.2.1 h b t.2.2 ρ m1
theorem forO_at {it : OI} {h : GV} {b : SV} : sForO it h b ρ m = (it ρ m).bind (kForO h b ρ) := rfl
theorem kforO_at {h : GV} {b : SV} (k : Nat) (o : MO) (ds : List D) : kForO h b ρ (k,o,ds) m = znw k o h b ds ρ m := rfl
theorem objI_at : aObj fa ρ m = (fa ρ m).bind asObj := rfl
theorem isnt_in (i : Int) : zeX (.int i) .non m = .ok (.bl true) m := rfl
theorem is_in (i : Int) : isD (.int i) .non m = .ok (.bl false) m := rfl
theorem zn1 {k : Nat} {fs : List (Str × D)} {v : D} (h : m[k]? = some (.ins c fs)) (e : fs.lookup f = some v) : zqj c f (.ob k) m = .ok v m := by
 simp only [zqj,h,if_true,e,opt]
theorem zfo {k : Nat} {fs : List (Str × D)} {y : D} (h : m[k]? = some (.ins c fs)) (e : fs.length < 1000) : zoK c f (.ob k) y m = .ok () (m.set k (.ins c (zeT f y fs))) := by
 simp only [zoK,h]
 exact if_pos ⟨trivial,e⟩
theorem mth_ok {k : Nat} {fs : List (Str × D)} (h : m[k]? = some (.ins c fs)) (e : fs.lookup mth = none) : ziI c mth (.ob k) m = true := by
 simp only [ziI,h,e,decide_true,Option.isNone_none,Bool.and_self]
end
local macro_rules | `(tactic| walk_at "w") => do
  let ids := ("run_at fin_nx fin_rt seq_at seq_nx seq_rt nil_at ret_at rt_at retN_at drop_at kdrop_at if_at kif_at asg_at kasg_at nx_at gs_nil gs_cons gT_at par_at kpar_at List.set_cons_zero List.set_cons_succ for_at kfor_at eC_at op_at kop_at un_at fn_at ife_at kife_at aNil_at aCons_at kcons_at kcons2_at asB_at tV_at andT_at kandT_at orT_at korT_at notT_at knotT_at and_at kand_at or_at kor_at not_at knot_at aIt_at sq_t sq_l sq_s sq_c rngA_at enumA_at kenum_t kenum_l zipA_at kzip_at zip3A_at kzip3_at kzip4_at oNone_at oSome_at ksome_at slD_at ksl1_at ksl2_at slA_at kslA1_at kslA2_at meth_at kmeth_at isStr_at isTup_at chain_at kch1_at kch2_at kch3_at put_at kputA_at kputB_at kputC_at kputE_at bind_ok bind_then then_at var_0 var_S gN_at Bool.false_eq_true reduceIte List.map_cons List.map_nil List.length_cons List.length_nil Nat.reduceAdd Nat.reduceSub List.cons_append List.nil_append add_i sub_i eq_i ne_i eq_s ne_s lt_i le_i gt_i ge_i lst_0 lst_2 lst_3 lst_4 lst_5 tup_0 tup_1 tup_2 tup_3 min_i len_t len_l tup_l l1 ix_t0 ix_t1 ix_t2 List.replicate List.append_nil decide_eq_true_eq Bool.not_true Bool.not_false eq_self not_true_eq_false not_false_eq_true decide_true decide_false ofs_eq String.reduceEq fld_at sfld_at kfs1_at kfs2_at kfs3_at mth_at kmt1_at kmt2_at par3_at kpar3_at forO_at kforO_at objI_at isnt_in is_in is_nn isnt_nn max_i".splitOn " ").toArray.map fun s => Lean.mkIdent s.toName
  `(tactic| try simp only [$[$ids:ident],*])
def onD : Option Nat -> D
 | none => .non
 | some n => .int n
section
variable {m : Sto} {k l : Nat} {pt : Pt} {hs : List (List Int)} {had base : Option Nat} {fresh : Nat}
theorem zfP (pt : Pt) {m : Sto} : ixD pt.e (.int 0) m = .ok (shD pt.fs pt.n) m := ix_t0 _ _
theorem ix_pt1 (pt : Pt) {m : Sto} : ixD pt.e (.int 1) m = .ok (.int pt.wide) m := ix_t1 _ _ _
theorem znI (pt : Pt) {m : Sto} : ixD pt.e (.int 2) m = .ok (.tup (pt.fms.map Fm.e)) m := ix_t2 _ _ _ _
theorem ix_pt3 (pt : Pt) {m : Sto} : ixD pt.e (.int 3) m = .ok pt.rd.e m := zoy (n := 3) rfl
end
def wdN (n : Nat) : Nat := if n <= 1 then 0 else (n - 1).log2 + 1
theorem wdN_lt {n w : Nat} : 2 ^ w < n ↔ w < wdN n := by
 unfold wdN
 by_cases h : n <= 1
 ·rw [if_pos h]
  have := Nat.one_le_two_pow (n := w)
  omega
 ·rw [if_neg h,Nat.lt_succ_iff,Nat.le_log2 (by omega)]
  omega
def wfT : TV := by walk_at "#u/+6"
def wfB : SV := by walk_at "#7b+PuAuevvu@"
theorem zl5 {n : Nat} {m : Sto} : ∀ (j w fuel : Nat),w + j = wdN n -> j < fuel -> zc8 wfT wfB fuel [some (.int n),some (.int w),some (.int (2 ^ w))] m = .ok (.nx [some (.int n),some (.int (wdN n)),some (.int (2 ^ wdN n))]) m
 | 0,w,0,_,h => absurd h (Nat.not_lt_zero _)
 | 0,w,fuel + 1,e,_ => by
  have hw : w = wdN n := by omega
  subst hw
  have hn : ¬ ((2 : Int) ^ wdN n < n) := by
   have := mt wdN_lt.mp (Nat.lt_irrefl (wdN n))
   exact_mod_cast this
  rw [zc8]
  have et : wfT [some (.int n),some (.int (wdN n)),some (.int (2 ^ wdN n))] m = .ok false m := by
   unfold wfT; erw [decide_eq_false hn]
  rw [et,bind_ok,if_neg (by decide)]
 | j + 1,w,0,_,h => absurd h (Nat.not_lt_zero _)
 | j + 1,w,fuel + 1,e,h => by
  have hn : (2 : Int) ^ w < n := by
   have := wdN_lt.mpr (show w < wdN n by omega)
   exact_mod_cast this
  rw [zc8]
  have et : wfT [some (.int n),some (.int w),some (.int (2 ^ w))] m = .ok true m := by
   unfold wfT; erw [decide_eq_true hn]
  have eb : wfB [some (.int n),some (.int w),some (.int (2 ^ w))] m = .ok (.nx [some (.int n),some (.int ((w + 1 : Nat) : Int)),some (.int (2 ^ (w + 1)))]) m := by
   unfold wfB; erw [zlH ⟨by decide,by decide⟩]; erw [Int.pow_succ]
   rfl
  rw [et,bind_ok,if_pos rfl,eb,bind_ok]
  exact zl5 j (w + 1) fuel (by omega) (by omega)
theorem zgr {n : Nat} {m : Sto} (h : n <= 2 ^ 50) : zbO [.int n] m = .ok (.int (wdN n)) m := by
 have hw : wdN n <= 50 := Nat.le_of_not_lt fun z => by
  have := wdN_lt.mpr z
  omega
 apply zaw
 unfold zbO za8
 show Run (Res.bind (zap (zaH (eC (.int 0)) (gN 1)) (zap (zaH (eC (.int 1)) (gN 2)) (zap (zdE zeq wfT wfB) (zaE (zae 1)))) [some (.int n),none,none] m) ziZ) _
 erw [zg1]
 have := zl5 (n := n) (m := m) (wdN n) 0 zeq (by omega) (Nat.lt_of_le_of_lt hw (by decide))
 rw [show ((0 : Nat) : Int) = 0 from rfl,show ((2 : Int) ^ 0) = 1 from rfl] at this
 rw [this]; ac_nf; exact Run.ok ⟨rfl,rfl⟩
def fmW (pt : Pt) : Fm := ⟨1,pt.wide,List.replicate pt.fs.length .whole⟩
def zbE (pt : Pt) : Option Nat -> Fm
 | none => fmW pt
 | some i => pt.fms.getD i ⟨1,1,[]⟩
def zpO (pt : Pt) : Option Nat -> Prop
 | none => True
 | some i => i < pt.fms.length
theorem zqi {pt : Pt} (h : PtOk pt) : FmOk pt.fs (fmW pt) := ⟨by show 0 < 1; decide,by show 1 <= 40; decide,h.w0,h.w1,⟨by simp [fmW],fun i f w hf hw => by
 simp only [fmW] at hw
 have := List.mem_of_getElem? hw
 rw [(List.mem_replicate.mp this).2]
 exact trivial⟩⟩
def lsz (pt : Pt) (at' : Option Nat) : Nat := wdN (1 + pt.fms.length) + (zbE pt at').b + (zdb pt.fs (zbE pt at').wys).sum + wdN pt.n.toNat
def ckS (hd : List Int) : Int := ((List.range hd.length).map fun i : Nat => ((i : Int) + 2) * hd.getD i 0).sum
def ckV (pt : Pt) (number : Nat) (hd : List Int) : Int := ((number : Int) + ckS hd) % pt.n
theorem zkZ (hd : List Int) : ∀ (xs : List Int) (k : Nat),(zbS k (xs.map D.int)).map (fun d => match d with | .tup [.int i,.int v] => D.int ((i + 2) * v) | _ => .non) = ((List.range xs.length).map fun i : Nat => (((k + i : Nat) : Int) + 2) * xs.getD i 0).map D.int
 | [],k => rfl
 | x :: xs,k => by
  rw [List.map_cons,zbS,List.map_cons,zkZ hd xs (k + 1),List.length_cons,List.range_succ_eq_map,List.map_cons,List.map_cons,List.map_map]; simp only [Nat.add_zero,List.getD_cons_zero,List.map_map]
  congr 1
  apply List.map_congr_left
  intro i _
  simp only [Function.comp,Nat.succ_eq_add_one,List.getD_cons_succ]; rw [show k + 1 + i = k + (i + 1) by omega]
theorem sum_i {xs : List Int} {m : Sto} (h : (∀ a,a ∈ xs -> 0 <= a /\ a <= 2 ^ 50) /\ xs.length <= 1000) : zqE [.lst (xs.map D.int)] m = .ok (.int xs.sum) m := by
 simp only [zqE,lOf,Option.bind_some,zcb]
 exact if_pos h
def zl2 : Option Nat -> Int
 | none => 0
 | some i => 1 + (i : Int)
def ltL (pt : Pt) (at' : Option Nat) (number : Nat) (hd : List Int) : List Nat := dgs (zl2 at') (wdN (1 + pt.fms.length)) ++ dgs ((number : Int) % 2 ^ (zbE pt at').b) (zbE pt at').b ++ pcK pt.fs (zbE pt at').wys hd pt.fs.length ++ dgs (ckV pt number hd) (wdN pt.n.toNat)
theorem zhX {n : Nat} (h : n <= 2 ^ 50) : wdN n <= 50 := Nat.le_of_not_lt fun z => by
 have := wdN_lt.mpr z
 omega
theorem zqF (a b : List Nat) : ((⟨a.toArray⟩ : Str) ++ ⟨b.toArray⟩) = ⟨(a ++ b).toArray⟩ := by
 apply zfm
 show (a.toArray ++ b.toArray).toList = _
 simp
theorem add_str {a b : List Nat} {m : Sto} (h : a.length + b.length <= 100000) : zbm (.str ⟨a.toArray⟩) (.str ⟨b.toArray⟩) m = .ok (.str ⟨(a ++ b).toArray⟩) m := by
 rw [add_ss (show a.toArray.size + b.toArray.size <= sizeLine from by simp; exact Nat.le_trans h (by decide)),zqF]
structure PtW (p : Pt) : Prop where
 n0 : 0 < p.n
 n1 : p.n <= 1000000
 f0 : 0 < p.fs.length
 f1 : p.fs.length <= 12
 sh : zqt p.fs
 w0 : 0 < p.wide
 w1 : p.wide <= 40
 fm : ∀ f ∈ p.fms,FmOk p.fs f
 fml : p.fms.length <= 12
theorem lst_n {xs : List D} {m : Sto} (h : xs.length <= 100) : zc0 xs m = .ok (.lst xs) m := if_pos (slen h)
theorem P3.fr2 {m0 m m' : Sto} {p q c k l : Nat} (h : P3 m0 p q c m) (f : Fr k l m m') (a : k ≠ p) (b : k ≠ q) (c' : l ≠ p) (d : l ≠ q) : P3 m' p q c m' := by
 obtain ⟨own,s,t,h1,h2,h3⟩ := h.ex
 refine ⟨⟨own,s,t,?_,?_,h3⟩,Fr.refl⟩
 ·rw [f.at' p (List.getElem?_eq_some_iff.mp h1).1 (Ne.symm a) (Ne.symm c')]; exact h1
 ·rw [f.at' q (List.getElem?_eq_some_iff.mp h2).1 (Ne.symm b) (Ne.symm d)]; exact h2
def zrM (xs : List Nat) : List D := xs.map fun n => D.int (n : Nat)
theorem of_nat {m0 : Sto} {p q c : Nat} {m : Sto} (ns : List Nat) (hp : P3 m0 p q c m) (hc : c < 2 ^ 40) (h0 : 0 < ns.length) (h1 : ns.length < 1000) :
  Run (zaM [.ob p,.lst (zrM ns)] m) fun a m' => ∃ n ∈ ns,a = .int (n : Nat) /\ P3 m p q (c + 1) m' := by
 refine Run.mono (zbX hp hc (by simpa [zrM] using h0) (by simpa [zrM] using h1)) ?_
 rintro a m' ⟨ha,hp'⟩
 obtain ⟨n,hn,rfl⟩ := List.mem_map.mp ha
 exact ⟨n,hn,rfl,hp'⟩
theorem zgT {k : Nat} {o : MO} {g : GV} {c : TV} {el : EV} {ρ : En} {m : Sto} (b : D -> Bool) (hk : m[k]? = some o) : ∀ (ds : List D),(∀ d ∈ ds,∃ ρ1,g d ρ m = .ok ρ1 m /\ c ρ1 m = .ok (b d) m /\ el ρ1 m = .ok d m) -> zet k o g c el ρ ds m = .ok (ds.filter b) m
 | [],_ => by rw [zet,zqg hk]; rfl
 | d :: r,h => by
  obtain ⟨ρ1,e1,e2,e3⟩ := h d (by simp)
  have ih := zgT (g := g) (c := c) (el := el) (ρ := ρ) b hk r fun d hd => h d (List.mem_cons_of_mem _ hd)
  rw [zet,zqg hk,e1,bind_ok,e2,bind_ok]
  cases hb : b d with
  | true => rw [if_pos rfl,e3,bind_ok,ih,bind_ok,List.filter_cons_of_pos hb]
  | false => rw [if_neg (by simp),ih,List.filter_cons_of_neg (by simp [hb])]
section
variable {m m0 : Sto} {k l r p q c i : Nat} {pt : Pt} {hd : List Int} {had base : Option Nat} {fresh : Nat} {s d2 : D} {x8 x9 x10 : Option D}
theorem Fr.keep {m' : Sto} {o : MO} (f : Fr k l m m') (h : m[r]? = some o) (a : r ≠ k) (b : r ≠ l) : m'[r]? = some o := by rw [f.at' r (List.getElem?_eq_some_iff.mp h).1 a b]; exact h
end
theorem zkc : ∀ l : List D,zjn l l = l.map fun a => D.tup [a,a]
 | [] => rfl
 | a :: r => by simp only [List.map_cons,zjn,zkc r]
theorem zkr {n : Nat} {d : D} {m : Sto} (h : d = .non ∨ ∃ a,d = .int a) : zaU (n + 1) [d,d] m = .ok (.bl true) m := by
 apply zaw
 rcases h with rfl | ⟨a,rfl⟩
 ·rw [zaU]
  unfold zcI; erw [isi_tn]; ac_nf; exact Run.ok ⟨rfl,rfl⟩
 ·exact zoT
section
variable {m0 m : Sto} {p q c : Nat} {fs : List Fd} {n : Int}
theorem zka (hp : P3 m0 p q c m) (hc : c + 30 < 2 ^ 40) (hs : zqt fs) (hl : fs.length <= 12) :
  Run (zbt [.ob p,shD fs n] m) fun a m' => ∃ hd,a = zf8 hd /\ HdOk fs hd /\ P3 m p q (c + 30) m' := by
 unfold zbt zeJ shD; ac_nf; refine Run.bind (zjm (ds := fs.map Fd.e) (fun k m' => P3 m p q (c + 2 * k) m') (fun i d x => ∃ v : Int,x = .int v /\ ∀ f,fs[i]? = some f -> 0 <= v /\ v < 2 ^ f.b) (by ac_nf) (by rw [List.length_map]; omega) hp.re ?_) ?_
 ·intro i d m' hd hI
  have hi : i < fs.length := by have := (List.getElem?_eq_some_iff.mp hd).1; simpa using this
  have e1 := List.getElem?_eq_getElem hi
  have hd' : d = fs[i].e := by
   rw [List.getElem?_map,e1] at hd
   simpa using hd.symm
  subst hd'
  obtain ⟨b0,b1,hk⟩ := hs i _ e1
  simp only [Fd.e]; ac_nf
  refine Run.mono (zeb hI (by omega) b1) ?_
  rintro a m3 ⟨v,rfl,v0,v1,hp3⟩
  exact ⟨⟨v,rfl,fun f hf => by rw [e1] at hf; cases hf; exact ⟨v0,v1⟩⟩,(hI.via hp3).more (by omega)⟩
 ·rintro xs m' ⟨hlen,hP,hI⟩; ac_nf
  rw [List.length_map] at hlen hI
  obtain ⟨l,rfl,hl2⟩ := lift D.int (fun i v => ∀ f,fs[i]? = some f -> 0 <= v /\ v < 2 ^ f.b) xs 0 fun i x hx => by
   have hi : i < fs.length := by have := (List.getElem?_eq_some_iff.mp hx).1; omega
   rw [Nat.zero_add]
   exact hP i fs[i].e x (by rw [List.getElem?_map,List.getElem?_eq_getElem hi]; rfl) hx
  refine Run.ok ⟨l,rfl,⟨by simpa using hlen,fun i f v hf hv => ?_⟩,hI.more (by omega)⟩
  have := hl2 i v hv
  rw [Nat.zero_add] at this
  exact this f hf
end
def lwT : TV := by walk_at "#u/uf%6"
def lwB : SV := by walk_at "#uevvu@"
theorem znv {n : Nat} {m : Sto} (h50 : wdN n <= 50) : ∀ (j w fuel : Nat),w + j = wdN n -> j < fuel -> zc8 lwT lwB fuel [some (.int n),some (.int w)] m = .ok (.nx [some (.int n),some (.int (wdN n))]) m
 | 0,w,0,_,h => absurd h (Nat.not_lt_zero _)
 | 0,w,fuel + 1,e,_ => by
  have hw : w = wdN n := by omega
  subst hw
  have hn : ¬ ((2 : Int) ^ wdN n < n) := by
   have := mt wdN_lt.mp (Nat.lt_irrefl (wdN n))
   exact_mod_cast this
  rw [zc8]
  have et : lwT [some (.int n),some (.int (wdN n))] m = .ok false m := by
   unfold lwT; erw [zef (by omega)]; erw [decide_eq_false hn]
  rw [et,bind_ok,if_neg (by decide)]
 | j + 1,w,0,_,h => absurd h (Nat.not_lt_zero _)
 | j + 1,w,fuel + 1,e,h => by
  have hn : (2 : Int) ^ w < n := by
   have := wdN_lt.mpr (show w < wdN n by omega)
   exact_mod_cast this
  rw [zc8]
  have et : lwT [some (.int n),some (.int w)] m = .ok true m := by
   unfold lwT; erw [zef (by omega)]; erw [decide_eq_true hn]
  have eb : lwB [some (.int n),some (.int w)] m = .ok (.nx [some (.int n),some (.int ((w + 1 : Nat) : Int))]) m := by
   unfold lwB; ac_nf
   rfl
  rw [et,bind_ok,if_pos rfl,eb,bind_ok]
  exact znv h50 j (w + 1) fuel (by omega) (by omega)
theorem zgE {n : Nat} {m : Sto} (h : n <= 2 ^ 50) : zbs [.int n] m = .ok (.int (wdN n)) m := by
 have hw := zhX h
 apply zaw
 unfold zbs za8
 show Run (Res.bind (zap (zaH (eC (.int 0)) (gN 1)) (zap (zdE zeq lwT lwB) (zaE (zae 1))) [some (.int n),none] m) ziZ) _
 erw [zg1]
 have := znv (n := n) (m := m) hw (wdN n) 0 zeq (by omega) (Nat.lt_of_le_of_lt hw (by decide))
 rw [show ((0 : Nat) : Int) = 0 from rfl] at this
 rw [this]; ac_nf; exact Run.ok ⟨rfl,rfl⟩
def ckP (hd : List Int) (k : Nat) : Int := ((List.range k).map fun i : Nat => ((i : Int) + 2) * hd.getD i 0).sum
theorem ckP_s (hd : List Int) (k : Nat) : ckP hd (k + 1) = ckP hd k + ((k : Int) + 2) * hd.getD k 0 := by
 unfold ckP; rw [List.range_succ,List.map_append,List.sum_append]
 simp
theorem zlO {pt : Pt} {number : Nat} {hd : List Int} {m : Sto} (h : PtOk pt) (hh : HdOk pt.fs hd) : zcK [shD pt.fs pt.n,.int number,zf8 hd] m = .ok (.int (ckV pt number hd)) m := by
 have hl := hh.len
 have h1 := h.f1
 apply zaw
 unfold zcK zgN zf8; erw [List.length_map,zfr (by omega) (by omega)]; ac_nf; refine Run.bind (za2 (fun k ρ m' => ∃ x4 : Option D,ρ = [some (shD pt.fs pt.n),some (.int number),some (.tup (hd.map D.int)),some (.int ((number : Int) + ckP hd k)),x4] /\ m' = m) _ 0 ⟨_,by rw [show ckP hd 0 = 0 from rfl,Int.add_zero],rfl⟩ ?_) ?_
 ·rintro i d ρ m1 hd1 ⟨x4,rfl,rfl⟩
  have hi := (List.getElem?_eq_some_iff.mp hd1).1
  rw [zaX] at hi
  have := zos hd1
  subst this
  rw [Nat.zero_add]
  have e2 := List.getElem?_eq_getElem (show i < hd.length by omega)
  erw [zek e2]; erw [zhG ⟨by omega,by omega⟩]; ac_nf
  have e3 : (number : Int) + ckP hd (i + 1) = (number : Int) + ckP hd i + ((i : Int) + 2) * hd[i] := by rw [ckP_s,List.getD,e2,Option.getD_some,Int.add_assoc]
  rw [<- e3]; exact Run.ok ⟨_,rfl,_,rfl,rfl⟩
 ·rintro _ m1 ⟨ρ,rfl,x4,rfl,rfl⟩; rw [Nat.zero_add,zaX]; erw [show ixD (shD pt.fs pt.n) (.int 1) m1 = .ok (.int pt.n) m1 from ix_t1 _ _ _]; erw [zco h.n0]; exact Run.ok ⟨rfl,rfl⟩
theorem zjR {pt : Pt} {hd : List Int} {m : Sto} (h : PtOk pt) (hh : HdOk pt.fs hd) : zbQ [shD pt.fs pt.n,.non,zf8 hd] m = .ok (.str ⟨(pcK pt.fs (fmW pt).wys hd pt.fs.length).toArray⟩) m := by
 have hl := hh.len
 have h1 := h.f1
 have hw := (zqi h).wy
 apply zaw
 unfold zbQ zeI zf8 shD; ac_nf; refine Run.bind (za2 (fun k ρ m' => ∃ x4 x5 x6 : Option D,ρ = [some (.tup [.tup (pt.fs.map Fd.e),.int pt.n]),some .non,some (.tup (hd.map D.int)),some (.str ⟨(pcK pt.fs (fmW pt).wys hd k).toArray⟩),x4,x5,x6] /\ m' = m) (zbS 0 (pt.fs.map Fd.e)) 0 ⟨_,_,_,rfl,rfl⟩ ?_) ?_
 ·rintro i d ρ m1 hd1 ⟨x4,x5,x6,rfl,rfl⟩
  obtain ⟨f,e1,rfl⟩ := zhO hd1
  have hi := (List.getElem?_eq_some_iff.mp e1).1
  obtain ⟨b0,b1,_⟩ := h.sh.ok i f e1
  have e2 := List.getElem?_eq_getElem (show i < hd.length by omega)
  have e3 : (fmW pt).wys[i]? = some .whole := by simp [fmW,hi]
  have hpl := zfw hw hh i (by omega)
  have hsb := zg4 h.sh.ok hw i (by omega)
  rw [Nat.zero_add]; ac_nf; simp only [Fd.e]; erw [zek e2]; erw [zef (by omega)]; erw [zco (p2 f.b)]; erw [zaw (zd6 b1)]; erw [add_str (by rw [zaI,hpl]; omega)]; ac_nf
  have e4 : pcK pt.fs (fmW pt).wys hd i ++ dgs (hd[i] % 2 ^ f.b) f.b = pcK pt.fs (fmW pt).wys hd (i + 1) := by
   rw [pcK,e1,e2,e3]
   rfl
  rw [e4]; exact Run.ok ⟨_,rfl,_,_,_,rfl,rfl⟩
 ·rintro _ m1 ⟨ρ,rfl,x4,x5,x6,rfl,rfl⟩; rw [Nat.zero_add,zfh]; ac_nf; exact Run.ok ⟨rfl,rfl⟩
theorem zjS {pt : Pt} {number : Nat} {hd : List Int} {m : Sto} (h : PtOk pt) (hh : HdOk pt.fs hd) : zbI [pt.e,.non,.int number,zf8 hd] m = .ok (.str ⟨(ltL pt none number hd).toArray⟩) m := by
 have hf := zqi h
 have w1 := zhX (n := 1 + pt.fms.length) (by have := h.fml; omega)
 have w2 := zhX (n := pt.n.toNat) (by have := h.n1; omega)
 have hb := h.w1
 have hpl := zfw hf.wy hh pt.fs.length (Nat.le_refl _)
 have hsb := zg4 h.sh.ok hf.wy pt.fs.length (Nat.le_refl _)
 have hf1 := h.f1
 have hfl := h.fml
 have hn1 := h.n1
 have hn0 := h.n0
 have u1 : wdN (1 + pt.fms.length) <= 40 := Nat.le_of_not_lt fun z => by
  have := wdN_lt.mpr z
  omega
 have u2 : wdN pt.n.toNat <= 40 := Nat.le_of_not_lt fun z => by
  have := wdN_lt.mpr z
  omega
 apply zaw
 unfold zbI zf1 Pt.e
 erw [show (1 : Int) + (((pt.fms.map Fm.e).length : Nat) : Int) = ((1 + pt.fms.length : Nat) : Int) by rw [List.length_map]; omega,zgE (by omega)]; erw [zaw (zd6 u1)]; erw [zef (by omega)]; erw [zco (p2 pt.wide)]; erw [zaw (zd6 hb)]; erw [add_str (by rw [zaI,zaI]; omega)]; ac_nf
 rw [zjR h hh]; erw [add_str (by rw [List.length_append,zaI,zaI,hpl]; omega)]; erw [zlO h hh]; erw [show ixD (shD pt.fs pt.n) (.int 1) m = .ok (.int pt.n) m from ix_t1 _ _ _]; ac_nf
 rw [show zbs [.int pt.n] m = .ok (.int (wdN pt.n.toNat)) m by
  have := zgE (n := pt.n.toNat) (m := m) (by omega)
  rw [show ((pt.n.toNat : Nat) : Int) = pt.n by omega] at this
  exact this]
 erw [zaw (zd6 u2)]; erw [add_str (by rw [List.length_append,List.length_append,zaI,zaI,zaI,hpl]; omega)]; exact Run.ok ⟨rfl,rfl⟩
theorem zpB {pt : Pt} (h : PtW pt) : FmOk pt.fs (fmW pt) := ⟨by show 0 < 1; decide,by show 1 <= 40; decide,h.w0,h.w1,⟨by simp [fmW],fun i f w hf hw => by
 simp only [fmW] at hw
 have := List.mem_of_getElem? hw
 rw [(List.mem_replicate.mp this).2]
 exact trivial⟩⟩
theorem zkV {pt : Pt} (h : PtW pt) {at' : Option Nat} (ha : zpO pt at') : FmOk pt.fs (zbE pt at') := by
 cases at' with
 | none => exact zpB h
 | some i =>
  have hi : i < pt.fms.length := ha
  show FmOk pt.fs (pt.fms.getD i ⟨1,1,[]⟩)
  simp only [List.getD,List.getElem?_eq_getElem hi,Option.getD_some]
  exact h.fm _ (List.getElem_mem hi)
theorem zd4 {pt : Pt} {at' : Option Nat} {m : Sto} (h : PtW pt) (ha : zpO pt at') : za0 [pt.e,onD at'] m = .ok (zbE pt at').e m := by
 apply zaw
 unfold za0 zkS
 cases at' with
 | none =>
  simp only [onD]; erw [ix_pt1]; erw [zfP]; erw [ix_sh]; erw [List.length_map,mul_t ⟨by have := h.f0; omega,by have := h.f1; omega⟩]; ac_nf
  refine Run.ok ⟨?_,rfl⟩
  simp only [zbE,fmW,Fm.e,fmD,List.map_replicate,Int.toNat_natCast,Wy.e]
  rfl
 | some i =>
  have hi : i < pt.fms.length := ha
  simp only [onD]; erw [znI]; ac_nf
  rw [zoy (d := (zbE pt (some i)).e) (by
   rw [List.getElem?_map,List.getElem?_eq_getElem hi]
   simp [zbE,List.getD,List.getElem?_eq_getElem hi])]
  exact Run.ok ⟨rfl,rfl⟩
theorem zjp {pt : Pt} {m : Sto} (h : PtW pt) : za3 [pt.e] m = .ok (.int (wdN (1 + pt.fms.length))) m := by
 apply zaw
 unfold za3 zfW; erw [znI]; erw [List.length_map,show (1 : Int) + (pt.fms.length : Nat) = ((1 + pt.fms.length : Nat) : Int) by push_cast; rfl,zgr (by have := h.fml; omega)]; exact Run.ok ⟨rfl,rfl⟩
theorem zk5 {pt : Pt} {m : Sto} (h : PtW pt) : zbc [pt.e] m = .ok (.int (wdN pt.n.toNat)) m := by
 have h0 := h.n0
 have h1 := h.n1
 apply zaw
 unfold zbc zeK; erw [zfP]; erw [show ixD (shD pt.fs pt.n) (.int 1) m = .ok (.int pt.n) m from ix_t1 _ _ _]; ac_nf
 have e := zgr (n := pt.n.toNat) (m := m) (by omega)
 rw [Int.toNat_of_nonneg (by omega)] at e
 rw [e]; exact Run.ok ⟨rfl,rfl⟩
theorem ziy {pt : Pt} {at' : Option Nat} {m : Sto} (h : PtW pt) (ha : zpO pt at') : zbP [pt.e,onD at'] m = .ok (.int (lsz pt at')) m := by
 apply zaw
 unfold zbP zeH; erw [zd4 h ha]; erw [zjp h]; erw [show ixD (zbE pt at').e (.int 1) m = .ok (.int (zbE pt at').b) m from ix_t1 _ _ _]; erw [zfP]; erw [show zem [shD pt.fs pt.n,(zbE pt at').e] m = .ok (.int ((zdb pt.fs (zbE pt at').wys).sum : Nat)) m from zoI h.sh h.f1 (zkV h ha).wy]; ac_nf
 rw [zk5 h]; ac_nf
 refine Run.ok ⟨?_,rfl⟩
 unfold lsz
 congr 1
theorem zed (l : List Nat) : (⟨l.toArray⟩ : Str).cps.size = l.length := List.size_toArray ..
theorem sl_txL {l : List Nat} {b : Nat} {m : Sto} (h : l.length <= 1000000) (hb : b <= l.length) : slD (.str ⟨l.toArray⟩) none (some (b : Int)) m = .ok (.str ⟨(l.take b).toArray⟩) m := by
 rw [zkp (show (⟨l.toArray⟩ : Str).cps.size <= sizeLine by rw [zed]; exact Nat.le_trans h (by decide))]
 congr 2
 exact zfm (by rw [Mth.slice_lo _ _ (by rw [zed]; exact hb)])
theorem zpV {l : List Nat} {a b : Nat} {m : Sto} (h : l.length <= 1000000) (ha : a <= b) (hb : b <= l.length) : slD (.str ⟨l.toArray⟩) (some (a : Int)) (some (b : Int)) m = .ok (.str ⟨((l.drop a).take (b - a)).toArray⟩) m := by
 rw [zkp (show (⟨l.toArray⟩ : Str).cps.size <= sizeLine by rw [zed]; exact Nat.le_trans h (by decide))]
 congr 2
 exact zfm (by rw [Mth.slice_mid _ _ _ ha (by rw [zed]; exact hb)])
theorem sl_txH {l : List Nat} {a : Nat} {m : Sto} (h : l.length <= 1000000) (ha : a <= l.length) : slD (.str ⟨l.toArray⟩) (some (a : Int)) none m = .ok (.str ⟨(l.drop a).toArray⟩) m := by
 rw [zkp (show (⟨l.toArray⟩ : Str).cps.size <= sizeLine by rw [zed]; exact Nat.le_trans h (by decide))]
 congr 2
 exact zfm (by rw [Mth.slice_hi _ _ (by rw [zed]; exact ha)])
theorem zhE {l : List Nat} {m : Sto} (h : Bin l) : zaZ [.str ⟨l.toArray⟩] m = .ok (.int (zdq l)) m := zaw (zgC (z := ⟨l.toArray⟩) h)
theorem zot {l : List Nat} {m : Sto} (h : Bin l) : zd3 [.str ⟨l.toArray⟩] m = .ok (.bl true) m := by
 apply zaw
 unfold zd3 ziX; erw [show zhW "str" (.str ⟨l.toArray⟩) m = .ok (.bl true) m from rfl]; ac_nf; refine Run.bind (za2 (fun k ρ m' => ∃ x,ρ = [some (.str ⟨l.toArray⟩),x] /\ m' = m) (zeR ⟨l.toArray⟩) 0 ⟨_,rfl,rfl⟩ ?_) ?_
 ·rintro i d ρ m' hd ⟨x,rfl,rfl⟩
  obtain ⟨c,hc,rfl⟩ := zkq hd
  ac_nf
  rcases h c (List.mem_of_getElem? hc) with rfl | rfl
  ·rw [if_neg (by decide)]; ac_nf; exact Run.ok ⟨_,rfl,_,rfl,rfl⟩
  ·rw [if_pos (by decide),show (!decide ((⟨#[49]⟩ : Str) = Str.ofString "1")) = false by decide]; ac_nf; exact Run.ok ⟨_,rfl,_,rfl,rfl⟩
 ·rintro _ m' ⟨ρ,rfl,x,rfl,rfl⟩; ac_nf; exact Run.ok ⟨rfl,rfl⟩
theorem le_wdN (n : Nat) : n <= 2 ^ wdN n := Nat.le_of_not_lt (mt wdN_lt.mp (Nat.lt_irrefl _))
theorem wdN_li {n : Nat} : ((n : Nat) : Int) <= 2 ^ wdN n := by exact_mod_cast le_wdN n
theorem zqG {pt : Pt} {at' : Option Nat} (ha : zpO pt at') : 0 <= zl2 at' /\ zl2 at' <= pt.fms.length := by
 cases at' with
 | none => exact ⟨Int.le_refl _,by simp [zl2]⟩
 | some i =>
  have : i < pt.fms.length := ha
  simp only [zl2]
  omega
theorem znf {x : Int} {n : Nat} (h0 : 0 <= x) (h1 : x < n) : zdq (dgs x (wdN n)) = x := by
 rw [zff]
 exact Int.emod_eq_of_lt h0 (Int.lt_of_lt_of_le h1 wdN_li)
theorem zle {pt : Pt} {at' : Option Nat} {r : List Nat} {m : Sto} (h : PtW pt) (ha : zpO pt at') (hl : (dgs (zl2 at') (wdN (1 + pt.fms.length)) ++ r).length <= 1000000) : zb7 [pt.e,.str ⟨(dgs (zl2 at') (wdN (1 + pt.fms.length)) ++ r).toArray⟩] m = .ok (onD at') m := by
 have hb := zqG ha
 apply zaw
 unfold zb7 zgJ; erw [zjp h]; erw [sl_txL hl (by rw [List.length_append,zaI]; omega),List.take_left' (zaI _ _)]; erw [zhE (zdy _ _),znf hb.1 (by omega)]; erw [znI]; erw [List.length_map,if_neg (by omega)]; ac_nf
 cases at' with
 | none =>
  rw [if_pos (show zl2 none = 0 from rfl)]; ac_nf; exact Run.ok ⟨rfl,rfl⟩
 | some i =>
  rw [if_neg (by simp only [zl2]; omega)]; ac_nf
  refine Run.ok ⟨?_,rfl⟩
  simp only [zl2,onD]
  congr 1
  omega
structure LtB (pt : Pt) (at' : Option Nat) (mid : List Nat) (ck : Int) : Prop where
 a : zpO pt at'
 b : Bin mid
 l : mid.length = (zbE pt at').b + (zdb pt.fs (zbE pt at').wys).sum
 c0 : 0 <= ck
 c1 : ck < pt.n
def ltB (pt : Pt) (at' : Option Nat) (mid : List Nat) (ck : Int) : List Nat := dgs (zl2 at') (wdN (1 + pt.fms.length)) ++ (mid ++ dgs ck (wdN pt.n.toNat))
theorem zrV {pt : Pt} {at' : Option Nat} {mid : List Nat} {ck : Int} (h : LtB pt at' mid ck) : (ltB pt at' mid ck).length = lsz pt at' := by
 unfold ltB lsz; rw [List.length_append,List.length_append,zaI,zaI,h.l]
 omega
theorem Bin.app {a b : List Nat} (h : Bin a) (h' : Bin b) : Bin (a ++ b) := fun c hc => (List.mem_append.mp hc).elim (h c) (h' c)
theorem zrW {pt : Pt} {at' : Option Nat} {mid : List Nat} {ck : Int} (h : LtB pt at' mid ck) : Bin (ltB pt at' mid ck) := (zdy _ _).app (h.b.app (zdy _ _))
theorem zp8 {pt : Pt} {at' : Option Nat} (h : PtW pt) (ha : zpO pt at') : 0 < lsz pt at' /\ lsz pt at' <= 700 := by
 have hf := zkV h ha
 have hb0 := hf.b0
 have hb1 := hf.b1
 have hs := zg4 h.sh hf.wy pt.fs.length (Nat.le_refl _)
 have w1 := zhX (n := 1 + pt.fms.length) (by have := h.fml; omega)
 have w2 := zhX (n := pt.n.toNat) (by have := h.n1; omega)
 have hw : (zdb pt.fs (zbE pt at').wys).sum <= 40 * pt.fs.length := by
  have e : zg5 (zdb pt.fs (zbE pt at').wys) pt.fs.length = (zdb pt.fs (zbE pt at').wys).sum := by
   unfold zg5; rw [List.take_of_length_le (by have := zbT hf.wy; omega)]
  omega
 have := h.f1
 unfold lsz
 omega
theorem zqa {l : List Nat} {m : Sto} (h : l.length <= 1000000) : ziA [.str ⟨l.toArray⟩] m = .ok (.int l.length) m := by
 have e : ziA [.str ⟨l.toArray⟩] m = if l.toArray.size <= sizeLine then .ok (.int (l.toArray.size : Nat)) m else .bad := rfl
 rw [e,List.size_toArray,if_pos (Nat.le_trans h (by decide))]
theorem zrT {fa fd : EV} {ρ : En} {m m1 m2 : Sto} {x d : D} (h1 : fa ρ m = .ok x m1) (h2 : fd ρ m1 = .ok d m2) : zi4 fa fd ρ m = znt x d m2 := by
 unfold zi4; rw [h1,bind_ok,h2,bind_ok]
theorem zlV {n k : Nat} {fi : EV} {g : GV} {c : TV} {el : EV} {ρ : En} {m : Sto} {kvs : List (L2.Key × D)} (b : D -> Bool) (h : fi ρ m = .ok (.ob k) m) (hk : m[k]? = some (.dct kvs)) (hl : kvs.length <= 1000000)
  (hf : ∀ d ∈ zhJ kvs,∃ ρ1,g d (ρ ++ List.replicate n none) (m.set k .hid) = .ok ρ1 (m.set k .hid) /\ c ρ1 (m.set k .hid) = .ok (b d) (m.set k .hid) /\ el ρ1 (m.set k .hid) = .ok d (m.set k .hid)) : zeM n fi g c el ρ m = .ok (.lst ((zhJ kvs).filter b)) m := by
 unfold zeM zr2; rw [h,bind_ok]; simp only [hk,if_pos hl]; rw [show (kvs.map fun p => kD p.1) = zhJ kvs from rfl,zgT b (zbb hk) _ hf]; simp only []; rw [List.set_set]
 congr 1
 exact List.ext_getElem? fun j => by
  by_cases hj : k = j
  ·subst hj; rw [zbb hk,hk]
  ·rw [zaF hj]
def zcy : Option Int -> D
 | none => .non
 | some i => .int i
def hlD (hl : List (Int × List Int)) : List (L2.Key × D) := hl.map fun p => (Sum.inl p.1,zf8 p.2)
def ksH (hl : List (Int × List Int)) : List Int := hl.map (·.1)
theorem zhI (hl : List (Int × List Int)) : zhJ (hlD hl) = (ksH hl).map D.int := by
 unfold zhJ hlD ksH; rw [List.map_map,List.map_map]
 rfl
theorem zgH : ∀ (hl : List (Int × List Int)),zdt (hlD hl) = some (ksH hl)
 | [] => rfl
 | p :: r => by
  show (zdt (hlD r)).map (p.1 :: ·) = _
  rw [zgH r]
  rfl
def vlH (hl : List (Int × List Int)) (n : Int) : Option (List Int) := match hl with
 | [] => none
 | p :: r => if p.1 = n then some p.2 else vlH r n
theorem zec (n : Int) : ∀ (hl : List (Int × List Int)),zdc (hlD hl) (.inl n) = (vlH hl n).map zf8
 | [] => rfl
 | p :: r => by
  show (if (Sum.inl p.1 : L2.Key) = .inl n then some (zf8 p.2) else zdc (hlD r) (.inl n)) = _
  unfold vlH
  by_cases h : p.1 = n
  ·rw [if_pos (by rw [h]),if_pos h]; rfl
  ·rw [if_neg (fun z => h (Sum.inl.inj z)),if_neg h]; exact zec n r
theorem vlH_none {hl : List (Int × List Int)} {n : Int} : vlH hl n = none ↔ n ∉ ksH hl := by
 induction hl with
 | nil => simp [vlH,ksH]
 | cons p r ih =>
  unfold vlH
  by_cases h : p.1 = n
  ·simp [h,ksH]
  ·rw [if_neg h,ih]
   simp [ksH,Ne.symm h]
theorem zcO {hl : List (Int × List Int)} {n : Int} (h : n ∈ ksH hl) : ∃ x,vlH hl n = some x /\ (n,x) ∈ hl := by
 induction hl with
 | nil => simp [ksH] at h
 | cons p r ih =>
  unfold vlH
  by_cases e : p.1 = n
  ·exact ⟨p.2,if_pos e,by rw [<- e]; exact List.mem_cons_self⟩
  ·rw [if_neg e]
   obtain ⟨x,h1,h2⟩ := ih (by
    rcases List.mem_cons.mp (show n ∈ p.1 :: ksH r from h) with z | z
    ·exact absurd z.symm e
    ·exact z)
   exact ⟨x,h1,List.mem_cons_of_mem _ h2⟩
def mxB (n : Int) (ks : List Int) : Option Int := if ks.filter (fun k => decide (k < n)) = [] then none else some (maxV (ks.filter fun k => decide (k < n)))
theorem zn2 (b : Int -> Bool) (b' : D -> Bool) (h : ∀ i,b' (.int i) = b i) (ks : List Int) : (ks.map D.int).filter b' = (ks.filter b).map D.int := by
 induction ks with
 | nil => rfl
 | cons k r ih =>
  rw [List.map_cons,List.filter_cons,h,ih,List.filter_cons]
  split <;> rfl
theorem zlK {ns : List Int} {d : D} {m : Sto} : znt (.lst (ns.map D.int)) d m = .ok (if ns = [] then d else .int (maxV ns)) m := by
 unfold znt; simp only [lOf,Option.bind_some,zcb]
 split <;> rfl
def ltI (n : Int) : D -> Bool
 | .int i => decide (i < n)
 | _ => false
def orD (o : Option Int) (d : D) : D := match o with
 | none => d
 | some i => .int i
theorem orD_i (o : Option Int) (b : Int) : orD o (.int b) = .int (o.getD b) := by cases o <;> rfl
theorem orD_n (o : Option Int) : orD o .non = zcy o := by cases o <;> rfl
theorem maxK {k i1 : Nat} {fi fd : EV} {ρ : En} {m : Sto} {hl : List (Int × List Int)} {n : Int} {d : D} {fn : EV} (hi : i1 = ρ.length) (h : fi ρ m = .ok (.ob k) m) (hk : m[k]? = some (.dct (hlD hl))) (hl' : hl.length <= 1000000) (hn : ∀ x m',fn (ρ ++ [some x]) m' = .ok (.int n) m') (hd : fd ρ m = .ok d m) :
  zi4 (zeM 1 fi (gN i1) (tV (eOp ltD (zae i1) fn)) (zae i1)) fd ρ m = .ok (orD (mxB n (ksH hl)) d) m := by
 subst hi
 rw [zrT (zlV (ltI n) h hk (by rw [hlD,List.length_map]; exact hl') (by
  intro x hx
  rw [zhI] at hx
  obtain ⟨i,hi,rfl⟩ := List.mem_map.mp hx
  have hg : ∀ m',gN ρ.length (.int i) (ρ ++ List.replicate 1 none) m' = .ok (ρ ++ [some (.int i)]) m' := fun m' => by
   show Res.ok ((ρ ++ [none]).set ρ.length (some (.int i))) m' = _
   rw [List.set_append_right _ _ (Nat.le_refl _),Nat.sub_self]
   rfl
  have hv : ∀ m',zae ρ.length (ρ ++ [some (.int i)]) m' = .ok (.int i) m' := fun m' => by
   unfold zae; rw [List.getElem?_append_right (Nat.le_refl _),Nat.sub_self]
   rfl
  refine ⟨_,hg _,?_,hv _⟩
  unfold tV eOp; rw [hv,bind_ok,hn,bind_ok]
  rfl)) hd,zhI,zn2 (fun k => decide (k < n)) (ltI n) (fun _ => rfl),zlK]
 unfold mxB
 split <;> rfl
theorem zhs {k : L2.Key} {d : D} : ∀ {acc : List (L2.Key × D)},zdc acc k = none -> zgB acc k d = acc ++ [(k,d)]
 | [],_ => rfl
 | p :: r,h => by
  unfold zdc at h
  by_cases e : p.1 = k
  ·rw [if_pos e] at h; cases h
  ·rw [if_neg e] at h
   unfold zgB; rw [if_neg e,zhs h]
   rfl
theorem zki {k : L2.Key} {q : L2.Key × D} (hq : q.1 ≠ k) : ∀ {acc : List (L2.Key × D)},zdc (acc ++ [q]) k = zdc acc k
 | [] => by show (if q.1 = k then some q.2 else none) = none; rw [if_neg hq]
 | p :: r => by
  show (if p.1 = k then some p.2 else zdc (r ++ [q]) k) = (if p.1 = k then some p.2 else zdc r k)
  rw [zki hq]
theorem zev {g : GV} {c : TV} {ek ev : EV} {ρ : En} {m : Sto} (b : Int -> Bool) (f : Int -> D) : ∀ (ks : List Int) (acc : List (L2.Key × D)),(∀ k ∈ ks,∃ ρ1,g (.int k) ρ m = .ok ρ1 m /\ c ρ1 m = .ok (b k) m /\ (b k = true -> ek ρ1 m = .ok (.int k) m /\ ev ρ1 m = .ok (f k) m)) -> ks.Nodup →
  (∀ k ∈ ks,zdc acc (.inl k) = none) -> ze0 g c ek ev ρ (ks.map D.int) acc m = .ok (acc ++ (ks.filter b).map fun k => (Sum.inl k,f k)) m
 | [],acc,_,_,_ => by rw [List.map_nil,ze0]; simp
 | k :: r,acc,h,hn,hd => by
  obtain ⟨ρ1,h1,h2,h3⟩ := h k List.mem_cons_self
  obtain ⟨n1,n2⟩ := List.nodup_cons.mp hn
  rw [List.map_cons,ze0,h1,bind_ok,h2,bind_ok,List.filter_cons]
  cases hb : b k with
  | false =>
   rw [if_neg Bool.false_ne_true,if_neg Bool.false_ne_true]
   exact zev b f r acc (fun k hk => h k (List.mem_cons_of_mem _ hk)) n2 fun k hk => hd k (List.mem_cons_of_mem _ hk)
  | true =>
   obtain ⟨h4,h5⟩ := h3 hb
   rw [if_pos rfl,if_pos rfl,h4,bind_ok,h5,bind_ok]
   show ze0 g c ek ev ρ (r.map D.int) (zgB acc (.inl k) (f k)) m = _
   rw [zhs (hd k List.mem_cons_self),zev b f r _ (fun k hk => h k (List.mem_cons_of_mem _ hk)) n2 fun j hj => by
    rw [zki fun z => n1 (by rw [Sum.inl.inj z]; exact hj)]
    exact hd j (List.mem_cons_of_mem _ hj)]
   simp
def lstV (hl : List (Int × List Int)) (bound : Int) : Int := (mxB bound (ksH hl)).getD bound
def zcF (hl : List (Int × List Int)) (bound : Int) : List (Int × List Int) := ((zc7 (ksH hl)).filter fun k => decide (lstV hl bound <= k)).map fun k => (k,(vlH hl k).getD [])
theorem ix_h {m : Sto} {h : Nat} {hl : List (Int × List Int)} {n : Int} {x : List Int} (hk : m[h]? = some (.dct (hlD hl))) (e : vlH hl n = some x) : ixD (.ob h) (.int n) m = .ok (zf8 x) m := by
 show (match m[h]? with
  | some (.lst ds) => opt (L2.atI ds n) m
  | some (.dct kvs) => opt (zdc kvs (.inl n)) m
  | _ => .bad) = _
 rw [hk]
 show opt (zdc (hlD hl) (.inl n)) m = _
 rw [zec,e]
 rfl
theorem in_h {m : Sto} {h : Nat} {hl : List (Int × List Int)} {n : Int} (hk : m[h]? = some (.dct (hlD hl))) : MD.inD (.int n) (.ob h) m = .ok (.bl (vlH hl n).isSome) m := by
 unfold MD.inD inO
 simp only [hk]; rw [zec,Option.isSome_map]
theorem zml {m : Sto} {h : Nat} {hl : List (Int × List Int)} (hk : m[h]? = some (.dct (hlD hl))) (hl' : hl.length < 64) : zdB [.ob h] m = .ok (.lst (zjV (zc7 (ksH hl)))) m := by
 unfold zdB dOf; simp only [hk,Option.bind_some,zgH]; rw [if_pos (by rw [ksH,List.length_map]; exact hl')]
theorem zqz {m : Sto} {h : Nat} {hl : List (Int × List Int)} {bound : Int} (hk : m[h]? = some (.dct (hlD hl))) (hl' : hl.length < 64) (hn : (ksH hl).Nodup) :
  zbf [.ob h,.int bound] m = .ok (.ob m.length) (m ++ [.dct (hlD (zcF hl bound))]) := by
 have hns : (zc7 (ksH hl)).Nodup := (zbd _).nodup_iff.mpr hn
 have key : Run (zbf [.ob h,.int bound] m) fun a m' => a = .ob m.length /\ m' = m ++ [.dct (hlD (zcF hl bound))] := by
  unfold zbf zfV; erw [maxK (k := h) (i1 := 3) (fi := zae 0) (fd := zae 1) (fn := zae 1) (ρ := [some (.ob h),some (.int bound),none]) (hl := hl) (n := bound) (d := .int bound) rfl rfl hk (by omega) (fun _ _ => rfl) rfl]; rw [orD_i,show (mxB bound (ksH hl)).getD bound = lstV hl bound from rfl]; ac_nf
  unfold zn9
  have hit : ∀ x,aIt (eFn zdB (zac (zae 0) zaj)) [some (.ob h),some (.int bound),x] m = .ok ((zc7 (ksH hl)).map D.int) m := fun x => by
   unfold aIt eFn zac zaj
   show ((zdB [.ob h] m).bind zj9) = _
   rw [zml hk hl',bind_ok]
   rfl
  rw [hit,bind_ok,if_pos (by rw [List.length_map,zfn,ksH,List.length_map]; omega)]
  rw [zev (fun k => decide (lstV hl bound <= k)) (fun k => zf8 ((vlH hl k).getD [])) _ [] (by
   intro k hk'
   obtain ⟨x,hx,_⟩ := zcO ((zbd _).mem_iff.mp hk')
   refine ⟨[some (.ob h),some (.int bound),some (.int (lstV hl bound)),some (.int k)],rfl,rfl,fun _ => ⟨rfl,?_⟩⟩
   show ixD (.ob h) (.int k) m = _
   rw [ix_h hk hx,hx]
   rfl) hns (fun _ _ => rfl),bind_ok]
  ac_nf
  refine Run.ok ⟨rfl,?_⟩
  rw [zcF,hlD,List.map_map]
  rfl
 obtain ⟨a,m',e,rfl,rfl⟩ := key
 exact e
def rdF (pt : D) (top : Option Int) (h : Nat) : List (Str × D) := [("pact", pt),("highest", zcy top),("held", .ob h)]
structure RdAt (m : Sto) (k h : Nat) (pt : Pt) (top : Option Int) (hl : List (Int × List Int)) : Prop where
 self : m[k]? = some (.ins "Reader" (rdF pt.e top h))
 dct : m[h]? = some (.dct (hlD hl))
 kh : k ≠ h
theorem RdAt.app {m r : Sto} {k h : Nat} {pt : Pt} {top : Option Int} {hl : List (Int × List Int)} (x : RdAt m k h pt top hl) : RdAt (m ++ r) k h pt top hl := ⟨zcp x.self,zcp x.dct,x.kh⟩
theorem RdAt.lt {m : Sto} {k h : Nat} {pt : Pt} {top : Option Int} {hl : List (Int × List Int)} (x : RdAt m k h pt top hl) : k < m.length /\ h < m.length := ⟨(List.getElem?_eq_some_iff.mp x.self).1,(List.getElem?_eq_some_iff.mp x.dct).1⟩
theorem RdAt.fr {m m' : Sto} {k h p q : Nat} {pt : Pt} {top : Option Int} {hl : List (Int × List Int)} (x : RdAt m k h pt top hl) (f : Fr p q m m') (a : k ≠ p) (b : k ≠ q) (c : h ≠ p) (d : h ≠ q) : RdAt m' k h pt top hl :=
 ⟨by rw [f.at' k x.lt.1 a b]; exact x.self,by rw [f.at' h x.lt.2 c d]; exact x.dct,x.kh⟩
section
variable {m : Sto} {k h : Nat} {pt : Pt} {top : Option Int} {hl : List (Int × List Int)} {n t : Int}
theorem RdAt.pact (x : RdAt m k h pt top hl) : zqj "Reader" "pact" (.ob k) m = .ok pt.e m := zn1 x.self rfl
theorem RdAt.high (x : RdAt m k h pt top hl) : zqj "Reader" "highest" (.ob k) m = .ok (zcy top) m := zn1 x.self rfl
theorem RdAt.held (x : RdAt m k h pt top hl) : zqj "Reader" "held" (.ob k) m = .ok (.ob h) m := zn1 x.self rfl
theorem RdAt.meth (x : RdAt m k h pt top hl) {f : Str} (e : (rdF pt.e top h).lookup f = none) : ziI "Reader" f (.ob k) m = true := mth_ok x.self e
theorem zkJ (r : Rd4) {m : Sto} : ixD r.e (.int 2) m = .ok (.int r.late) m := ix_t2 _ _ _ _
theorem zhm (x : RdAt m k h pt (some t) hl) : zaB [.ob k] m = .ok (.int (t - pt.rd.late)) m := by
 apply zaw
 unfold zaB zdZ; erw [x.high]; simp only [zcy]; erw [x.pact]; erw [ix_pt3]; erw [zkJ]; ac_nf; exact Run.ok ⟨rfl,rfl⟩
def zgm (pt : Pt) (top : Option Int) (n : Int) : Bool := decide (n < 0) || (match top with
 | some t => decide (n < t - pt.rd.late)
 | none => false)
theorem late_w (x : RdAt m k h pt top hl) : za4 [.ob k,.int n] m = .ok (.bl (zgm pt top n)) m := by
 apply zaw
 unfold za4 zdi; ac_nf
 by_cases hn : n < 0
 ·rw [if_pos hn]; ac_nf; exact Run.ok ⟨by simp [zgm,hn],rfl⟩
 ·rw [if_neg hn]; erw [x.high]
  cases top with
  | none =>
   simp only [zcy]; ac_nf; exact Run.ok ⟨by simp [zgm,hn],rfl⟩
  | some t =>
   simp only [zcy]; erw [if_pos (x.meth rfl)]; erw [zhm x]; ac_nf; exact Run.ok ⟨by simp [zgm,hn],rfl⟩
theorem zp6 (x : RdAt m k h pt top hl) (hl' : hl.length < 64) : zaO [.ob k,.int n] m = .ok (zcy (mxB n (ksH hl))) m := by
 apply zaw
 unfold zaO zcH; erw [maxK (k := h) (i1 := 2) (fi := zcw "Reader" "held" (zae 0)) (fd := eC .non) (fn := zae 1) (ρ := [some (.ob k),some (.int n)]) (hl := hl) (n := n) (d := .non) rfl x.held x.dct (by omega) (fun _ _ => rfl) rfl,orD_n]; ac_nf; exact Run.ok ⟨rfl,rfl⟩
def zqn (hl : List (Int × List Int)) (n : Int) (reach : Nat) : Bool := match mxB n (ksH hl) with
 | none => true
 | some f => decide ((reach : Int) < n - f)
theorem far_w {reach : Nat} (x : RdAt m k h pt top hl) (hl' : hl.length < 64) : zbg [.ob k,.int n,.int reach] m = .ok (.bl (zqn hl n reach)) m := by
 apply zaw
 unfold zbg zd0; erw [if_pos (x.meth rfl)]; erw [zp6 x hl']
 unfold zqn
 cases mxB n (ksH hl) with
 | none =>
  simp only [zcy]; ac_nf; exact Run.ok ⟨rfl,rfl⟩
 | some f =>
  simp only [zcy]; ac_nf; exact Run.ok ⟨rfl,rfl⟩
def zcG (pt : Pt) (hl : List (Int × List Int)) (at' : Option Nat) (n : Int) (bits : List Nat) : List Int := match at' with
 | none => (List.range (pt.fs.map fun f => f.b).length).map (zjM bits (pt.fs.map fun f => f.b))
 | some i => match mxB n (ksH hl) with
  | none => []
  | some f => hdV pt.fs (zbE pt (some i)).wys ((vlH hl f).getD []) (n - f) bits pt.fs.length
theorem zej {n f : Int} {ks : List Int} (e : mxB n ks = some f) : f ∈ ks /\ f < n /\ ∀ g ∈ ks,g < n -> g <= f := by
 unfold mxB at e
 split at e
 ·cases e
 ·rename_i hne
  have e := Option.some.inj e
  have h1 := zpr hne
  have h2 := fun g (hg : g ∈ ks.filter fun k => decide (k < n)) => zrY hg
  rw [e] at h1 h2
  rw [List.mem_filter] at h1
  exact ⟨h1.1,by simpa using h1.2,fun g hg hlt => h2 g (List.mem_filter.mpr ⟨hg,by simpa using hlt⟩)⟩
theorem zhF {n : Int} {ks : List Int} (e : mxB n ks = none) : ∀ g ∈ ks,n <= g := fun g hg => by
 unfold mxB at e
 split at e
 ·rename_i h
  have := List.filter_eq_nil_iff.mp h g hg
  simp at this
  exact this
 ·cases e
end
section
variable {m : Sto} {k h : Nat} {pt : Pt} {top : Option Int} {hl : List (Int × List Int)} {n t : Int}
def zbJ (top : Option Int) (n : Int) : Int := match top with
 | none => n
 | some t => if t < n then n else t
theorem Fr.app {p q : Nat} {m r : Sto} : Fr p q m (m ++ r) := ⟨by rw [List.length_append]; omega,fun j hj _ _ => List.getElem?_append_left hj⟩
theorem zkv (x : RdAt m k h pt top hl) (hl' : hl.length < 64) (hn : (ksH hl).Nodup) : Run (zaY [.ob k,.int n] m) fun a m' => a = .non /\ RdAt m' k m.length pt (some (zbJ top n)) (zcF hl (zbJ top n - pt.rd.late)) /\ Fr k h m m' := by
 have e1 : (eIf (tV (eOp isD (zcw "Reader" "highest" (zae 0)) (eC .non))) (zae 1) (eFn zhH (zac (zcw "Reader" "highest" (zae 0)) (zac (zae 1) zaj)))) [some (.ob k),some (.int n)] m = .ok (zcy (some (zbJ top n))) m := by
  erw [x.high]
  cases top with
  | none => simp only [zcy]; ac_nf; rfl
  | some t =>
   simp only [zcy]; erw [x.high]; simp only [zcy]; ac_nf
   rfl
 unfold zaY zeD
 have key : ∀ (fo : EV) (s : SV),Run ((zap (zdm "Reader" "highest" (zae 0) fo) s [some (.ob k),some (.int n)] m).bind ziZ) = Run ((((fo [some (.ob k),some (.int n)] m).bind fun y m1 => (zoK "Reader" "highest" (.ob k) y m1).bind fun _ m3 => s [some (.ob k),some (.int n)] m3)).bind ziZ) := by
  intro fo s
  congr 2
  unfold zap zdm
  cases fo [some (.ob k),some (.int n)] m with
  | ok y m1 =>
   simp only [bind_ok]
   show Res.bind (Res.bind (Res.bind (zae 0 [some (.ob k),some (.int n)] m1) _) _) _ = _
   show Res.bind (Res.bind (zoK "Reader" "highest" (.ob k) y m1) _) _ = _
   cases zoK "Reader" "highest" (.ob k) y m1 <;> rfl
  | exc => rfl
  | bad => rfl
 rw [show za8 2 (zap (zdm "Reader" "highest" (zae 0) (eIf (tV (eOp isD (zcw "Reader" "highest" (zae 0)) (eC .non))) (zae 1) (eFn zhH (zac (zcw "Reader" "highest" (zae 0)) (zac (zae 1) zaj))))) (zdm "Reader" "held" (zae 0) (eFn zbf (zac (zcw "Reader" "held" (zae 0)) (zac (zdx "Reader" "least" zaB (zae 0) zaj) zaj))))) [.ob k,.int n] m = Res.bind (zap (zdm "Reader" "highest" (zae 0) (eIf (tV (eOp isD (zcw "Reader" "highest" (zae 0)) (eC .non))) (zae 1) (eFn zhH (zac (zcw "Reader" "highest" (zae 0)) (zac (zae 1) zaj))))) (zdm "Reader" "held" (zae 0) (eFn zbf (zac (zcw "Reader" "held" (zae 0)) (zac (zdx "Reader" "least" zaB (zae 0) zaj) zaj)))) [some (.ob k),some (.int n)] m) ziZ from rfl,key,e1,bind_ok,zfo x.self (by show 3 < 1000; decide),bind_ok]
 have x1 : RdAt (m.set k (.ins "Reader" (rdF pt.e (some (zbJ top n)) h))) k h pt (some (zbJ top n)) hl := ⟨zbb x.self,by rw [zaF x.kh]; exact x.dct,x.kh⟩
 have f1 : Fr k h m (m.set k (.ins "Reader" (rdF pt.e (some (zbJ top n)) h))) := Fr.set
 have l1 : (m.set k (.ins "Reader" (rdF pt.e (some (zbJ top n)) h))).length = m.length := List.length_set ..
 rw [show zeT "highest" (zcy (some (zbJ top n))) (rdF pt.e top h) = rdF pt.e (some (zbJ top n)) h from rfl]; generalize m.set k (.ins "Reader" (rdF pt.e (some (zbJ top n)) h)) = m1 at x1 f1 l1 ⊢; erw [x1.held]; erw [if_pos (x1.meth rfl)]; erw [zhm x1]; erw [zqz x1.dct hl' hn]; ac_nf
 have x2 := x1.app (r := [.dct (hlD (zcF hl (zbJ top n - pt.rd.late)))])
 rw [zfo x2.self (by show 3 < 1000; decide)]; ac_nf
 have hkl := x1.lt
 refine Run.ok ⟨rfl,⟨?_,?_,by omega⟩,(f1.trans Fr.app).trans Fr.set⟩
 ·rw [zbb x2.self]
  rfl
 ·rw [zaF (by omega),<- l1]
  simp
end
theorem zpg {pt : Pt} {at' : Option Nat} {num bits : List Nat} {ck : Int} {m : Sto} (h : PtW pt) (hl : LtB pt at' (num ++ bits) ck) (hq : num.length = (zbE pt at').b) : zen [pt.e,.str ⟨(ltB pt at' (num ++ bits) ck).toArray⟩] m = .ok (.tup [onD at',.int (zdq num),.str ⟨bits.toArray⟩,.int ck]) m := by
 have hb := zp8 h hl.a
 have hn := zrV hl
 have hc0 := hl.c0
 have hc1 := hl.c1
 have h0 := h.n0
 have hll := hl.l
 rw [List.length_append] at hll
 have e1 : ∀ m,ixD (zbE pt at').e (.int 1) m = .ok (.int (zbE pt at').b) m := fun m => ix_t1 _ _ _
 have ez : lsz pt at' = wdN (1 + pt.fms.length) + (zbE pt at').b + (zdb pt.fs (zbE pt at').wys).sum + wdN pt.n.toNat := rfl
 have ed : (ltB pt at' (num ++ bits) ck).drop (lsz pt at' - wdN pt.n.toNat) = dgs ck (wdN pt.n.toNat) := by
  unfold ltB; rw [<- List.append_assoc]
  exact List.drop_left' (by rw [List.length_append,zaI,hl.l]; omega)
 have en : ((ltB pt at' (num ++ bits) ck).drop (wdN (1 + pt.fms.length))).take (zbE pt at').b = num := by
  unfold ltB; rw [List.drop_left' (zaI _ _),List.append_assoc]
  exact List.take_left' hq
 have eb : ((ltB pt at' (num ++ bits) ck).drop (wdN (1 + pt.fms.length) + (zbE pt at').b)).take (lsz pt at' - wdN pt.n.toNat - (wdN (1 + pt.fms.length) + (zbE pt at').b)) = bits := by
  unfold ltB; rw [<- List.drop_drop,List.drop_left' (zaI _ _),List.append_assoc,List.drop_left' hq]
  exact List.take_left' (by omega)
 apply zaw
 unfold zen zkO; erw [zot (zrW hl)]; erw [show zb7 [pt.e,.str ⟨(ltB pt at' (num ++ bits) ck).toArray⟩] m = .ok (onD at') m from zle h hl.a (by rw [show (dgs (zl2 at') (wdN (1 + pt.fms.length)) ++ ((num ++ bits) ++ dgs ck (wdN pt.n.toNat))).length = lsz pt at' from hn]; omega)]; erw [zqa (by omega)]; erw [ziy h hl.a,hn]
 erw [zjp h]; erw [zd4 h hl.a]; erw [e1]; erw [zqa (by omega),hn]; erw [zk5 h]; erw [show ((lsz pt at' : Nat) : Int) - (wdN pt.n.toNat : Nat) = ((lsz pt at' - wdN pt.n.toNat : Nat) : Int) by omega,sl_txH (by omega) (by omega),ed]; erw [zhE (zdy _ _),znf hc0 (by omega)]; ac_nf
 rw [zfP]; erw [show ixD (shD pt.fs pt.n) (.int 1) m = .ok (.int pt.n) m from ix_t1 _ _ _]; erw [if_neg (by omega)]; erw [show ((wdN (1 + pt.fms.length) : Nat) : Int) + ((zbE pt at').b : Nat) = ((wdN (1 + pt.fms.length) + (zbE pt at').b : Nat) : Int) by omega,zpV (by omega) (by omega) (by omega),Nat.add_sub_cancel_left,en]; erw [zhE (fun c hc => hl.b c (List.mem_append_left _ hc))]
 erw [zpV (by omega) (by omega) (by omega),eb]; erw [show zbG [onD at',.int (zdq num),.str ⟨bits.toArray⟩,.int ck] m = .ok (.tup [onD at',.int (zdq num),.str ⟨bits.toArray⟩,.int ck]) m from if_pos (zbh (by simp))]; ac_nf; exact Run.ok ⟨rfl,rfl⟩
def ckI (pt : Pt) (number : Int) (hd : List Int) : Int := (number + ckS hd) % pt.n
def ckFn (d : D) : D := match d with
 | .tup [.int i,.int v] => D.int ((i + 2) * v)
 | _ => .non
theorem zn8 (hd : List Int) : (zbS 0 (hd.map D.int)).map ckFn = ((List.range hd.length).map fun i : Nat => (((0 + i : Nat) : Int) + 2) * hd.getD i 0).map D.int := zkZ hd hd 0
theorem zol {pt : Pt} {number : Int} {hd : List Int} {m : Sto} (h : PtW pt) (hh : HdOk pt.fs hd) : zc3 [shD pt.fs pt.n,.int number,zf8 hd] m = .ok (.int (ckI pt number hd)) m := by
 have hl := hh.len
 have h1 := h.f1
 apply zaw
 unfold zc3 ziW zf8; ac_nf
 rw [zcN (ds := zbS 0 (hd.map D.int)) ckFn (by ac_nf) (by rw [zfh]; omega) (by
  intro d hd'
  obtain ⟨i,hi⟩ := List.mem_iff_getElem?.mp hd'
  obtain ⟨v,hv,rfl⟩ := zhO hi
  have hil := (List.getElem?_eq_some_iff.mp hv).1
  refine ⟨_,rfl,?_⟩
  show (eOp zdh (eOp zbm (zae 3) (eC (.int 2))) (zae 4)) [some (shD pt.fs pt.n),some (.int number),some (.tup (hd.map D.int)),some (.int ((0 + i : Nat) : Int)),some (.int v)] m = _
  erw [zhG ⟨by omega,by omega⟩]
  rfl)]
 ac_nf
 rw [zn8 hd,sum_i ⟨fun a ha' => by
  simp only [List.mem_map,List.mem_range] at ha'
  obtain ⟨i,hi,rfl⟩ := ha'
  have e1 := List.getElem?_eq_getElem (show i < pt.fs.length by omega)
  have e2 := List.getElem?_eq_getElem hi
  obtain ⟨v0,v1⟩ := hh.at' i _ _ e1 e2
  have hB := p2le (h.sh i _ e1).2.1
  simp only [List.getD,e2,Option.getD_some]
  have hk : ((0 + i : Nat) : Int) + 2 <= 14 := by omega
  have hk0 : 0 <= ((0 + i : Nat) : Int) + 2 := by omega
  generalize ((0 + i : Nat) : Int) + 2 = q at hk hk0; generalize hd[i] = v at v0 v1
  refine ⟨Int.mul_nonneg hk0 v0,?_⟩
  have : q * v <= 14 * v := Int.mul_le_mul_of_nonneg_right hk v0
  omega,by simp; omega⟩]
 erw [show ixD (shD pt.fs pt.n) (.int 1) m = .ok (.int pt.n) m from ix_t1 _ _ _]; erw [zco h.n0]
 refine Run.ok ⟨?_,rfl⟩
 unfold ckI ckS; simp only [Nat.zero_add]
theorem wsW (pt : Pt) : zdb pt.fs (fmW pt).wys = pt.fs.map fun f => f.b := by
 unfold zdb fmW
 induction pt.fs with
 | nil => rfl
 | cons f r ih =>
  show Wy.w f.b .whole :: List.zipWith (fun f w => Wy.w f.b w) r (List.replicate r.length .whole) = _
  rw [ih]
  rfl
section
variable {m : Sto} {k h : Nat} {pt : Pt} {top : Option Int} {hl : List (Int × List Int)} {n t : Int}
theorem ziJ {at' : Option Nat} {bits : List Nat} (x : RdAt m k h pt top hl) (hp : PtW pt) (ha : zpO pt at') (hl' : hl.length < 64) (hb : Bin bits) (hbl : bits.length = (zdb pt.fs (zbE pt at').wys).sum) (hf : at' ≠ none -> ∃ f,mxB n (ksH hl) = some f) (hhs : ∀ p ∈ hl,HdOk pt.fs p.2) :
  zaQ [.ob k,onD at',.int n,.str ⟨bits.toArray⟩] m = .ok (zf8 (zcG pt hl at' n bits)) m := by
 have h1 := hp.f1
 have hfm := zkV hp ha
 have hsz : bits.length <= 700 := by
  have := (zp8 hp ha).2
  unfold lsz at this
  omega
 have hsl : (⟨bits.toArray⟩ : Str).length <= sizeLine := by
  show bits.toArray.size <= sizeLine
  rw [List.size_toArray]
  exact Nat.le_trans hsz (by decide)
 apply zaw
 unfold zaQ zcv
 cases at' with
 | none =>
  simp only [onD]; erw [x.pact]; erw [zfP]; erw [zaw (zeO (by omega))]; ac_nf
  rw [show (pt.fs.map fun f => D.int f.b) = (pt.fs.map fun f => f.b).map (fun k : Nat => D.int k) by rw [List.map_map]; rfl,zaw (zfE (z := ⟨bits.toArray⟩) hb hsl (by
   show _ <= bits.toArray.size
   rw [List.size_toArray,hbl,show zbE pt none = fmW pt from rfl,wsW]
   exact Nat.le_refl _) (by rw [List.length_map]; omega))]
  ac_nf; exact Run.ok ⟨rfl,rfl⟩
 | some i =>
  obtain ⟨f,hf⟩ := hf (by simp)
  obtain ⟨hm,_,_⟩ := zej hf
  obtain ⟨fo,e1,e2⟩ := zcO hm
  simp only [onD]; erw [if_pos (x.meth rfl)]; erw [zp6 x hl',hf]; simp only [zcy]; erw [x.pact]; erw [zfP]; erw [x.pact]; erw [show za0 [pt.e,.int i] m = .ok (zbE pt (some i)).e m from zd4 (at' := some i) hp ha]; erw [x.held]; erw [ix_h x.dct e1]; ac_nf
  unfold Fm.e zf8
  rw [zaw (zlp hp.sh h1 hfm.wy (hhs _ e2) (z := ⟨bits.toArray⟩) hb hsl (by show bits.toArray.size = _; rw [List.size_toArray]; exact hbl))]; ac_nf
  refine Run.ok ⟨?_,rfl⟩
  unfold zcG; simp only [hf,e1,Option.getD_some]
end
def zp5 (x : Str) : D := .tup [.str "not", .str x]
def twD (n : Int) : D := .tup [.str "twice", .int n]
def rdD (n : Int) (hd : List Int) : D := .tup [.str "read", .int n,zf8 hd]
def zpl (pt : Pt) (top : Option Int) (at' : Option Nat) (r : Int) : Int := match at',top with
 | some i,some t => (t - pt.rd.late) + (r - (t - pt.rd.late)) % 2 ^ (zbE pt (some i)).b
 | _,_ => r
def rdN (pt : Pt) (top : Option Int) (hl : List (Int × List Int)) (at' : Option Nat) (n : Int) (bits : List Nat) (ck : Int) : D × Option Int × List (Int × List Int) :=
 if zgm pt top n = true then (zp5 "late", top,hl)
 else if n ∈ ksH hl then (twD n,top,hl)
 else if at' ≠ none /\ zqn hl n (zbE pt at').a = true then (zp5 "far", some (zbJ top n),zcF hl (zbJ top n - pt.rd.late))
 else if ckI pt n (zcG pt hl at' n bits) ≠ ck then (zp5 "check", top,hl)
 else (rdD n (zcG pt hl at' n bits),some (zbJ top n),zcF (hl ++ [(n,zcG pt hl at' n bits)]) (zbJ top n - pt.rd.late))
def rdV (pt : Pt) (top : Option Int) (hl : List (Int × List Int)) (at' : Option Nat) (r : Int) (bits : List Nat) (ck : Int) : D × Option Int × List (Int × List Int) :=
 if at' ≠ none /\ top = none then (zp5 "blank", top,hl) else rdN pt top hl at' (zpl pt top at' r) bits ck
def zmC : SV := by walk_at "#v+yoyp6iLu-vyTw7!yqRvn9Lw]av,yrHwTv*,u+v}x*x+v|kv^Lw]"
def zmB : SV := by walk_at "#ruUu*yiyjv|v,xlHTz$,v*kx)LHruX]v]w`uUu*ylym6v{!v[wau;9#v}x*x+v|v,ynH|J"
theorem znV : zeE = (zap (zaH (eFn zen (zac (zcw "Reader" "pact" (zae 0)) (zac (zae 1) zaj))) (gT 4 (zaP (gN 2) (zaP (gN 3) (zaP (gN 4) (zaP (gN 5) zeY))))))
 (zap (sIf (tV (eOp zeX (zae 2) (eC .non)))
 (zap (sIf (tV (eOp isD (zcw "Reader" "highest" (zae 0)) (eC .non)))
 (zaE (eFn zbG (zac (eC (.str "not")) (zac (eC (.str "blank")) zaj))))
 zba)
 (zaH (eFn za9 (zac (zdx "Reader" "least" zaB (zae 0) zaj) (zac (zae 3) (zac (eOp ixD (eFn za0 (zac (zcw "Reader" "pact" (zae 0)) (zac (zae 2) zaj))) (eC (.int 1))) zaj)))) (gN 3)))
 zba) zmB)) := rfl
theorem zk8 {l r : Int} {w : Nat} {m : Sto} (hw : w <= 1000000) : za9 [.int l,.int r,.int w] m = .ok (.int (l + (r - l) % 2 ^ w)) m := by
 apply zaw
 unfold za9 zel; erw [zaw (zb4 hw)]; ac_nf; exact Run.ok ⟨rfl,rfl⟩
theorem put_h {m : Sto} {h : Nat} {hl : List (Int × List Int)} {n : Int} {x : List Int} (hk : m[h]? = some (.dct (hlD hl))) (hn : n ∉ ksH hl) (hl' : hl.length < 1000) : zgg (.ob h) (.int n) (zf8 x) m = .ok () (m.set h (.dct (hlD (hl ++ [(n,x)])))) := by
 unfold zgg; simp only [hk,zgn]; rw [if_pos (by rw [hlD,List.length_map]; exact zcP (by omega)),zhs (by rw [zec,vlH_none.mpr hn]; rfl)]
 congr 3
 unfold hlD; rw [List.map_append]
 rfl
section
variable {m : Sto} {k h : Nat} {pt : Pt} {top : Option Int} {hl : List (Int × List Int)} {n t : Int} {at' : Option Nat} {bits : List Nat} {ck : Int}
def RdB (m : Sto) (k h : Nat) (pt : Pt) (v : D × Option Int × List (Int × List Int)) (a : D) (m' : Sto) : Prop := ∃ h',a = v.1 /\ RdAt m' k h' pt v.2.1 v.2.2 /\ Fr k h m m' /\ (h' = h ∨ m.length <= h')
theorem zkk {x1 x6 : Option D} (x : RdAt m k h pt top hl) (hp : PtW pt) (ha : zpO pt at') (hl' : hl.length < 63) (hn : (ksH hl).Nodup) (hb : Bin bits) (hbl : bits.length = (zdb pt.fs (zbE pt at').wys).sum) (hhs : ∀ p ∈ hl,HdOk pt.fs p.2)
  (hok : zgm pt top n = false -> n ∉ ksH hl -> (at' = none ∨ zqn hl n (zbE pt at').a = false) -> HdOk pt.fs (zcG pt hl at' n bits)) :
  Run ((zmB [some (.ob k),x1,some (onD at'),some (.int n),some (.str ⟨bits.toArray⟩),some (.int ck),x6] m).bind ziZ) (RdB m k h pt (rdN pt top hl at' n bits ck)) := by
 unfold zmB; erw [if_pos (x.meth rfl)]; erw [late_w x]
 unfold rdN
 cases hlt : zgm pt top n with
 | true =>
  rw [if_pos rfl]; ac_nf; exact Run.ok ⟨h,rfl,x,Fr.refl,.inl rfl⟩
 | false =>
 rw [if_neg Bool.false_ne_true]; erw [x.held]; erw [in_h x.dct]
 by_cases hk : n ∈ ksH hl
 ·obtain ⟨y,hy,_⟩ := zcO hk
  rw [if_pos hk,hy]; simp only [Option.isSome_some]; ac_nf; exact Run.ok ⟨h,rfl,x,Fr.refl,.inl rfl⟩
 rw [if_neg hk,vlH_none.mpr hk]; simp only [Option.isSome_none]; ac_nf
 have last : (at' = none ∨ zqn hl n (zbE pt at').a = false) -> Run ((zmC [some (.ob k),x1,some (onD at'),some (.int n),some (.str ⟨bits.toArray⟩),some (.int ck),x6] m).bind ziZ)
  (RdB m k h pt (if ckI pt n (zcG pt hl at' n bits) ≠ ck then (zp5 "check", top,hl) else (rdD n (zcG pt hl at' n bits),some (zbJ top n),zcF (hl ++ [(n,zcG pt hl at' n bits)]) (zbJ top n - pt.rd.late)))) := by
  intro hfar
  have hh := hok hlt hk hfar
  unfold zmC; erw [if_pos (x.meth rfl)]; ac_nf
  rw [ziJ x hp ha (by omega) hb hbl (fun hne => by
   rcases hfar with z | z
   ·exact absurd z hne
   ·unfold zqn at z
    cases e : mxB n (ksH hl) with
    | none => rw [e] at z; cases z
    | some f => exact ⟨f,rfl⟩) hhs]
  erw [x.pact]; erw [zfP]; erw [zol hp hh]; ac_nf
  by_cases hck : ckI pt n (zcG pt hl at' n bits) = ck
  ·rw [if_neg (by simpa using hck)]; rw [if_neg (not_not_intro hck)]; erw [x.held]; erw [put_h x.dct hk (by omega)]; ac_nf
   have x2 : RdAt (m.set h (.dct (hlD (hl ++ [(n,zcG pt hl at' n bits)])))) k h pt top (hl ++ [(n,zcG pt hl at' n bits)]) := ⟨by rw [zaF (Ne.symm x.kh)]; exact x.self,zbb x.dct,x.kh⟩
   have f2 : Fr k h m (m.set h (.dct (hlD (hl ++ [(n,zcG pt hl at' n bits)])))) := Fr.set'
   have l2 : (m.set h (.dct (hlD (hl ++ [(n,zcG pt hl at' n bits)])))).length = m.length := List.length_set ..
   generalize m.set h (.dct (hlD (hl ++ [(n,zcG pt hl at' n bits)]))) = m2 at x2 f2 l2 ⊢; rw [if_pos (x2.meth rfl)]; ac_nf
   refine Run.bind (zkv x2 (by rw [List.length_append]; show hl.length + 1 < 64; omega) (by
    unfold ksH at hn hk ⊢
    rw [List.map_append,List.nodup_append]
    refine ⟨hn,by simp,fun a ha b hb e => hk ?_⟩
    have : b = n := by simpa using hb
    rw [<- this,<- e]
    exact ha)) ?_
   rintro _ m3 ⟨rfl,x3,f3⟩; ac_nf; exact Run.ok ⟨_,rfl,x3,f2.trans f3,.inr (by omega)⟩
  ·rw [if_pos (by simpa using hck)]; rw [if_pos hck]; ac_nf; exact Run.ok ⟨h,rfl,x,Fr.refl,.inl rfl⟩
 cases at' with
 | none =>
  rw [if_neg (by simp)]
  have := last (.inl rfl)
  simp only [onD] at this ⊢
  ac_nf
  exact this
 | some i =>
  simp only [onD] at last ⊢
  erw [if_pos (x.meth rfl)]; erw [x.pact]; erw [show za0 [pt.e,.int i] m = .ok (zbE pt (some i)).e m from zd4 (at' := some i) hp ha]; erw [show ixD (zbE pt (some i)).e (.int 0) m = .ok (.int (zbE pt (some i)).a) m from ix_t0 _ _]; erw [far_w x (by omega)]
  cases hf : zqn hl n (zbE pt (some i)).a with
  | true =>
   rw [if_pos ⟨by simp,rfl⟩]; erw [if_pos (x.meth rfl)]; ac_nf; refine Run.bind (zkv x (by omega) hn) ?_; rintro _ m3 ⟨rfl,x3,f3⟩; ac_nf; exact Run.ok ⟨_,rfl,x3,f3,.inr (Nat.le_refl _)⟩
  | false =>
   rw [if_neg (by simp)]
   have := last (.inr hf)
   ac_nf
   exact this
theorem zoX {num : List Nat} (x : RdAt m k h pt top hl) (hp : PtW pt) (hL : LtB pt at' (num ++ bits) ck) (hq : num.length = (zbE pt at').b) (hl' : hl.length < 63) (hn : (ksH hl).Nodup) (hhs : ∀ p ∈ hl,HdOk pt.fs p.2)
  (hok : zgm pt top (zpl pt top at' (zdq num)) = false -> zpl pt top at' (zdq num) ∉ ksH hl -> (at' = none ∨ zqn hl (zpl pt top at' (zdq num)) (zbE pt at').a = false) -> HdOk pt.fs (zcG pt hl at' (zpl pt top at' (zdq num)) bits)) :
  Run (zbp [.ob k,.str ⟨(ltB pt at' (num ++ bits) ck).toArray⟩] m) (RdB m k h pt (rdV pt top hl at' (zdq num) bits ck)) := by
 have hb : Bin bits := fun c hc => hL.b c (List.mem_append_right _ hc)
 have hbl : bits.length = (zdb pt.fs (zbE pt at').wys).sum := by
  have := hL.l
  rw [List.length_append] at this
  omega
 have hb1 := (zkV hp hL.a).b1
 unfold zbp; rw [znV]; erw [x.pact]; erw [zpg hp hL hq]; ac_nf
 unfold rdV
 cases at' with
 | none =>
  rw [if_neg (by simp)]
  have := zkk (x1 := some (.str ⟨(ltB pt none (num ++ bits) ck).toArray⟩)) (x6 := none) x hp hL.a hl' hn hb hbl hhs (n := zpl pt top none (zdq num)) (ck := ck) hok
  simp only [onD] at this ⊢
  ac_nf
  exact this
 | some i =>
  simp only [onD]; erw [x.high]
  cases top with
  | none =>
   simp only [zcy]; rw [if_pos ⟨by simp,by simp⟩]; ac_nf; exact Run.ok ⟨h,rfl,x,Fr.refl,.inl rfl⟩
  | some t =>
   simp only [zcy]; rw [if_neg (by simp)]; erw [if_pos (x.meth rfl)]; erw [zhm x]; erw [x.pact]; erw [show za0 [pt.e,.int i] m = .ok (zbE pt (some i)).e m from zd4 (at' := some i) hp hL.a]; erw [show ixD (zbE pt (some i)).e (.int 1) m = .ok (.int (zbE pt (some i)).b) m from ix_t1 _ _ _]; erw [zk8 (by omega)]
   have := zkk (x1 := some (.str ⟨(ltB pt (some i) (num ++ bits) ck).toArray⟩)) (x6 := none) x hp hL.a hl' hn hb hbl hhs (n := zpl pt (some t) (some i) (zdq num)) (ck := ck) hok
   simp only [onD] at this
   ac_nf
   exact this
end
theorem zrO {n f : Int} {ks : List Int} : mxB n ks = some f ↔ f ∈ ks /\ f < n /\ ∀ g ∈ ks,g < n -> g <= f := by
 constructor
 ·exact zej
 ·rintro ⟨h1,h2,h3⟩
  cases e : mxB n ks with
  | none => have := zhF e f h1; omega
  | some g =>
   obtain ⟨g1,g2,g3⟩ := zej e
   have a := h3 g g1 g2
   have b := g3 f h1 h2
   congr 1
   omega
theorem zit {n : Int} {ks : List Int} : mxB n ks = none ↔ ∀ g ∈ ks,n <= g := by
 constructor
 ·exact zhF
 ·intro h
  cases e : mxB n ks with
  | none => rfl
  | some g =>
   obtain ⟨g1,g2,g3⟩ := zej e
   have := h g g1
   omega
theorem zrP {n : Int} {ks ks' : List Int} (h : ∀ x,x < n -> (x ∈ ks ↔ x ∈ ks')) : mxB n ks = mxB n ks' := by
 cases e : mxB n ks' with
 | none =>
  rw [zit] at e ⊢
  intro g hg
  rcases Int.lt_or_le g n with z | z
  ·exact e g ((h g z).mp hg)
  ·exact z
 | some f =>
  rw [zrO] at e ⊢
  obtain ⟨a,b,c⟩ := e
  exact ⟨(h f b).mpr a,b,fun g hg hn => c g ((h g hn).mp hg) hn⟩
def kpF (e : Int) (ns : List Int) : List Int := zc7 (ns.filter fun x => decide (e <= x) || decide (mxB e ns = some x))
theorem mem_kpF {e x : Int} {ns : List Int} : x ∈ kpF e ns ↔ x ∈ ns /\ (e <= x ∨ mxB e ns = some x) := by
 unfold kpF; rw [(zbd _).mem_iff,List.mem_filter]
 simp
theorem ziB {e : Int} {ns : List Int} (h : ns.Nodup) : (kpF e ns).Nodup := (zbd _).nodup_iff.mpr (h.sublist List.filter_sublist)
theorem zrZ (e : Int) (ns : List Int) : (kpF e ns).length <= ns.length := by
 unfold kpF; rw [zfn]
 exact List.length_filter_le _ _
theorem zgF (e : Int) (ns : List Int) : (kpF e ns).Pairwise (· <= ·) := zcA _
theorem zld {a b : List Int} (ha : a.Nodup) (hb : b.Nodup) (sa : a.Pairwise (· <= ·)) (sb : b.Pairwise (· <= ·)) (h : ∀ x,x ∈ a ↔ x ∈ b) : a = b :=
 PySem.W.ksm_same ((List.perm_ext_iff_of_nodup ha hb).mpr h) sa sb
theorem ziC {e : Int} {ks : List Int} (hn : ks.Nodup) : ((zc7 ks).filter fun k => decide ((mxB e ks).getD e <= k)) = kpF e ks := by
 refine zld ((((zbd _).nodup_iff.mpr hn)).sublist List.filter_sublist) (ziB hn) ((zcA ks).sublist List.filter_sublist) (zgF _ _) fun x => ?_
 rw [List.mem_filter,(zbd _).mem_iff,mem_kpF]
 constructor
 ·rintro ⟨h1,h2⟩
  refine ⟨h1,?_⟩
  have h2 : (mxB e ks).getD e <= x := by simpa using h2
  cases h : mxB e ks with
  | none => rw [h] at h2; exact .inl h2
  | some f =>
   rw [h] at h2
   obtain ⟨a,b,c⟩ := zej h
   rcases Int.lt_or_le x e with q | q
   ·right
    have := c x h1 q
    have h2 : f <= x := h2
    congr 1
    omega
   ·exact .inl q
 ·rintro ⟨h1,h2⟩
  refine ⟨h1,?_⟩
  simp only [decide_eq_true_eq]
  cases h : mxB e ks with
  | none => exact zhF h x h1
  | some f =>
   rw [h] at h2
   obtain ⟨a,b,c⟩ := zej h
   show f <= x
   rcases h2 with h2 | h2
   ·omega
   ·have := Option.some.inj h2
    omega
theorem zfg {hl : List (Int × List Int)} {e : Int} (hn : (ksH hl).Nodup) : ksH (zcF hl e) = kpF e (ksH hl) := by
 rw [<- ziC hn]
 unfold ksH zcF lstV; rw [List.map_map]
 exact List.map_id _
section
variable {m : Sto} {k h : Nat} {pt : Pt} {top : Option Int} {hl : List (Int × List Int)} {n t : Int}
theorem rtop_w (x : RdAt m k h pt top hl) : zbH [.ob k] m = .ok (zcy top) m := by
 apply zaw
 unfold zbH zfX; erw [x.high]; ac_nf; exact Run.ok ⟨rfl,rfl⟩
theorem zmy (x : RdAt m k h pt top hl) : zaR [.ob k] m = .ok (.ob m.length) (m ++ [.dct (hlD hl)]) := by
 have key : Run (zaR [.ob k] m) fun a m' => a = .ob m.length /\ m' = m ++ [.dct (hlD hl)] := by
  unfold zaR zeF; erw [x.held]; erw [show dctF [.ob h] m = .ok (.ob m.length) (m ++ [.dct (hlD hl)]) by unfold dctF; simp only [x.dct]]; ac_nf; exact Run.ok ⟨rfl,rfl⟩
 obtain ⟨a,m',e,rfl,rfl⟩ := key
 exact e
theorem zqT (pt : Pt) (m : Sto) : Run (mkM "Reader" zbq [pt.e] m) fun a m' => a = .ob m.length /\ RdAt m' m.length (m.length + 1) pt none [] /\ ∃ r,m' = m ++ r := by
 unfold mkM zbq zeG; ac_nf
 have e0 : ∀ fs : List (Str × D),(m ++ [MO.ins "Reader" fs])[m.length]? = some (.ins "Reader" fs) := fun fs => by simp
 have es0 : ∀ fs gs : List (Str × D),(m ++ [MO.ins "Reader" fs]).set m.length (.ins "Reader" gs) = m ++ [.ins "Reader" gs] := fun fs gs => by
  rw [List.set_append_right _ _ (Nat.le_refl _),Nat.sub_self]; rfl
 rw [zfo (e0 _) (by show 0 < 1000; decide),es0]; erw [zfo (e0 _) (by show 1 < 1000; decide),es0]; erw [show ∀ (ρ : En) (m : Sto),zcr [] ρ m = .ok (.ob m.length) (m ++ [.dct []]) from fun _ _ => rfl]; ac_nf
 have e1 : ∀ fs : List (Str × D),(m ++ [MO.ins "Reader" fs] ++ [MO.dct []])[m.length]? = some (.ins "Reader" fs) := fun fs => by simp
 have es : ∀ fs gs : List (Str × D),(m ++ [MO.ins "Reader" fs] ++ [MO.dct []]).set m.length (.ins "Reader" gs) = m ++ [.ins "Reader" gs] ++ [.dct []] := fun fs gs => by
  rw [List.append_assoc,List.set_append_right _ _ (Nat.le_refl _),Nat.sub_self,List.append_assoc]; rfl
 have el : ∀ fs : List (Str × D),(m ++ [MO.ins "Reader" fs]).length = m.length + 1 := fun fs => by simp
 rw [el,zfo (e1 _) (by show 2 < 1000; decide),es]; ac_nf
 refine Run.ok ⟨rfl,⟨by rw [e1]; rfl,?_,by omega⟩,_,by rw [List.append_assoc]⟩
 rw [List.getElem?_append_right (by simp)]
 simp [hlD]
end
def Sm7 : Nat -> D -> Prop
 | 0,d => d = .non ∨ (∃ a,d = .int a) ∨ ∃ s,d = .str s
 | n + 1,d => (d = .non ∨ (∃ a,d = .int a) ∨ ∃ s,d = .str s) ∨ ∃ xs,d = .tup xs /\ xs.length <= 1000 /\ ∀ x ∈ xs,Sm7 n x
theorem zqN {n : Nat} {s : Str} {m : Sto} : zaU (n + 1) [.str s,.str s] m = .ok (.bl true) m := by
 apply zaw
 rw [zaU]
 unfold zcI; erw [show zhW "tuple" (.str s) m = .ok (.bl false) m from rfl]; erw [show isD (.str s) .non m = .ok (.bl false) m from rfl]; erw [show zhW "str" (.str s) m = .ok (.bl true) m from rfl]; ac_nf; exact Run.ok ⟨by simp,rfl⟩
theorem zmt {n : Nat} {d : D} {m : Sto} (h : d = .non ∨ (∃ a,d = .int a) ∨ ∃ s,d = .str s) : zaU (n + 1) [d,d] m = .ok (.bl true) m := by
 rcases h with rfl | ⟨a,rfl⟩ | ⟨s,rfl⟩
 ·exact zkr (.inl rfl)
 ·exact zkr (.inr ⟨_,rfl⟩)
 ·exact zqN
theorem zha : ∀ (n : Nat) (d : D) {m : Sto},Sm7 n d -> zaU (n + 1) [d,d] m = .ok (.bl true) m
 | 0,d,m,h => zmt h
 | n + 1,d,m,h => by
  rcases h with h | ⟨xs,rfl,hl,hx⟩
  ·exact zmt h
  apply zaw
  rw [zaU]
  unfold zcI; erw [zqd]; erw [zqd]; erw [zcN (ds := xs.map fun a => D.tup [a,a]) (fun _ => .bl true)]
  ·erw [List.map_map,show ((fun _ => D.bl true) ∘ fun a : D => D.tup [a,a]) = fun _ => D.bl true from rfl,zov]; ac_nf; exact Run.ok ⟨rfl,rfl⟩
  ·ac_nf; simp only [zoz]; rw [if_pos (Nat.le_refl _),zkc]
  ·simp; omega
  ·intro d hd
   obtain ⟨x,hx',rfl⟩ := List.mem_map.mp hd
   refine ⟨_,rfl,?_⟩
   exact zha n x (hx x hx')
theorem zqI (n : Nat) (a : Int) : Sm7 n (.int a) := by cases n with
 | zero => exact .inr (.inl ⟨_,rfl⟩)
 | succ => exact .inl (.inr (.inl ⟨_,rfl⟩))
theorem zqH (n : Nat) (a : Str) : Sm7 n (.str a) := by cases n with
 | zero => exact .inr (.inr ⟨_,rfl⟩)
 | succ => exact .inl (.inr (.inr ⟨_,rfl⟩))
theorem zoS {x : Str} {m : Sto} : zbC [zp5 x,zp5 x] m = .ok (.bl true) m := zha 11 _ (.inr ⟨_,rfl,by simp,fun y hy => by
 simp only [List.mem_cons,List.not_mem_nil,or_false] at hy
 rcases hy with rfl | rfl <;> exact zqH _ _⟩)
theorem zqM {n : Int} {m : Sto} : zbC [twD n,twD n] m = .ok (.bl true) m := zha 11 _ (.inr ⟨_,rfl,by simp,fun y hy => by
 simp only [List.mem_cons,List.not_mem_nil,or_false] at hy
 rcases hy with rfl | rfl
 ·exact zqH _ _
 ·exact zqI _ _⟩)
theorem zqO {n : Int} {hd : List Int} {m : Sto} (h : hd.length <= 1000) : zbC [rdD n hd,rdD n hd] m = .ok (.bl true) m := zha 11 _ (.inr ⟨_,rfl,by simp,fun y hy => by
 simp only [List.mem_cons,List.not_mem_nil,or_false] at hy
 rcases hy with rfl | rfl | rfl
 ·exact zqH _ _
 ·exact zqI _ _
 ·exact .inr ⟨_,rfl,by rw [List.length_map]; exact h,fun z hz => by
   obtain ⟨v,_,rfl⟩ := List.mem_map.mp hz
   exact zqI _ _⟩⟩)
theorem ne_opt {o : Option Int} {m : Sto} : neD (zcy o) (zcy o) m = .ok (.bl false) m := by
 cases o with
 | none => rfl
 | some i =>
  show neD (.int i) (.int i) m = _
  rw [ne_i,decide_eq_true rfl]
  rfl
def lt7 (top : Option Int) (late n : Int) : Bool := match top with
 | some t => decide (n < t - late)
 | none => false
structure Ne36 (p q k h d r : Nat) : Prop where
 kp : k ≠ p
 kq : k ≠ q
 hp : h ≠ p
 hq : h ≠ q
 dp : d ≠ p
 dq : d ≠ q
 rp : r ≠ p
 rq : r ≠ q
 dk : d ≠ k
 dh : d ≠ h
 rk : r ≠ k
 rh : r ≠ h
 dr : d ≠ r
theorem zdY {m : Sto} {o : MO} {n : Nat} (h : n = m.length) : (m ++ [o])[n]? = some o := by
 subst h
 simp
theorem zlS {m : Sto} {k h : Nat} {pt : Pt} {top : Option Int} {hl : List (Int × List Int)} (x : RdAt m k h pt top hl) : Run (za5 [.ob k] m) fun a m' => a = .non /\ RdAt m' k m.length pt none [] /\ Fr k h m m' := by
 unfold za5 zdj; erw [zfo x.self (by show 3 < 1000; decide)]
 have x1 : RdAt (m.set k (.ins "Reader" (zeT "highest" .non (rdF pt.e top h)))) k h pt none hl := ⟨zbb x.self,by rw [zaF x.kh]; exact x.dct,x.kh⟩
 have f1 : Fr k h m (m.set k (.ins "Reader" (zeT "highest" .non (rdF pt.e top h)))) := Fr.set
 have l1 : (m.set k (.ins "Reader" (zeT "highest" .non (rdF pt.e top h)))).length = m.length := List.length_set ..
 generalize m.set k (.ins "Reader" (zeT "highest" .non (rdF pt.e top h))) = m1 at x1 f1 l1 ⊢; erw [show ∀ (ρ : En) (m : Sto),zcr [] ρ m = .ok (.ob m.length) (m ++ [.dct []]) from fun _ _ => rfl]; ac_nf
 have x2 := x1.app (r := [.dct []])
 rw [zfo x2.self (by show 3 < 1000; decide)]; ac_nf
 have hkl := x1.lt
 refine Run.ok ⟨rfl,⟨?_,?_,by omega⟩,(f1.trans Fr.app).trans Fr.set⟩
 ·rw [zbb x2.self]
  rfl
 ·rw [zaF (by omega),<- l1]
  exact zdY rfl
def bkL (top : Option Int) (r : Nat) : List (L2.Key × D) := [(.inr "top", zcy top),(.inr "kept", .ob r)]
theorem zf6 (top : Option Int) (r : Nat) : zdc (bkL top r) (.inr "top") = some (zcy top) := rfl
theorem zdz (top : Option Int) (r : Nat) : zdc (bkL top r) (.inr "kept") = some (.ob r) := rfl
theorem zqq (top : Option Int) (r : Nat) (t : Int) : zgB (bkL top r) (.inr "top") (.int t) = bkL (some t) r := rfl
def ksP (bk : List (Int × List Int)) (e : Int) : List (Int × List Int) := bk.filter fun p => decide (e <= p.1) || decide (mxB e (ksH bk) = some p.1)
theorem zpD {A B : List (Int × List Int)} {p : Int × List Int} (hn : (ksH (A ++ p :: B)).Nodup) : zhP (hlD (A ++ p :: B)) (.inl p.1) = hlD (A ++ B) := by
 have key : ∀ (l : List (Int × List Int)),p.1 ∉ ksH l -> zhP (hlD l) (.inl p.1) = hlD l := fun l hl => by
  unfold zhP; rw [List.filter_eq_self]
  intro q hq
  unfold hlD at hq
  obtain ⟨w,hw,rfl⟩ := List.mem_map.mp hq
  refine decide_eq_true fun z => hl ?_
  rw [<- Sum.inl.inj z]
  exact List.mem_map_of_mem hw
 unfold ksH at hn
 rw [List.map_append,List.map_cons,List.nodup_append,List.nodup_cons] at hn
 obtain ⟨_,⟨h2,_⟩,h3⟩ := hn
 unfold hlD zhP at *
 rw [List.map_append,List.filter_append,List.map_cons,List.filter_cons,List.map_append]; rw [if_neg (by simp)]
 congr 1
 ·exact key A fun z => h3 p.1 z p.1 List.mem_cons_self rfl
 ·exact key B h2
theorem zoB {A B : List (Int × List Int)} {p : Int × List Int} : ∃ d,zdc (hlD (A ++ p :: B)) (.inl p.1) = some d := by
 rw [zec]
 obtain ⟨x,hx,_⟩ := zcO (show p.1 ∈ ksH (A ++ p :: B) by unfold ksH; simp)
 exact ⟨zf8 x,by rw [hx]; rfl⟩
def tkL : SV := by walk_at "#uxuXu/a,uPaFv8ysuQaI"
def tkT : SV := by walk_at "#wNv~%u:7x'x(:uQu#@u/u+,u+Mv%wwuH!x,<uQvt|K"
theorem ziN : ziO = (zap (sIf (zmg (tV (eOp isD (eOp ixD (zae 0) (eC (.str "top"))) (eC .non))) (tV (eOp ltD (eOp ixD (zae 0) (eC (.str "top"))) (zae 2))))
 (zgc (zae 0) (eC (.str "top")) (zae 2))
 zba) tkT) := rfl
section
variable {m : Sto} {d r : Nat} {top : Option Int} {bk : List (Int × List Int)} {late n t : Int}
theorem zp9 (hk : m[r]? = some (.dct (hlD bk))) : zix [.ob r] m = .ok (.lst ((ksH bk).map D.int)) m := by
 unfold zix dOf; simp only [hk]; rw [zhI]
theorem zmf (h1 : m[d]? = some (.dct (bkL (some t) r))) (h2 : m[r]? = some (.dct (hlD bk))) (hdr : d ≠ r) (hl : bk.length < 64) (hn : (ksH bk).Nodup) :
  Run ((tkT [some (.ob d),some (.int late),some (.int n),none,none,none] m).bind ziZ) fun a m' => a = .non /\ m'[d]? = some (.dct (bkL (some t) r)) /\ m'[r]? = some (.dct (hlD (ksP bk (t - late)))) /\ Fr d r m m' := by
 unfold tkT; erw [zaT h1 (zf6 _ _)]; simp only [zcy]; erw [maxK (k := r) (i1 := 6) (fi := eOp ixD (zae 0) (eC (.str "kept"))) (fd := eC .non) (fn := zae 3) (ρ := [some (.ob d),some (.int late),some (.int n),some (.int (t - late)),none,none]) (hl := bk) (n := t - late) (d := .non) rfl (zaT h1 (zdz _ _)) h2 (by omega) (fun _ _ => rfl) rfl,orD_n]; ac_nf
 rw [zaT h1 (zdz _ _)]; erw [zp9 h2]; ac_nf
 generalize hb : (fun p : Int × List Int => decide (t - late <= p.1) || decide (mxB (t - late) (ksH bk) = some p.1)) = b
 refine Run.bind (za2 (fun i ρ m' => ∃ x5,ρ = [some (.ob d),some (.int late),some (.int n),some (.int (t - late)),some (zcy (mxB (t - late) (ksH bk))),x5] /\ m'[d]? = some (.dct (bkL (some t) r)) /\ m'[r]? = some (.dct (hlD ((bk.take i).filter b ++ bk.drop i))) /\ Fr d r m m') _ 0 ⟨_,rfl,h1,by simpa using h2,Fr.refl⟩ ?_) ?_
 ·rintro i x ρ m' hx ⟨x5,rfl,g1,g2,g3⟩
  rw [Nat.zero_add] at g2 ⊢
  obtain ⟨z,hz,rfl⟩ : ∃ z,(ksH bk)[i]? = some z /\ x = .int z := by
   rw [List.getElem?_map] at hx
   obtain ⟨z,hz,e⟩ := Option.map_eq_some_iff.mp hx
   exact ⟨z,hz,e.symm⟩
  unfold ksH at hz
  rw [List.getElem?_map] at hz
  obtain ⟨p,hp,rfl⟩ := Option.map_eq_some_iff.mp hz
  have hi := (List.getElem?_eq_some_iff.mp hp).1
  have ep := (List.getElem?_eq_some_iff.mp hp).2
  have hd : bk.drop i = p :: bk.drop (i + 1) := by rw [List.drop_eq_getElem_cons hi,ep]
  have ht : bk.take (i + 1) = bk.take i ++ [p] := by rw [List.take_succ,hp]; rfl
  unfold tkL; ac_nf
  have stay : b p = true -> m'[r]? = some (.dct (hlD ((bk.take (i + 1)).filter b ++ bk.drop (i + 1)))) := fun z => by
   rw [g2,ht,List.filter_append,List.filter_cons_of_pos z,hd]
   simp
  by_cases c1 : p.1 < t - late
  ·rw [if_pos c1]
   by_cases c2 : mxB (t - late) (ksH bk) = some p.1
   ·rw [c2]; simp only [zcy]; rw [ne_i,decide_eq_true rfl]; ac_nf
    refine Run.ok ⟨_,rfl,_,rfl,g1,stay ?_,g3⟩
    rw [<- hb]
    simp [c2]
   ·rw [show neD (.int p.1) (zcy (mxB (t - late) (ksH bk))) m' = .ok (.bl true) m' by
     cases e : mxB (t - late) (ksH bk) with
     | none => rfl
     | some f =>
      show neD (.int p.1) (.int f) m' = _
      rw [ne_i,decide_eq_false fun z => c2 (by rw [e,z])]
      rfl]
    ac_nf
    have hbp : b p = false := by
     rw [<- hb]; simp only [Bool.or_eq_false_iff,decide_eq_false_iff_not]
     exact ⟨by omega,c2⟩
    unfold zpC; rw [show eOp ixD (zae 0) (eC (.str "kept")) [some (.ob d),some (.int late),some (.int n),some (.int (t - late)),some (zcy (mxB (t - late) (ksH bk))),some (.int p.1)] m' = .ok (.ob r) m' from zaT g1 (zdz _ _),bind_ok,if_pos (by unfold zhK; simp only [g2])]; rw [show zae 5 [some (.ob d),some (.int late),some (.int n),some (.int (t - late)),some (zcy (mxB (t - late) (ksH bk))),some (.int p.1)] m' = .ok (.int p.1) m' from rfl,bind_ok]
    rw [hd] at g2
    obtain ⟨dd,hdd⟩ := zoB (A := (bk.take i).filter b) (B := bk.drop (i + 1)) (p := p)
    rw [show zpF (.ob r) (.int p.1) m' = .ok dd (m'.set r (.dct (hlD ((bk.take i).filter b ++ bk.drop (i + 1))))) by
     unfold zpF; simp only [g2,zgn,hdd]; rw [zpD]
     refine List.Nodup.sublist ?_ hn
     unfold ksH
     refine List.Sublist.map _ ?_
     rw [<- hd]
     conv => rhs; rw [<- List.take_append_drop i bk]
     exact List.Sublist.append List.filter_sublist (List.Sublist.refl _)]
    ac_nf
    refine Run.ok ⟨_,rfl,_,rfl,by rw [zaF (Ne.symm hdr)]; exact g1,?_,g3.trans Fr.set'⟩
    rw [zbb g2,ht,List.filter_append,List.filter_cons_of_neg (by rw [hbp]; exact Bool.false_ne_true)]
    simp
  ·rw [if_neg c1]; ac_nf
   refine Run.ok ⟨_,rfl,_,rfl,g1,stay ?_,g3⟩
   rw [<- hb]; simp only [Bool.or_eq_true,decide_eq_true_eq]
   exact .inl (by omega)
 ·rintro _ m' ⟨ρ,rfl,x5,rfl,g1,g2,g3⟩; ac_nf
  refine Run.ok ⟨rfl,g1,?_,g3⟩
  rw [List.length_map,show (ksH bk).length = bk.length by unfold ksH; rw [List.length_map],Nat.zero_add,List.take_length,List.drop_length,List.append_nil] at g2
  rw [g2,<- hb]
  rfl
theorem zoF (h1 : m[d]? = some (.dct (bkL top r))) (h2 : m[r]? = some (.dct (hlD bk))) (hdr : d ≠ r) (hl : bk.length < 64) (hn : (ksH bk).Nodup) :
  Run (zc1 [.ob d,.int late,.int n] m) fun a m' => a = .non /\ m'[d]? = some (.dct (bkL (some (zbJ top n)) r)) /\ m'[r]? = some (.dct (hlD (ksP bk (zbJ top n - late)))) /\ Fr d r m m' := by
 unfold zc1; rw [ziN]; erw [zaT h1 (zf6 _ _)]
 have put : ∀ t,Run ((tkT [some (.ob d),some (.int late),some (.int n),none,none,none] (m.set d (.dct (bkL (some t) r)))).bind ziZ) fun a m' => a = .non /\ m'[d]? = some (.dct (bkL (some t) r)) /\ m'[r]? = some (.dct (hlD (ksP bk (t - late)))) /\ Fr d r m m' := fun t =>
  Run.mono (zmf (late := late) (n := n) (zbb h1) (by rw [zaF hdr]; exact h2) hdr hl hn) fun a m' ⟨e1,e2,e3,e4⟩ => ⟨e1,e2,e3,Fr.set.trans e4⟩
 cases top with
 | none =>
  simp only [zcy]; erw [zjA h1 (by show 2 < sizeLine; decide),zqq]
  have := put n
  ac_nf
  exact this
 | some t =>
  simp only [zcy]; erw [zaT h1 (zf6 _ _)]; simp only [zcy]; ac_nf
  by_cases hc : t < n
  ·rw [if_pos hc]; erw [zjA h1 (by show 2 < sizeLine; decide),zqq]
   have := put n
   rw [show zbJ (some t) n = n from if_pos hc]; ac_nf
   exact this
  ·rw [if_neg hc]
   have := zmf (late := late) (n := n) h1 h2 hdr hl hn
   rw [show zbJ (some t) n = t from if_neg hc]; ac_nf
   exact this
end
theorem zcZ {a b : List (Int × List Int)} (h : a.Perm b) : (ksH a).Perm (ksH b) := h.map _
theorem zdU {a : List (Int × List Int)} (h : (ksH a).Nodup) : a.Nodup := by
 induction a with
 | nil => exact List.nodup_nil
 | cons p r ih =>
  obtain ⟨h1,h2⟩ := List.nodup_cons.mp (show (p.1 :: ksH r).Nodup from h)
  exact List.nodup_cons.mpr ⟨fun z => h1 (List.mem_map_of_mem z),ih h2⟩
theorem zgs {a : List (Int × List Int)} (h : (ksH a).Nodup) {p : Int × List Int} (hp : p ∈ a) : vlH a p.1 = some p.2 := by
 induction a with
 | nil => cases hp
 | cons q r ih =>
  obtain ⟨h1,h2⟩ := List.nodup_cons.mp (show (q.1 :: ksH r).Nodup from h)
  unfold vlH
  rcases List.mem_cons.mp hp with rfl | hp
  ·rw [if_pos rfl]
  ·rw [if_neg fun z => h1 (by rw [z]; exact List.mem_map_of_mem hp)]
   exact ih h2 hp
theorem zpn {n : Int} {a b : List Int} (h : a.Perm b) : mxB n a = mxB n b := zrP fun x _ => h.mem_iff
theorem ziu {hl : List (Int × List Int)} {e : Int} (hn : (ksH hl).Nodup) {p : Int × List Int} : p ∈ zcF hl e ↔ p ∈ hl /\ (e <= p.1 ∨ mxB e (ksH hl) = some p.1) := by
 have hk := zfg (e := e) hn
 constructor
 ·intro h
  have h1 : p.1 ∈ kpF e (ksH hl) := by rw [<- hk]; exact List.mem_map_of_mem h
  obtain ⟨h2,h3⟩ := mem_kpF.mp h1
  refine ⟨?_,h3⟩
  unfold zcF at h
  obtain ⟨k,_,rfl⟩ := List.mem_map.mp h
  obtain ⟨x,e1,e2⟩ := zcO h2
  simp only [e1,Option.getD_some]
  exact e2
 ·rintro ⟨h1,h2⟩
  have h3 : p.1 ∈ kpF e (ksH hl) := mem_kpF.mpr ⟨List.mem_map_of_mem h1,h2⟩
  rw [<- ziC hn] at h3
  unfold zcF lstV
  refine List.mem_map.mpr ⟨p.1,h3,?_⟩
  rw [zgs hn h1]
  rfl
theorem zfO {hl : List (Int × List Int)} {e : Int} (hn : (ksH hl).Nodup) : (ksH (zcF hl e)).Nodup := by rw [zfg hn]; exact ziB hn
theorem znG {a b : List (Int × List Int)} {e : Int} (h : a.Perm b) (hn : (ksH a).Nodup) : (zcF a e).Perm (ksP b e) := by
 have hnb : (ksH b).Nodup := (zcZ h).nodup_iff.mp hn
 refine (List.perm_ext_iff_of_nodup (zdU (zfO hn)) ?_).mpr fun p => ?_
 ·exact (zdU hnb).sublist List.filter_sublist
 ·rw [ziu hn,ksP,List.mem_filter,h.mem_iff,zpn (zcZ h)]
  simp
theorem zpv {a : List (Int × List Int)} {e : Int} (hn : (ksH a).Nodup) : (zcF a e).length <= a.length := by
 have h1 : (ksH (zcF a e)).length <= (ksH a).length := by rw [zfg hn]; exact zrZ _ _
 unfold ksH at h1
 rwa [List.length_map,List.length_map] at h1
theorem zh9 {a b : List (Int × List Int)} (h : a.Perm b) (hn : (ksH a).Nodup) : zgx (hlD a) (hlD b) = true := by
 have hnb : (ksH b).Nodup := (zcZ h).nodup_iff.mp hn
 unfold zgx; rw [Bool.and_eq_true]
 refine ⟨by unfold hlD; rw [List.length_map,List.length_map,h.length_eq]; simp,List.all_eq_true.mpr fun p hp => ?_⟩
 unfold hlD at hp
 obtain ⟨q,hq,rfl⟩ := List.mem_map.mp hp
 simp only [zec,zgs hnb (h.mem_iff.mp hq),Option.map_some]
 have hd : zea (zf8 q.2) = true := zpI _
 rw [hd]
 show (true && true && PyData.eqv (py (.tup (q.2.map D.int))) (py (.tup (q.2.map D.int)))) = true
 simp [py,PyData.eqv,zcY,zhN]
theorem znm {x y : Nat} {a b : List (L2.Key × D)} {m : Sto} (h1 : m[x]? = some (.dct a)) (h2 : m[y]? = some (.dct b)) (h : zgx a b = true) : neK (.ob x) (.ob y) m = .ok (.bl false) m := by
 unfold neK zks dOf; simp only [h1,h2,h,if_true]
theorem zmR {a b : List (Int × List Int)} {p : Int × List Int} (h : a.Perm b) : (a ++ [p]).Perm (b ++ [p]) := h.append (List.Perm.refl _)
theorem zgv {a : List (Int × List Int)} {n : Int} {x : List Int} (hn : (ksH a).Nodup) (h : n ∉ ksH a) : (ksH (a ++ [(n,x)])).Nodup := by
 unfold ksH at *
 rw [List.map_append,List.nodup_append]
 refine ⟨hn,by simp,fun y hy c hc e => h ?_⟩
 have : c = n := by simpa using hc
 rw [<- this,<- e]
 exact hy
theorem PtOk.w {pt : Pt} (h : PtOk pt) : PtW pt := ⟨h.n0,h.n1,h.f0,h.f1,h.sh.ok,h.w0,h.w1,h.fm,h.fml⟩
def pc0 (pt : Pt) (hd : List Int) : List Nat := pcK pt.fs (fmW pt).wys hd pt.fs.length
theorem lt33 {pt : Pt} {n : Nat} {hd : List Int} (hn : (n : Int) < 2 ^ pt.wide) : ltL pt none n hd = ltB pt none (dgs n pt.wide ++ pc0 pt hd) (ckI pt n hd) := by
 unfold ltL ltB; rw [show zbE pt none = fmW pt from rfl,show (fmW pt).b = pt.wide from rfl,Int.emod_eq_of_lt (Int.natCast_nonneg _) hn]; simp only [List.append_assoc]
 rfl
theorem hd33 {pt : Pt} {hl : List (Int × List Int)} {n : Int} {hd : List Int} (h : PtW pt) (hh : HdOk pt.fs hd) : zcG pt hl none n (pc0 pt hd) = hd := by
 show (List.range (pt.fs.map fun f => f.b).length).map (zjM (pc0 pt hd) (pt.fs.map fun f => f.b)) = hd
 apply List.ext_getElem?
 intro i
 rw [List.length_map]
 by_cases hi : i < pt.fs.length
 ·have e1 := List.getElem?_eq_getElem hi
  have e2 : (fmW pt).wys[i]? = some .whole := by simp [fmW,hi]
  have e3 := List.getElem?_eq_getElem (show i < hd.length by rw [hh.len]; exact hi)
  have e4 := zrJ (zpB h).wy hh e1 e2 e3
  rw [wsW] at e4
  have e5 := hh.at' i _ _ e1 e3
  rw [e3,List.getElem?_map,List.getElem?_range hi]
  show some _ = _
  congr 1
  exact e4.trans (Int.emod_eq_of_lt e5.1 e5.2)
 ·rw [List.getElem?_eq_none (by simpa using hi),List.getElem?_eq_none (by rw [hh.len]; omega)]
theorem ltB33 {pt : Pt} {n : Nat} {hd : List Int} (h : PtW pt) (hh : HdOk pt.fs hd) : LtB pt none (dgs n pt.wide ++ pc0 pt hd) (ckI pt n hd) := by
 have hl := zfw (zpB h).wy hh pt.fs.length (Nat.le_refl _)
 refine ⟨trivial,(zdy _ _).app (zmV _),?_,Int.emod_nonneg _ (Int.ne_of_gt h.n0),Int.emod_lt_of_pos _ h.n0⟩
 rw [List.length_append,zaI]
 show pt.wide + (pcK pt.fs (fmW pt).wys hd pt.fs.length).length = pt.wide + (zdb pt.fs (fmW pt).wys).sum
 rw [hl]
 unfold zg5; rw [List.take_of_length_le (by have := zbT (zpB h).wy; omega)]
def zk0 (late : Int) (top : Option Int) (bk : List (Int × List Int)) (n : Int) (hd : List Int) : D × Option Int × List (Int × List Int) :=
 if lt7 top late n = true then (zp5 "late", top,bk)
 else if n ∈ ksH bk then (twD n,top,bk)
 else (rdD n hd,some (zbJ top n),ksP (bk ++ [(n,hd)]) (zbJ top n - late))
theorem zmu {late n : Int} {top : Option Int} {bk : List (Int × List Int)} {hd : List Int} {m : Sto} (h : hd.length <= 1000) : zbC [(zk0 late top bk n hd).1,(zk0 late top bk n hd).1] m = .ok (.bl true) m := by
 unfold zk0
 split
 ·exact zoS
 ·split
  ·exact zqM
  ·exact zqO h
theorem conn33 {pt : Pt} {top : Option Int} {hl bk : List (Int × List Int)} {n : Nat} {hd : List Int} (h : PtW pt) (hh : HdOk pt.fs hd) (hp : hl.Perm bk) (hn : (ksH hl).Nodup) (hs : (ksH hl).Pairwise (· <= ·)) (hv : ∀ p ∈ hl,HdOk pt.fs p.2) :
  ∃ hl',rdN pt top hl none n (pc0 pt hd) (ckI pt n hd) = ((zk0 pt.rd.late top bk n hd).1,(zk0 pt.rd.late top bk n hd).2.1,hl') /\ hl'.Perm (zk0 pt.rd.late top bk n hd).2.2 /\ (ksH hl').Nodup /\ (ksH hl').Pairwise (· <= ·) /\ (∀ p ∈ hl',HdOk pt.fs p.2) /\ hl'.length <= hl.length + 1 := by
 have hlate : zgm pt top n = lt7 top pt.rd.late n := by
  unfold zgm lt7; rw [decide_eq_false (by omega),Bool.false_or]
  all_goals (cases top <;> rfl)
 unfold rdN zk0; rw [hlate,hd33 h hh]
 by_cases c1 : lt7 top pt.rd.late n = true
 ·rw [if_pos c1,if_pos c1]
  exact ⟨hl,rfl,hp,hn,hs,hv,by omega⟩
 rw [if_neg c1,if_neg c1]
 by_cases c2 : (n : Int) ∈ ksH hl
 ·rw [if_pos c2,if_pos ((zcZ hp).mem_iff.mp c2)]
  exact ⟨hl,rfl,hp,hn,hs,hv,by omega⟩
 rw [if_neg c2,if_neg fun z => c2 ((zcZ hp).mem_iff.mpr z),if_neg (by simp),if_neg (not_not_intro rfl)]
 have hsn := zgv (x := hd) hn c2
 refine ⟨_,rfl,znG (zmR hp) hsn,zfO hsn,?_,fun p hp' => ?_,?_⟩
 ·rw [zfg hsn]
  exact zgF _ _
 ·rcases List.mem_append.mp ((ziu hsn).mp hp').1 with z | z
  ·exact hv p z
  ·rw [List.mem_singleton.mp z]
   exact hh
 ·refine Nat.le_trans (zpv hsn) ?_
  rw [List.length_append]
  exact Nat.le_refl _
section
variable {m m0 : Sto} {d r p q c : Nat} {top : Option Int} {late n : Int} {bk : List (Int × List Int)} {hd : List Int}
def Db3 (m : Sto) (d r : Nat) (v : D × Option Int × List (Int × List Int)) (x : D) (m' : Sto) : Prop := x = v.1 /\ m'[d]? = some (.dct (bkL v.2.1 r)) /\ m'[r]? = some (.dct (hlD v.2.2)) /\ Fr d r m m'
def w33 : SV := by walk_at "#Tz$+uQkx)iHwTuQ+,vj!ytvHu;kv^iv$"
theorem ziT : ziU = (zap (sIf (zeP (tV (eOp zeX (eOp ixD (zae 0) (eC (.str "top"))) (eC .non))) (tV (eOp ltD (zae 2) (eOp zfl (eOp ixD (zae 0) (eC (.str "top"))) (zae 1)))))
 (zaE (eFn zbG (zac (eC (.str "not")) (zac (eC (.str "late")) zaj))))
 zba) w33) := rfl
theorem zl6 (h1 : m[d]? = some (.dct (bkL top r))) (h2 : m[r]? = some (.dct (hlD bk))) (hdr : d ≠ r) (hl : bk.length < 63) (hn : (ksH bk).Nodup) (hlt : lt7 top late n = false) :
  Run ((w33 [some (.ob d),some (.int late),some (.int n),some (zf8 hd)] m).bind ziZ) (Db3 m d r (zk0 late top bk n hd)) := by
 unfold w33 zk0; rw [hlt,if_neg Bool.false_ne_true]; erw [zaT h1 (zdz _ _)]; erw [in_h h2]
 by_cases hin : n ∈ ksH bk
 ·obtain ⟨y,hy,_⟩ := zcO hin
  rw [if_pos hin,hy]; simp only [Option.isSome_some]; ac_nf; exact Run.ok ⟨rfl,h1,h2,Fr.refl⟩
 rw [if_neg hin,vlH_none.mpr hin]; simp only [Option.isSome_none]; erw [zaT h1 (zdz _ _)]; erw [put_h h2 hin (by omega)]; ac_nf; refine Run.bind (zoF (late := late) (n := n) (top := top) (bk := bk ++ [(n,hd)]) (by rw [zaF (Ne.symm hdr)]; exact h1) (zbb h2) hdr (by rw [List.length_append]; show bk.length + 1 < 64; omega) (zgv hn hin)) ?_
 rintro _ m2 ⟨rfl,e1,e2,e3⟩; ac_nf; exact Run.ok ⟨rfl,e1,e2,Fr.set'.trans e3⟩
theorem zob (h1 : m[d]? = some (.dct (bkL top r))) (h2 : m[r]? = some (.dct (hlD bk))) (hdr : d ≠ r) (hl : bk.length < 63) (hn : (ksH bk).Nodup) :
  Run (zc2 [.ob d,.int late,.int n,zf8 hd] m) (Db3 m d r (zk0 late top bk n hd)) := by
 unfold zc2; rw [ziT]; erw [zaT h1 (zf6 _ _)]
 cases top with
 | none =>
  simp only [zcy]; ac_nf
  exact zl6 h1 h2 hdr hl hn rfl
 | some t =>
  simp only [zcy]; erw [zaT h1 (zf6 _ _)]; simp only [zcy]; ac_nf
  by_cases hc : n < t - late
  ·rw [if_pos hc]; ac_nf
   unfold zk0; rw [if_pos (show lt7 (some t) late n = true from decide_eq_true hc)]; exact Run.ok ⟨rfl,h1,h2,Fr.refl⟩
  ·rw [if_neg hc]
   have := zl6 (late := late) (n := n) (hd := hd) h1 h2 hdr hl hn (decide_eq_false hc)
   ac_nf
   exact this
def e33 : EV := by walk_at "#!v#pv!LvwwVu.-w["
def t33 : SV := by walk_at "#uj+!v#v!wHpv(-v(PxLv(Bu.vMugy9-Bu.vMugvivJw:8vx_xa*xku-wSv$"
theorem zeo : zdk = (zap (zaH (eOp zfl (eOp zg8 (eC (.int 1)) (eOp ixD (zae 1) (eC (.int 1)))) (eC (.int 1))) (gN 3))
 (zap (sIf (zmg (tV (eOp isD (zae 2) (eC .non))) (tV (eOp eqD (eFn zav (zac (zae 0) (zac (eC (.int 6)) zaj))) (eC (.int 0)))))
 (zaE e33)
 zba) t33)) := rfl
theorem ix_e1 (pt : Pt) {m : Sto} : ixD pt.e (.int 1) m = .ok (.int pt.wide) m := ix_t1 _ _ _
theorem zr4 (pt : Pt) {m : Sto} : ixD pt.e (.int 3) m = .ok pt.rd.e m := zoy (n := 3) rfl
theorem zoa {pt : Pt} {x2 x4 : Option D} (hp : P3 m0 p q c m) (hc : c + 2 < 2 ^ 40) (ok : PtOk pt) :
  Run (e33 [some (.ob p),some pt.e,x2,some (.int (2 ^ pt.wide - 1)),x4] m) fun a m' => ∃ n : Nat,a = .int n /\ (n : Int) < 2 ^ pt.wide /\ P3 m p q (c + 2) m' := by
 have w1 := ok.w1
 have hpw : (0 : Int) < 2 ^ pt.wide := p2 pt.wide
 have hpb : (2 : Int) ^ pt.wide < 2 ^ 64 := by exact_mod_cast Nat.pow_lt_pow_right (by decide : 1 < 2) (show pt.wide < 64 by omega)
 have hp2 : (2 : Int) <= 2 ^ pt.wide := by exact_mod_cast Nat.pow_le_pow_right (by decide : 0 < 2) (show 1 <= pt.wide from ok.w0)
 unfold e33; erw [ix_e1]; erw [zef (by omega)]; ac_nf; refine Run.bind (zaL hp (by omega) hpw hpb) ?_; rintro _ m1 ⟨x,rfl,x0,x1,hp1⟩; ac_nf
 refine Run.mono (zbX hp1 (by omega) (by simp) (by simp)) ?_
 rintro w m2 ⟨hw,hq⟩
 have hq' := (hp1.via hq).more (c' := c + 2) (by omega)
 simp only [List.mem_cons,List.not_mem_nil,or_false] at hw
 rcases hw with rfl | rfl | rfl | rfl
 ·exact ⟨0,rfl,hpw,hq'⟩
 ·exact ⟨1,rfl,hp2,hq'⟩
 ·refine ⟨(2 ^ pt.wide - 1 : Int).toNat,?_,?_,hq'⟩
  ·rw [Int.toNat_of_nonneg (by omega)]
  ·rw [Int.toNat_of_nonneg (by omega)]; omega
 ·refine ⟨x.toNat,?_,?_,hq'⟩
  ·rw [Int.toNat_of_nonneg x0]
  ·rw [Int.toNat_of_nonneg x0]; exact x1
theorem zqB {pt : Pt} {t : Int} {x4 : Option D} (hp : P3 m0 p q c m) (hc : c + 2 < 2 ^ 40) (ok : PtOk pt) :
  Run ((t33 [some (.ob p),some pt.e,some (.int t),some (.int (2 ^ pt.wide - 1)),x4] m).bind ziZ) fun a m' => ∃ n : Nat,a = .int n /\ (n : Int) < 2 ^ pt.wide /\ P3 m p q (c + 2) m' := by
 have hpw : (0 : Int) < 2 ^ pt.wide := p2 pt.wide
 unfold t33; erw [zlF]; erw [zlF]; erw [zr4]; erw [zkJ]; erw [zlF]; erw [zlF]; erw [zr4]; erw [zkJ]; ac_nf; refine Run.bind (zaL hp (by omega) (by decide) (by decide)) ?_; rintro _ m1 ⟨x,rfl,x0,x1,hp1⟩; erw [lst_n (by simp)]; ac_nf; refine Run.bind (zbX hp1 (by omega) (by simp) (by simp)) ?_
 rintro w m2 ⟨hw,hq⟩
 have hq' := (hp1.via hq).more (c' := c + 2) (by omega)
 obtain ⟨g,rfl⟩ : ∃ g : Int,w = .int g := by
  simp only [List.mem_cons,List.not_mem_nil,or_false] at hw
  rcases hw with rfl | rfl | rfl | rfl | rfl | rfl | rfl | rfl | rfl | rfl <;> exact ⟨_,rfl⟩
 ac_nf
 obtain ⟨z,hz,z0,z1⟩ : ∃ z : Int,(if (2 ^ pt.wide - 1 : Int) < (if (0 : Int) > t + g then 0 else t + g) then (2 ^ pt.wide - 1 : Int) else (if (0 : Int) > t + g then 0 else t + g)) = z /\ 0 <= z /\ z < 2 ^ pt.wide := ⟨_,rfl,by split <;> split <;> omega,by split <;> split <;> omega⟩
 rw [hz]
 refine Run.ok ⟨z.toNat,?_,?_,hq'⟩
 ·rw [Int.toNat_of_nonneg z0]
 ·rw [Int.toNat_of_nonneg z0]; exact z1
theorem zni {pt : Pt} (hp : P3 m0 p q c m) (hc : c + 3 < 2 ^ 40) (ok : PtOk pt) :
  Run (za7 [.ob p,pt.e,zcy top] m) fun a m' => ∃ n : Nat,a = .int n /\ (n : Int) < 2 ^ pt.wide /\ P3 m p q (c + 3) m' := by
 have w1 := ok.w1
 unfold za7; rw [zeo]; erw [ix_e1]; erw [zef (by omega)]; ac_nf
 cases top with
 | none =>
  simp only [zcy]; ac_nf; refine Run.bind (zoa hp (by omega) ok) ?_; rintro _ m1 ⟨n,rfl,hn,h1⟩; ac_nf; exact Run.ok ⟨n,rfl,hn,h1.more (by omega)⟩
 | some t =>
  simp only [zcy]; ac_nf; refine Run.bind (zaL hp (by omega) (by decide) (by decide)) ?_; rintro _ m1 ⟨x,rfl,x0,x1,hp1⟩; ac_nf
  by_cases hx : x = 0
  ·rw [if_pos hx]; ac_nf; refine Run.bind (zoa hp1 (by omega) ok) ?_; rintro _ m2 ⟨n,rfl,hn,h2⟩; ac_nf; exact Run.ok ⟨n,rfl,hn,(hp1.via h2).more (by omega)⟩
  ·rw [if_neg hx]
   have := zqB (t := t) (x4 := none) hp1 (by omega) ok
   ac_nf
   exact Run.mono this fun _ _ ⟨n,e,hn,h2⟩ => ⟨n,e,hn,(hp1.via h2).more (by omega)⟩
end
def d33 : EV := by walk_at "#w9uZuWu>MuWu6w_"
def f33 : SV := by walk_at "#uxwQ!xNo/yu#9v}yvywukvS|Lu#AI"
def c33 : SV := by walk_at "#v+u6x-Fgu5rv_uPu*u>y~ukw!u>v_]x.Su5w!u6uP!x,dw#!xidw#v)vjwzz!z#Sw#ux]x.u*u6x-ukw!u6v)"
def r33 : SV := by walk_at "#v+v^yzF*y{L<Mv'vu#gu7rx$uU!y|du7*y}vGRB,vMv'vu8v)|M"
def n33 : SV := by walk_at "#Y|NYx#=>*yxov{y>u>#*yyoR,98|O"
theorem zlR : znY = (zap (zaH (eFn zep (zac (zae 0) zaj)) (gN 1))
 (zap (zia (zl4 zll (zac (eC (.int 6)) zaj)) (gN 2)
 (zap (zaH (eFn zcq (zac (zae 1) (zac (eC (.int 4)) zaj))) (gN 3))
 (zap (zqP 4 5 (zac (eFn (mkM "Reader" zbq) (zac (zae 3) zaj)) (zac d33 zaj)))
 (zia (zl4 zll (zac (eFn zaM (zac (zae 1) (zac (eFn zc0 (zac (eC (.int 8)) (zac (eC (.int 20)) (zac (eC (.int 40)) zaj)))) zaj))) zaj)) (gN 6) n33))))
 (zaE (eC (.bl true))))) := rfl
theorem d33_w {ρ : En} {m : Sto} : d33 ρ m = .ok (.ob (m.length + 1)) (m ++ [.dct (hlD [])] ++ [.dct (bkL none m.length)]) := by
 have e1 : eC .non ρ m = .ok .non m := rfl
 have gen : ∀ g : EV,g ρ m = .ok (.ob m.length) (m ++ [.dct (hlD [])]) -> zcr [("top", eC .non),("kept", g)] ρ m = .ok (.ob (m.length + 1)) (m ++ [.dct (hlD [])] ++ [.dct (bkL none m.length)]) := fun g e => by
  unfold zcr zde; rw [e1,bind_ok]
  unfold zde; rw [e,bind_ok]
  unfold zde; simp only [bind_ok]; rw [List.length_append]
  rfl
 exact gen _ rfl
theorem ix_e0 (pt : Pt) {m : Sto} : ixD pt.e (.int 0) m = .ok (shD pt.fs pt.n) m := zoy (n := 0) rfl
structure St33 (m : Sto) (p q c k h d r j : Nat) (pt : Pt) (top : Option Int) (bk : List (Int × List Int)) : Prop where
 rr : ∃ hl,RdAt m k h pt top hl /\ hl.Perm bk /\ (ksH hl).Nodup /\ (ksH hl).Pairwise (· <= ·) /\ (∀ p ∈ hl,HdOk pt.fs p.2) /\ hl.length <= j
 bx : P3 m p q c m
 md : m[d]? = some (.dct (bkL top r))
 kp : m[r]? = some (.dct (hlD bk))
 ne : Ne36 p q k h d r
section
variable {m m0 : Sto} {k h d r p q c j : Nat} {top : Option Int} {bk : List (Int × List Int)} {s d2 d6 : D} {pt : Pt}
theorem St33.box {m' : Sto} {c' : Nat} (x : St33 m p q c k h d r j pt top bk) (hp : P3 m p q c' m') : St33 m' p q c' k h d r j pt top bk := by
 obtain ⟨hl,x1,x2⟩ := x.rr
 exact ⟨⟨hl,x1.fr hp.fr x.ne.kp x.ne.kq x.ne.hp x.ne.hq,x2⟩,hp.re,hp.kept x.md x.ne.dp x.ne.dq,hp.kept x.kp x.ne.rp x.ne.rq,x.ne⟩
theorem St33.new {h' : Nat} (x : RdAt m k h pt none []) (hp : P3 m p q c m) (hk : k ≠ p /\ k ≠ q) (hh : h ≠ p /\ h ≠ q) : St33 (m ++ [.dct (hlD [])] ++ [.dct (bkL none m.length)]) p q c k h (m.length + 1) m.length j pt none [] := by
 have hl := x.lt
 have hp' := hp.lt
 refine ⟨⟨[],(x.app).app,List.Perm.refl _,by simp [ksH],by simp [ksH],(fun p hp => nomatch hp),Nat.zero_le _⟩,((hp.app).app).re,zdY (by rw [List.length_append]; rfl),zcp (zdY rfl),⟨hk.1,hk.2,hh.1,hh.2,by omega,by omega,by omega,by omega,by omega,by omega,by omega,by omega,by omega⟩⟩
theorem zsb {x7 x8 x9 x10 : Option D} (x : St33 m p q c k h d r j pt top bk) (hc : c + 1 < 2 ^ 40) :
  Run (f33 [some s,some (.ob p),some d2,some pt.e,some (.ob k),some (.ob d),some d6,x7,x8,x9,x10] m) fun fl m' => ∃ (h' d' r' : Nat) (top' : Option Int) (bk' : List (Int × List Int)),fl = .nx [some s,some (.ob p),some d2,some pt.e,some (.ob k),some (.ob d'),some d6,x7,x8,x9,x10] /\ St33 m' p q (c + 1) k h' d' r' j pt top' bk' := by
 unfold f33; ac_nf; refine Run.bind (zaL x.bx (by omega) (by decide) (by decide)) ?_; rintro _ m1 ⟨z,rfl,z0,z1,hp1⟩
 have x1 := x.box hp1
 ac_nf
 by_cases hz : z = 0
 ·rw [if_pos hz]
  obtain ⟨hl,rr,_⟩ := x1.rr
  erw [if_pos (rr.meth rfl)]; ac_nf; refine Run.bind (zlS rr) ?_; rintro _ m2 ⟨rfl,y,f⟩
  have e := x1.ne
  have hp2 : P3 m2 p q (c + 1) m2 := x1.bx.fr2 f e.kp e.kq e.hp e.hq
  have hlt := x1.bx.lt
  erw [d33_w]; ac_nf; exact Run.ok ⟨_,_,_,_,_,rfl,St33.new (h' := 0) y hp2 ⟨e.kp,e.kq⟩ ⟨by omega,by omega⟩⟩
 ·rw [if_neg hz]; exact Run.ok ⟨_,_,_,_,_,rfl,x1⟩
theorem zsg {x7 x8 x9 x10 : Option D} (x : St33 m p q c k h d r j pt top bk) (hj : j < 63) :
  Run (c33 [some s,some (.ob p),some d2,some pt.e,some (.ob k),some (.ob d),some d6,x7,x8,x9,x10] m) fun fl m' => ∃ y10,fl = .nx [some s,some (.ob p),some d2,some pt.e,some (.ob k),some (.ob d),some d6,x7,x8,x9,y10] /\ St33 m' p q c k h d r j pt top bk := by
 obtain ⟨hl,rr,hperm,hnd,hso,hhd,hlen⟩ := x.rr
 have hdlt : d < m.length := (List.getElem?_eq_some_iff.mp x.md).1
 have hrlt : r < m.length := (List.getElem?_eq_some_iff.mp x.kp).1
 have hplt := x.bx.lt
 have hrl := rr.lt
 unfold c33; erw [if_pos (rr.meth rfl)]; erw [zmy rr]; ac_nf
 have rr1 := rr.app (r := [.dct (hlD hl)])
 have md1 : (m ++ [.dct (hlD hl)])[d]? = some (.dct (bkL top r)) := zcp x.md
 have kp1 : (m ++ [.dct (hlD hl)])[r]? = some (.dct (hlD bk)) := zcp x.kp
 have nw1 : (m ++ [.dct (hlD hl)])[m.length]? = some (.dct (hlD hl)) := zdY rfl
 have bx1 := (x.bx.app (r := [.dct (hlD hl)])).re
 have hln : m.length < (m ++ [MO.dct (hlD hl)]).length := by simp
 generalize m ++ [.dct (hlD hl)] = m1 at rr1 md1 kp1 nw1 bx1 hln ⊢; generalize m.length = i at nw1 hdlt hrlt hplt hrl hln ⊢; rw [if_pos (rr1.meth rfl)]; erw [rtop_w rr1]; erw [zaT md1 (zf6 _ _)]; erw [ne_opt]; erw [zaT md1 (zdz _ _)]; erw [znm nw1 kp1 (zh9 hperm hnd)]; erw [zp9 nw1]; ac_nf
 rw [zml nw1 (by omega),zoH hso]
 unfold zjV; erw [ne_lst,decide_eq_true rfl]; erw [if_pos (show zhK (.ob i) m1 = true by unfold zhK; simp only [nw1])]; erw [show zgU (.ob i) [] m1 = .ok .non (m1.set i (.dct [])) by unfold zgU; simp only [nw1]]; ac_nf
 have f2 : Fr i i m1 (m1.set i (.dct [])) := Fr.set
 have rr2 := rr1.fr f2 (by omega) (by omega) (by omega) (by omega)
 have md2 := f2.keep md1 (by omega) (by omega)
 have kp2 := f2.keep kp1 (by omega) (by omega)
 have bx2 := bx1.fr2 f2 (by omega) (by omega) (by omega) (by omega)
 generalize m1.set i (.dct []) = m2 at rr2 md2 kp2 bx2 ⊢; rw [if_pos (rr2.meth rfl)]; erw [zmy rr2]; erw [zaT (zcp md2) (zdz _ _)]; erw [znm (zdY rfl) (zcp kp2) (zh9 hperm hnd)]; ac_nf; exact Run.ok ⟨_,rfl,⟨hl,rr2.app,hperm,hnd,hso,hhd,hlen⟩,(bx2.app).re,zcp md2,zcp kp2,x.ne⟩
end
section
variable {m m0 : Sto} {k h d r p q c j : Nat} {top : Option Int} {bk : List (Int × List Int)} {s d2 d6 : D} {pt : Pt}
theorem zqW {n : Nat} {hd : List Int} {x9 x10 : Option D} (x : St33 m p q c k h d r j pt top bk) (ok : PtOk pt) (hh : HdOk pt.fs hd) (hn : (n : Int) < 2 ^ pt.wide) (hj : j <= 55) :
  Run (r33 [some s,some (.ob p),some d2,some pt.e,some (.ob k),some (.ob d),some d6,some (.int n),some (zf8 hd),x9,x10] m) fun fl m' => ∃ (h' : Nat) (top' : Option Int) (bk' : List (Int × List Int)) (y7 y8 y9 y10 : Option D),fl = .nx [some s,some (.ob p),some d2,some pt.e,some (.ob k),some (.ob d),some d6,y7,y8,y9,y10] /\ St33 m' p q c k h' d r (j + 1) pt top' bk' := by
 obtain ⟨hl,rr,hperm,hnd,hso,hhd,hlen⟩ := x.rr
 have hw := ok.w
 unfold r33; erw [if_pos (rr.meth rfl)]; erw [zjS ok hh,lt33 hn]; ac_nf
 have hN : zdq (dgs n pt.wide) = n := by rw [zff]; exact Int.emod_eq_of_lt (Int.natCast_nonneg _) hn
 have hV : ∀ z,zpl pt top none z = z := fun z => by unfold zpl; cases top <;> rfl
 obtain ⟨hl',C1,C2,C3,C4,C5,C6⟩ := conn33 (top := top) (n := n) hw hh hperm hnd hso hhd
 have R := zoX (at' := none) (num := dgs n pt.wide) (bits := pc0 pt hd) (ck := ckI pt n hd) rr hw (ltB33 hw hh) (by rw [zaI]; rfl) (by omega) hnd hhd (by
  intro _ _ _
  rw [hd33 hw hh]
  exact hh)
 rw [hN,show rdV pt top hl none n (pc0 pt hd) (ckI pt n hd) = rdN pt top hl none n (pc0 pt hd) (ckI pt n hd) by unfold rdV; rw [if_neg (by simp),hV],C1] at R
 refine Run.bind R ?_; rintro _ m3 ⟨h',rfl,x3,f3,hh3⟩
 have hdlt : d < m.length := (List.getElem?_eq_some_iff.mp x.md).1
 have hrlt : r < m.length := (List.getElem?_eq_some_iff.mp x.kp).1
 have hplt := x.bx.lt
 have e := x.ne
 have ne' : Ne36 p q k h' d r := by
  rcases hh3 with rfl | hh3
  ·exact e
  ·exact ⟨e.kp,e.kq,by omega,by omega,e.dp,e.dq,e.rp,e.rq,e.dk,by omega,e.rk,by omega,e.dr⟩
 have hp3 : P3 m3 p q c m3 := x.bx.fr2 f3 e.kp e.kq e.hp e.hq
 have md3 := f3.keep x.md e.dk e.dh
 have kp3 := f3.keep x.kp e.rk e.rh
 have hlb : bk.length = hl.length := hperm.length_eq.symm
 erw [zr4]; erw [zkJ]; ac_nf; refine Run.bind (zob (hd := hd) md3 kp3 e.dr (by omega) ((zcZ hperm).nodup_iff.mp hnd)) ?_
 have hsm : ∀ m',zbC [(zk0 pt.rd.late top bk n hd).1,(zk0 pt.rd.late top bk n hd).1] m' = .ok (.bl true) m' := fun m' => zmu (by have := hh.len; have := ok.f1; omega)
 generalize zk0 (pt.rd.late : Int) top bk n hd = w at x3 C2 hsm ⊢; rintro _ m4 ⟨rfl,md4,kp4,f4⟩
 have x4 := x3.fr f4 (Ne.symm e.dk) (Ne.symm e.rk) (Ne.symm ne'.dh) (Ne.symm ne'.rh)
 have hp4 : P3 m4 p q c m4 := hp3.fr2 f4 e.dp e.dq e.rp e.rq
 erw [hsm]; ac_nf
 refine Run.mono (zsg (j := j + 1) ⟨⟨hl',x4,C2,C3,C4,C5,by omega⟩,hp4,md4,kp4,ne'⟩ (by omega)) ?_
 rintro _ m5 ⟨y10,rfl,h5⟩
 exact ⟨h',w.2.1,w.2.2,_,_,_,_,rfl,h5⟩
theorem zrN {x7 x8 x9 x10 : Option D} (x : St33 m p q c k h d r j pt top bk) (ok : PtOk pt) (hj : j <= 55) (hc : c + 40 < 2 ^ 40) :
  Run (n33 [some s,some (.ob p),some d2,some pt.e,some (.ob k),some (.ob d),some d6,x7,x8,x9,x10] m) fun fl m' => ∃ (h' d' r' : Nat) (top' : Option Int) (bk' : List (Int × List Int)) (y7 y8 y9 y10 : Option D),fl = .nx [some s,some (.ob p),some d2,some pt.e,some (.ob k),some (.ob d'),some d6,y7,y8,y9,y10] /\ St33 m' p q (c + 40) k h' d' r' (j + 1) pt top' bk' := by
 unfold n33; ac_nf; refine Run.bind (zsb x (by omega)) ?_; rintro _ m1 ⟨h',d',r',top',bk',rfl,x1⟩; erw [zaT x1.md (zf6 _ _)]; ac_nf; refine Run.bind (zni x1.bx (by omega) ok) ?_; rintro _ m2 ⟨n,rfl,hn,hp2⟩
 have x2 := x1.box hp2
 erw [ix_e0]; ac_nf; refine Run.bind (zka x2.bx (by omega) ok.sh.ok ok.f1) ?_; rintro _ m3 ⟨hd,rfl,hh,hp3⟩
 have x3 := x2.box hp3
 ac_nf
 refine Run.mono (zqW x3 ok hh hn hj) ?_
 rintro _ m4 ⟨h'',top'',bk'',y7,y8,y9,y10,rfl,x4⟩
 exact ⟨h'',d',r',top'',bk'',_,_,_,_,rfl,⟨x4.rr,x4.bx.more (by omega),x4.md,x4.kp,x4.ne⟩⟩
end
theorem zjQ {ns : List Int} (hn : ns.length <= 63) : Run (zkR [.scr (ns.map D.int)] []) fun a _ => a = .bl true := by
 unfold zkR; rw [zlR]; ac_nf; refine Run.bind (zsh hn) ?_; rintro _ m1 ⟨p,q,rfl,hp1⟩; erw [zfr (by decide) (by decide)]; ac_nf; refine Run.bind (za2 (fun k ρ m' => ∃ (x2 x3 x4 x5 x6 x7 x8 x9 x10 : Option D),ρ = [some (.scr (ns.map D.int)),some (.ob p),x2,x3,x4,x5,x6,x7,x8,x9,x10] /\ P3 m' p q (10000 * k) m') (zc9 0 (6 : Int).toNat) 0 ⟨_,_,_,_,_,_,_,_,_,rfl,hp1.re⟩ ?_) ?_
 ·rintro i d ρ m2 hd ⟨x2,x3,x4,x5,x6,x7,x8,x9,x10,rfl,hI⟩
  have hi := (List.getElem?_eq_some_iff.mp hd).1
  rw [zaX] at hi
  have hi3 : i < 6 := hi
  rw [Nat.zero_add] at hI ⊢
  ac_nf; refine Run.bind (zph (most := 4) hI (by omega) (by decide) (by decide)) ?_; rintro _ m3 ⟨pt,rfl,ok,hp3⟩; ac_nf; refine Run.bind (zqT pt m3) ?_; rintro _ m4 ⟨rfl,h4,x,rfl⟩
  have hp4 : P3 (m3 ++ x) p q (10000 * i + 1000) (m3 ++ x) := ((hp3.re).app).re
  have hlt := hp3.re.lt
  erw [d33_w]
  have x5 := St33.new (h' := 0) (j := 0) h4 hp4 ⟨by omega,by omega⟩ ⟨by omega,by omega⟩
  generalize m3 ++ x ++ [.dct (hlD [])] ++ [.dct (bkL none (m3 ++ x).length)] = m5 at x5 ⊢; generalize (m3 ++ x).length + 1 = dd at x5 ⊢; generalize (m3 ++ x).length = r at x5 ⊢; generalize m3.length + 1 = h at x5 ⊢; generalize m3.length = k at x5 ⊢; ac_nf; refine Run.bind (of_nat [8,20,40] x5.bx (by omega) (by simp) (by simp)) ?_; rintro _ m6 ⟨N,hN,rfl,hp6⟩
  have x6 := x5.box hp6
  have hN' : N <= 40 := by
   simp only [List.mem_cons,List.not_mem_nil,or_false] at hN
   omega
  erw [zfr (by omega) (by omega)]; ac_nf
  refine Run.mono (za2 (fun j ρ m' => ∃ (h dd r : Nat) (top : Option Int) (bk : List (Int × List Int)) (x6 x7 x8 x9 x10 : Option D),ρ = [some (.scr (ns.map D.int)),some (.ob p),some d,some pt.e,some (.ob k),some (.ob dd),x6,x7,x8,x9,x10] /\ St33 m' p q (10000 * i + 1001 + 40 * j) k h dd r j pt top bk) _ 0 ⟨h,dd,r,none,[],_,_,_,_,_,rfl,x6⟩ ?_) ?_
  ·rintro j d' ρ m7 hd7 ⟨h,dd,r,top,bk,x6,x7,x8,x9,x10,rfl,h7⟩
   have hj := (List.getElem?_eq_some_iff.mp hd7).1
   rw [zaX] at hj
   rw [Nat.zero_add] at h7 ⊢
   ac_nf
   refine Run.mono (zrN h7 ok (by omega) (by omega)) ?_
   rintro _ m8 ⟨h',d',r',top',bk',y7,y8,y9,y10,rfl,h8⟩
   exact ⟨_,rfl,h',d',r',top',bk',_,_,_,_,_,rfl,h8⟩
  ·rintro _ m7 ⟨ρ,rfl,h,dd,r,top,bk,x6,x7,x8,x9,x10,rfl,h7⟩
   rw [zaX] at h7
   exact ⟨_,rfl,_,_,_,_,_,_,_,_,_,rfl,h7.bx.more (by omega)⟩
 ·rintro _ m3 ⟨ρ,rfl,x2,x3,x4,x5,x6,x7,x8,x9,x10,rfl,_⟩; ac_nf
  exact Run.ok rfl
end MD
set_option autoImplicit false
namespace K33
open PySem PyProof.Rows L2 MD
structure Txt (mg : Str -> Option Value) : Prop where
 ValueError : mg "ValueError" = none
 sum : mg "sum" = none
 enumerate : mg "enumerate" = none
 max : mg "max" = none
 range : mg "range" = none
 tuple : mg "tuple" = none
 list : mg "list" = none
 isi : mg "isinstance" = none
 str : mg "str" = none
 min : mg "min" = none
 len : mg "len" = none
 dict : mg "dict" = none
 int : mg "int" = none
 all : mg "all" = none
 zip : mg "zip" = none
 sorted : mg "sorted" = none
 abs : mg "abs" = none
 bool : mg "bool" = none
structure TxC (K : PySem.W.Frag) (cl : Str -> Addr) : Prop where
 cReader : Cls K (cl "Reader")
 nReader_held : NoAttr K (cl "Reader") "held"
 nReader_highest : NoAttr K (cl "Reader") "highest"
 nReader_pact : NoAttr K (cl "Reader") "pact"
set_option maxHeartbeats 16000000
section
variable (P : Program) (w : World) {K : PySem.W.Frag} {mg : Str -> Option Value} (base : Heap) {cl : Str -> Addr} {f : Addr} {fd : FuncData}
theorem scAreBits : FnScope ["thing", "sign"] ["thing"] (zai zfc) := sco
theorem zlC (F : Fun K "are_bits" "are_bits" zfc f fd) (b : Binds K fd ["thing"] []) (m : mg "are_bits" = some (.ref f)) (T : Txt mg) (TC : TxC K cl) : FnX P w K mg base cl "are_bits" 1 1 zd3 :=
 by walk_at "#l|Pu`z%x/|Qw8y`uFJ|RJz&z'C(xmqulu[CuK:|S'u)wvw$[vN&vkv`[vN&vk(xmw%xm"
theorem scNumberOf : FnScope ["bits", "number", "sign"] ["bits"] (zai zdG) := sco
theorem zjE (F : Fun K "number_of" "number_of" zdG f fd) (b : Binds K fd ["bits"] []) (m : mg "number_of" = some (.ref f)) (T : Txt mg) (TC : TxC K cl) : FnX P w K mg base cl "number_of" 1 1 zaZ :=
 by walk_at "#l|Tw&xnw'ulu[CuKOxn'um:xnu!cuLvWz(z)Jz*z+uR(&"
theorem scNumbersOf : FnScope ["bits", "widths", "numbers", "begin", "width"] ["bits", "widths"] (zai zcU) := sco
theorem zin (F : Fun K "numbers_of" "numbers_of" zcU f fd) (b : Binds K fd ["bits", "widths"] []) (m : mg "numbers_of" = some (.ref f)) (T : Txt mg) (TC : TxC K cl) (hNumberOf : FnX P w K mg base cl "number_of" 1 1 zaZ) : FnX P w K mg base cl "numbers_of" 2 2 zbr :=
 by walk_at "#|U:|Vmx0'xo.u<x0w'ulu[&uK1x0'Zu{x1x2xpxqxrx3xs0Dx4Qv<CuJ3uJ`3U;um?x0u!3U(0"
theorem scWidthFor : FnScope ["many", "width", "room"] ["many"] (zai zdD) := sco
theorem zjC (F : Fun K "width_for" "width_for" zdD f fd) (b : Binds K fd ["many"] []) (m : mg "width_for" = some (.ref f)) (T : Txt mg) (TC : TxC K cl) : FnX P w K mg base cl "width_for" 1 1 zbO :=
 by walk_at "#l|Ww&x5w'mx5w'Zxtw8vZwxun0CWmx5'c0$um:x5u!uL(&"
theorem zoO : FnScope ["number", "width"] ["number", "width"] (zai zhe) := sco
theorem zm7 (F : Fun K "rest_of" "rest_of" zhe f fd) (b : Binds K fd ["number", "width"] []) (m : mg "rest_of" = some (.ref f)) (T : Txt mg) (TC : TxC K cl) : FnX P w K mg base cl "rest_of" 1 2 zb3 :=
 by walk_at "#l|X(u%Cu=&"
theorem zli : FnScope ["least", "rest", "width"] ["least", "rest", "width"] (zai zdC) := sco
theorem zjB (F : Fun K "windowed" "windowed" zdC f fd) (b : Binds K fd ["least", "rest", "width"] []) (m : mg "windowed" = some (.ref f)) (T : Txt mg) (TC : TxC K cl) (hRestOf : FnX P w K mg base cl "rest_of" 1 2 zb3) : FnX P w K mg base cl "windowed" 2 3 za9 :=
 by walk_at "#uo|Y(`C2x6Qu?&CuR"
theorem zoR : FnScope ["w", "base", "below", "rest", "width"] ["w", "base", "below", "rest", "width"] (zai zhl) := sco
theorem zne (F : Fun K "around" "around" zhl f fd) (b : Binds K fd ["w", "base", "below", "rest", "width"] []) (m : mg "around" = some (.ref f)) (T : Txt mg) (TC : TxC K cl) (hRestOf : FnX P w K mg base cl "rest_of" 1 2 zb3) (hWindowed : FnX P w K mg base cl "windowed" 2 3 za9) : FnX P w K mg base cl "around" 3 5 zf2 :=
 by walk_at "#up|Zuqx6u3Dz,Qu?&0tvOeu'."
theorem zlj : FnScope ["shape"] ["shape"] (zai zdN) := sco
theorem zjK (F : Fun K "breadths" "breadths" zdN f fd) (b : Binds K fd ["shape"] []) (m : mg "breadths" = some (.ref f)) (T : Txt mg) (TC : TxC K cl) : FnX P w K mg base cl "breadths" 1 1 zbR :=
 by walk_at "#l|[(yCyLu|urz-uSu[sus:uVuZu|z-wbut"
theorem scExpected : FnScope ["shape", "place", "former", "ahead", "more", "breadth", "kind", "value", "gone"] ["shape", "place", "former", "ahead", "more"] (zai zdM) := sco
theorem zjJ (F : Fun K "expected" "expected" zdM f fd) (b : Binds K fd ["shape", "place", "former", "ahead", "more"] []) (m : mg "expected" = some (.ref f)) (T : Txt mg) (TC : TxC K cl) (hRestOf : FnX P w K mg base cl "rest_of" 1 2 zb3) (hTurned : FnX P w K mg base cl "turned" 1 3 zfU) : FnX P w K mg base cl "expected" 2 5 zcL :=
 by walk_at "#uo|]wcv<Ks&uJ$x7w(Ax8uC@x8vPf=x8'v-&vov.vkuqx6Q`n=cv.Uwdu&vov.vkuq|^Qv.e=y<u&vov.vkf>x8'u?K3v.v-v.uqx6Q`n=cv.n>wdu&(n="
theorem zoM : FnScope ["row", "value", "more"] ["row", "value", "more"] (zai zhc) := sco
theorem zm5 (F : Fun K "turned" "turned" zhc f fd) (b : Binds K fd ["row", "value", "more"] []) (m : mg "turned" = some (.ref f)) (T : Txt mg) (TC : TxC K cl) : FnX P w K mg base cl "turned" 1 3 zfU :=
 by walk_at "#l|_j|`u3|a&C)(&w%xEw)|bCu00uueu'."
theorem zms : FnScope ["shape", "number", "head"] ["shape", "number", "head"] (zai zfb) := sco
theorem zlB (F : Fun K "check_of" "check_of" zfb f fd) (b : Binds K fd ["shape", "number", "head"] []) (m : mg "check_of" = some (.ref f)) (T : Txt mg) (TC : TxC K cl) : FnX P w K mg base cl "check_of" 1 3 zc3 :=
 by walk_at "#l|c(w)&uGz.)z/Jz0z1wev:u|u]xuxQuZxvxwuSxxJxy0u4w(wfxzu|u]xuxvxwuC1uVxzu|u]xuxvxwvPu4yDc`3$U.s"
theorem zmq : FnScope ["way", "breadth"] ["way", "breadth"] (zai ze3) := sco
theorem zls (F : Fun K "width_of" "width_of" ze3 f fd) (b : Binds K fd ["way", "breadth"] []) (m : mg "width_of" = some (.ref f)) (T : Txt mg) (TC : TxC K cl) : FnX P w K mg base cl "width_of" 1 2 zbB :=
 by walk_at "#l|dwg($qwg(sw%&"
theorem zoL : FnScope ["shape", "form"] ["shape", "form"] (zai zhb) := sco
theorem zm4 (F : Fun K "widths" "widths" zhb f fd) (b : Binds K fd ["shape", "form"] []) (m : mg "widths" = some (.ref f)) (T : Txt mg) (TC : TxC K cl) (hBreadths : FnX P w K mg base cl "breadths" 1 1 zbR) (hWidthOf : FnX P w K mg base cl "width_of" 1 2 zbB) : FnX P w K mg base cl "widths" 2 2 zdu :=
 by walk_at "#uo|e(yCuZu|x{xQuZx|x}uS|fJ|gut2z2whu4w(OuVvau|x{x|x}uCwfvau|x{x|x}vPu4yD2|hu^Ov/"
theorem zoN : FnScope ["shape", "form"] ["shape", "form"] (zai zhd) := sco
theorem zm6 (F : Fun K "size_of" "size_of" zhd f fd) (b : Binds K fd ["shape", "form"] []) (m : mg "size_of" = some (.ref f)) (T : Txt mg) (TC : TxC K cl) (hWidths : FnX P w K mg base cl "widths" 2 2 zdu) : FnX P w K mg base cl "size_of" 3 2 zem :=
 by walk_at "#up|i(uGz.)z/Jz0z1Dz3XvA;"
theorem scOpened : FnScope ["shape", "form", "bits", "former", "more", "head", "place", "rest", "base"] ["shape", "form", "bits", "former", "more"] (zai zhg) := sco
theorem zm9 (F : Fun K "opened" "opened" zhg f fd) (b : Binds K fd ["shape", "form", "bits", "former", "more"] []) (m : mg "opened" = some (.ref f)) (T : Txt mg) (TC : TxC K cl) (hExpected : FnX P w K mg base cl "expected" 2 5 zcL) (hNumbersOf : FnX P w K mg base cl "numbers_of" 2 2 zbr) (hValueTold : FnX P w K mg base cl "value_told" 4 4 zb6) (hWidths : FnX P w K mg base cl "widths" 2 2 zdu) : FnX P w K mg base cl "opened" 5 5 zfY :=
 by walk_at "#uE1|jfAw;'v7.ulxxJxy2z4u^ODz3XvA;w(@w;uC=w;vPf>w;uD|kXv0twdvOumAw;u!u1v7D|lvQutucv1Ksuc$e>e=;(u1"
theorem zjr : FnScope ["way", "breadth", "base", "rest"] ["way", "breadth", "base", "rest"] (zai zcQ) := sco
theorem zij (F : Fun K "value_told" "value_told" zcQ f fd) (b : Binds K fd ["way", "breadth", "base", "rest"] []) (m : mg "value_told" = some (.ref f)) (T : Txt mg) (TC : TxC K cl) (hAround : FnX P w K mg base cl "around" 3 5 zf2) : FnX P w K mg base cl "value_told" 4 4 zb6 :=
 by walk_at "#uE?|mwg(0qwguq|nu^:u9witwiu&(3"
theorem zoQ : FnScope ["pact", "at"] ["pact", "at"] (zai zhk) := sco
theorem znd (F : Fun K "form_at" "form_at" zhk f fd) (b : Binds K fd ["pact", "at"] []) (m : mg "form_at" = some (.ref f)) (T : Txt mg) (TC : TxC K cl) : FnX P w K mg base cl "form_at" 1 2 za0 :=
 by walk_at "#l|ojv2&u2v@u8wi4cv74v7y5;uuv1swjw%Ks&"
theorem zjs : FnScope ["pact"] ["pact"] (zai zcS) := sco
theorem zil (F : Fun K "sort_width" "sort_width" zcS f fd) (b : Binds K fd ["pact"] []) (m : mg "sort_width" = some (.ref f)) (T : Txt mg) (TC : TxC K cl) (hWidthFor : FnX P w K mg base cl "width_for" 1 1 zbO) : FnX P w K mg base cl "sort_width" 2 1 za3 :=
 by walk_at "#uo|puqz5Qw*uuwi;"
theorem zh8 : FnScope ["pact"] ["pact"] (zai zcl) := sco
theorem zhC (F : Fun K "check_width" "check_width" zcl f fd) (b : Binds K fd ["pact"] []) (m : mg "check_width" = some (.ref f)) (T : Txt mg) (TC : TxC K cl) (hWidthFor : FnX P w K mg base cl "width_for" 1 1 zbO) : FnX P w K mg base cl "check_width" 2 1 zbc :=
 by walk_at "#uo|quqz5vQsw+"
theorem scLetterSize : FnScope ["pact", "at", "form"] ["pact", "at"] (zai zch) := sco
theorem zhz (F : Fun K "letter_size" "letter_size" zch f fd) (b : Binds K fd ["pact", "at"] []) (m : mg "letter_size" = some (.ref f)) (T : Txt mg) (TC : TxC K cl) (hCheckWidth : FnX P w K mg base cl "check_width" 2 1 zbc) (hFormAt : FnX P w K mg base cl "form_at" 1 2 za0) (hSizeOf : FnX P w K mg base cl "size_of" 3 2 zem) (hSortWidth : FnX P w K mg base cl "sort_width" 2 1 za3) : FnX P w K mg base cl "letter_size" 4 2 zbP :=
 by walk_at "#uE?|rm|suDw<Xu0(```2x~whv-$2|tQsuR2z6wh"
theorem scSortTold : FnScope ["pact", "bits", "sort"] ["pact", "bits"] (zai zdF) := sco
theorem zjD (F : Fun K "sort_told" "sort_told" zdF f fd) (b : Binds K fd ["pact", "bits"] []) (m : mg "sort_told" = some (.ref f)) (T : Txt mg) (TC : TxC K cl) (hNumberOf : FnX P w K mg base cl "number_of" 1 1 zaZ) (hSortWidth : FnX P w K mg base cl "sort_width" 2 1 za3) : FnX P w K mg base cl "sort_told" 3 2 zb7 :=
 by walk_at "#up|um|vuDx4Qv<&x7uJ2x~X;jy!y#0uuwi.w,x9w%y$[wD0uvvVu?0$"
theorem scParted : FnScope ["pact", "letter", "at", "begin", "behind", "last", "check"] ["pact", "letter"] (zai zhf) := sco
theorem zm8 (F : Fun K "parted" "parted" zhf f fd) (b : Binds K fd ["pact", "letter"] []) (m : mg "parted" = some (.ref f)) (T : Txt mg) (TC : TxC K cl) (hAreBits : FnX P w K mg base cl "are_bits" 1 1 zd3) (hCheckWidth : FnX P w K mg base cl "check_width" 2 1 zbc) (hFormAt : FnX P w K mg base cl "form_at" 1 2 za0) (hLetterSize : FnX P w K mg base cl "letter_size" 4 2 zbP) (hNumberOf : FnX P w K mg base cl "number_of" 1 1 zaZ) (hSortTold : FnX P w K mg base cl "sort_told" 3 2 zb7) (hSortWidth : FnX P w K mg base cl "sort_width" 2 1 za3) : FnX P w K mg base cl "parted" 5 2 zen :=
 by walk_at "#uE1|wu`z%x/2|xu^:.u)x9qmw=uD|yXu0jvNuuu02|zXuRw,x9qu<w=uDx~whv3w=u!3K2w<XuR$fAw='u?uuu02z6whf@w=uDx4Qv<&uJu1x7.jy%y&ucKsuvu)x9qv@u9Dx4Qv<&uJ3uJU.4v<&uJUuJu1v0."
theorem scThoseKept : FnScope ["held", "bound", "least"] ["held", "bound"] (zai zcR) := sco
theorem zik (F : Fun K "those_kept" "those_kept" zcR f fd) (b : Binds K fd ["held", "bound"] []) (m : mg "those_kept" = some (.ref f)) (T : Txt mg) (TC : TxC K cl) : FnX P w K mg base cl "those_kept" 1 2 zbf :=
 by walk_at "#l|{m||wk)y')wly(wFv:w6x:v;uru]uSCuswfvaw6x:v;u]wIx;un3&Wu43&(|}wFv:w6x:v;uru]uSu[uG|~)}!J}#}$eu'.uswfvaw6x:v;u]wIx;[y%y&30Wu43u4xE3"
theorem zh5 : FnScope ["self", "pact"] ["self", "pact"] (zai zcg) := sco
theorem zhy (F : Fun K "__init__" "Reader.__init__" zcg f fd) (b : Binds K fd ["self", "pact"] []) (mc : mg "Reader" = some (.ref (cl "Reader"))) (m : Mk K (cl "Reader") f) (T : Txt mg) (TC : TxC K cl) : FnC P w K mg base cl "Reader" 1 2 zbq :=
 have h := FnC.mk' (P := P) (w := w) (base := base) (cl := cl) (k := 0) F b mc m zh5 rfl fun cdv A outer s H E hr =>
  (zaf (zfs (zab 0) (zab 1) TC.cReader TC.nReader_pact)
  (zaf (zfs (zab 0) zaW TC.cReader TC.nReader_highest)
  (zah (zfs (zab 0) zfe TC.cReader TC.nReader_held))))
 h
theorem scReaderRead : FnScope ["self", "letter", "at", "number", "bits", "check", "head"] ["self", "letter"] (zai zce) := sco
theorem zhw (F : Fun K "read" "Reader.read" zce f fd) (b : Binds K fd ["self", "letter"] []) (m : Meth K (cl "Reader") "read" f) (T : Txt mg) (TC : TxC K cl) (hReaderHeadTold : FnM P w K mg base cl "Reader" "head_told" 6 4 zaQ) (hReaderIsFar : FnM P w K mg base cl "Reader" "is_far" 2 3 zbg) (hReaderIsLate : FnM P w K mg base cl "Reader" "is_late" 2 2 za4) (hReaderLeast : FnM P w K mg base cl "Reader" "least" 1 1 zaB) (hReaderRise : FnM P w K mg base cl "Reader" "rise" 2 2 zaY) (hCheckOf : FnX P w K mg base cl "check_of" 1 3 zc3) (hFormAt : FnX P w K mg base cl "form_at" 1 2 za0) (hParted : FnX P w K mg base cl "parted" 5 2 zen) (hWindowed : FnX P w K mg base cl "windowed" 2 3 za9) : FnM P w K mg base cl "Reader" "read" 7 2 zbp :=
 by walk_at "#vX@}%wc2}&Qv4u0y?1xKOvbuC?vbuC1vbuCAvbvPjwm0u2jv2w-u2wnum?vbuDz,Qy)y*uTtv12w<Qv4uR$u&u`x/v=}'uTv/vRwnjz7u3z83w.)u,tu&u`w$[wm0u2v`x/v=}(uTtv12w<Qv4uRw+wyvRZu{v=z9uTv/vRwnf@vb'v=})uTu9tvOwywyvRjvN2}*vQv4$tv0.u1WwnZx<x=u3w.3uc)Zu{v=z9uTv/vRu,tv0."
theorem zgb : FnScope ["self"] ["self"] (zai zbz) := sco
theorem zfz (F : Fun K "forget" "Reader.forget" zbz f fd) (b : Binds K fd ["self"] []) (m : Meth K (cl "Reader") "forget" f) (T : Txt mg) (TC : TxC K cl) : FnM P w K mg base cl "Reader" "forget" 1 1 za5 :=
 by walk_at "#wo}+Zx>CvVw3xUu)x>C},w3xV"
theorem zjt : FnScope ["self"] ["self"] (zai zcT) := sco
theorem zim (F : Fun K "top" "Reader.top" zcT f fd) (b : Binds K fd ["self"] []) (m : Meth K (cl "Reader") "top" f) (T : Txt mg) (TC : TxC K cl) : FnM P w K mg base cl "Reader" "top" 1 1 zbH :=
 by walk_at "#wo}-(w-"
theorem zh4 : FnScope ["self"] ["self"] (zai zcf) := sco
theorem zhx (F : Fun K "kept" "Reader.kept" zcf f fd) (b : Binds K fd ["self"] []) (m : Meth K (cl "Reader") "kept" f) (T : Txt mg) (TC : TxC K cl) : FnM P w K mg base cl "Reader" "kept" 1 1 zaR :=
 by walk_at "#wo}.(vW}/}0J}1}24w.."
theorem zg9 : FnScope ["self"] ["self"] (zai zbU) := sco
theorem zgh (F : Fun K "least" "Reader.least" zbU f fd) (b : Binds K fd ["self"] []) (m : Meth K (cl "Reader") "least" f) (T : Txt mg) (TC : TxC K cl) : FnM P w K mg base cl "Reader" "least" 1 1 zaB :=
 by walk_at "#wo}3(u?w-KKv4vh"
theorem zga : FnScope ["self", "number"] ["self", "number"] (zai zby) := sco
theorem zfy (F : Fun K "is_late" "Reader.is_late" zby f fd) (b : Binds K fd ["self", "number"] []) (m : Meth K (cl "Reader") "is_late" f) (T : Txt mg) (TC : TxC K cl) (hReaderLeast : FnM P w K mg base cl "Reader" "least" 1 1 zaB) : FnM P w K mg base cl "Reader" "is_late" 2 2 za4 :=
 by walk_at "#vX:}4(z:vcvguLWy+}5vcwmw-u2y+vcvg&y)y*uTW"
theorem zfp : FnScope ["self", "number"] ["self", "number"] (zai zbv) := sco
theorem zeU (F : Fun K "nearest" "Reader.nearest" zbv f fd) (b : Binds K fd ["self", "number"] []) (m : Meth K (cl "Reader") "nearest" f) (T : Txt mg) (TC : TxC K cl) : FnM P w K mg base cl "Reader" "nearest" 1 2 zaO :=
 by walk_at "#wo}6(y')wly(wFuZz;u]urz<uSw.usOuVv:z;u]z<wIx;un0&Wu40vV"
theorem scReaderIsFar : FnScope ["self", "number", "reach", "former"] ["self", "number", "reach"] (zai zbV) := sco
theorem zgi (F : Fun K "is_far" "Reader.is_far" zbV f fd) (b : Binds K fd ["self", "number", "reach"] []) (m : Meth K (cl "Reader") "is_far" f) (T : Txt mg) (TC : TxC K cl) (hReaderNearest : FnM P w K mg base cl "Reader" "nearest" 1 2 zaO) : FnM P w K mg base cl "Reader" "is_far" 2 3 zbg :=
 by walk_at "#vX:}7u<}8'v=z=uTu0vR(z:vcv23u2y+vcy!y#u?&30W"
theorem scReaderHeadTold : FnScope ["self", "at", "number", "bits", "former"] ["self", "at", "number", "bits"] (zai zbi) := sco
theorem zei (F : Fun K "head_told" "Reader.head_told" zbi f fd) (b : Binds K fd ["self", "at", "number", "bits"] []) (m : Meth K (cl "Reader") "head_told" f) (T : Txt mg) (TC : TxC K cl) (hReaderNearest : FnM P w K mg base cl "Reader" "nearest" 1 2 zaO) (hBreadths : FnX P w K mg base cl "breadths" 1 1 zbR) (hFormAt : FnX P w K mg base cl "form_at" 1 2 za0) (hNumbersOf : FnX P w K mg base cl "numbers_of" 2 2 zbr) (hOpened : FnX P w K mg base cl "opened" 5 5 zfY) : FnM P w K mg base cl "Reader" "head_told" 6 4 zaQ :=
 by walk_at "#vXA}9jv2&u2(w/Dz4u^?Dz2vQv4wju&v3}:'v=z=uTuRvRuq};vQv4$Dw<Qv4u0tv1w.Uwp0U."
theorem zh3 : FnScope ["self", "number"] ["self", "number"] (zai zcd) := sco
theorem zhv (F : Fun K "rise" "Reader.rise" zcd f fd) (b : Binds K fd ["self", "number"] []) (m : Meth K (cl "Reader") "rise" f) (T : Txt mg) (TC : TxC K cl) (hReaderLeast : FnM P w K mg base cl "Reader" "least" 1 1 zaB) (hThoseKept : FnX P w K mg base cl "those_kept" 1 2 zbf) : FnM P w K mg base cl "Reader" "rise" 2 2 zaY :=
 by walk_at "#vX:}<Zx>Cy$[v2w-u2&uGz>)z?wlz@4w-u0w3xUu)x>C2}=Qw.4y)y*uT.w3xV"
theorem scLawBox : FnScope ["_law_script", "_law_seed", "_law_own", "_law_far", "_law_cell"] ["_law_script"] (zai zhj) := sco
theorem znc (F : Fun K "_law_box" "_law_box" zhj f fd) (b : Binds K fd ["_law_script"] []) (m : mg "_law_box" = some (.ref f)) (T : Txt mg) (TC : TxC K cl) : FnX P w K mg base cl "_law_box" 1 1 zep :=
 by walk_at "#l}>w&w>w'mw>'xo.u<w>'u(x?x@u(x?x@u(x?x@u(x?x@v5v5v5v5v5ulu[v<Cx7uJ$uK1w>'w&w>'w)`cuLu%Uv5vhu)wv[y%y&uGzAzBJzCzDvOv5w,u{x1x2xpxqxrx3xs04u%uGzAzBJzCzDvO3u&(}?y,0y,&y,$}@}AuF"
theorem scLawNext : FnScope ["_law_box_here", "_law_many", "_law_digit", "_law_turn", "_law_mixed"] ["_law_box_here", "_law_many"] (zai ze7) := sco
theorem zlx (F : Fun K "_law_next" "_law_next" ze7 f fd) (b : Binds K fd ["_law_box_here", "_law_many"] []) (m : mg "_law_next" = some (.ref f)) (T : Txt mg) (TC : TxC K cl) : FnX P w K mg base cl "_law_next" 1 2 zav :=
 by walk_at "#l}BZxtw8vZwxw$[vNVxP.Wv`[wDKVvhw,u{x1x2}C}D}Ex3}FVvDjvNVxP.Wmw?'u%KV$&wcu(y-y.KV$&}GV$(0qZx<x=u3Cuw`V$)u<w?'Vv3w?u!`Vcc33$c3$v3w?'u%cUvhv3w?'u%cU`u%Uvh$(u%u(y-y.U$&"
theorem zqL : FnScope ["_law_box_here", "_law_some"] ["_law_box_here", "_law_some"] (zai zkt) := sco
theorem zpj (F : Fun K "_law_of" "_law_of" zkt f fd) (b : Binds K fd ["_law_box_here", "_law_some"] []) (m : mg "_law_of" = some (.ref f)) (T : Txt mg) (TC : TxC K cl) (hLawNext : FnX P w K mg base cl "_law_next" 1 2 zav) : FnX P w K mg base cl "_law_of" 2 2 zaM :=
 by walk_at "#uo}H(K&2w5vBuuvA;"
theorem scLawValue : FnScope ["_law_box_here", "_law_breadth", "_law_some"] ["_law_box_here", "_law_breadth"] (zai zdI) := sco
theorem zjG (F : Fun K "_law_value" "_law_value" zdI f fd) (b : Binds K fd ["_law_box_here", "_law_breadth"] []) (m : mg "_law_value" = some (.ref f)) (T : Txt mg) (TC : TxC K cl) (hLawNext : FnX P w K mg base cl "_law_next" 1 2 zav) : FnX P w K mg base cl "_law_value" 2 2 za6 :=
 by walk_at "#uo}Im}J'y7wpu=uLDw5vBu=&;(u%v-wqu=&"
theorem scLawKind : FnScope ["_law_box_here", "_law_place", "_law_breadth", "_law_way_here", "_law_many", "_law_first", "_law_step", "_law_times"] ["_law_box_here", "_law_place", "_law_breadth"] (zai ze8) := sco
theorem zly (F : Fun K "_law_kind" "_law_kind" ze8 f fd) (b : Binds K fd ["_law_box_here", "_law_place", "_law_breadth"] []) (m : mg "_law_kind" = some (.ref f)) (T : Txt mg) (TC : TxC K cl) (hLawNext : FnX P w K mg base cl "_law_next" 1 2 zav) (hLawOf : FnX P w K mg base cl "_law_of" 2 2 zaM) (hLawValue : FnX P w K mg base cl "_law_value" 2 2 za6) : FnX P w K mg base cl "_law_kind" 3 3 zcJ :=
 by walk_at "#up}Ku<w@uDwEvDjvg3uvu,u&jvg3uvu,Dy/Xu9;qvo3uvv3w@'uGzE)zFJzGzH4w*wq4u=0.wcv7Dw5vBu=0.4`c$wqw+w(Aw@wkxK@w@wk)yMu,4w/we}Lu}zIzJzKzLzMzNzOurxAuSwrvOus>uV}Mu}zIzJzKzLzMzNzOxAwbw)u1cucn>u=0;qu`w$un3uvv`[y!y#uLWf=w@'y7ws$vews$wpwqw+u,DwEu0DyIXe=;qu,."
theorem scLawShape : FnScope ["_law_box_here", "_law_most", "_law_letters", "_law_first", "_law_fields", "_law_place", "_law_breadth", "_law_name"] ["_law_box_here", "_law_most"] (zai zdJ) := sco
theorem zjH (F : Fun K "_law_shape" "_law_shape" zdJ f fd) (b : Binds K fd ["_law_box_here", "_law_most"] []) (m : mg "_law_shape" = some (.ref f)) (T : Txt mg) (TC : TxC K cl) (hLawKind : FnX P w K mg base cl "_law_kind" 3 3 zcJ) (hLawNext : FnX P w K mg base cl "_law_next" 1 2 zav) (hLawOf : FnX P w K mg base cl "_law_of" 2 2 zaM) : FnX P w K mg base cl "_law_shape" 4 2 zb8 :=
 by walk_at "#uE?}NmwA'uwZ}Ow2?y01)wAv>uFv>DwEvD4xo;)ulwr4w*xMvA;uKAwA'f@wAuDy@ve;f=wA'cv-w)3c$u1$w*w)3u1$u)u{x1x2xpxqxrx3xsU4v7e=v0D}PXwdv0w0v@4w/vOw1u84v5w0"
theorem scLawWay : FnScope ["_law_box_here", "_law_breadth", "_law_way_here", "_law_width_here"] ["_law_box_here", "_law_breadth"] (zai zhh) := sco
theorem zna (F : Fun K "_law_way" "_law_way" zhh f fd) (b : Binds K fd ["_law_box_here", "_law_breadth"] []) (m : mg "_law_way" = some (.ref f)) (T : Txt mg) (TC : TxC K cl) (hLawNext : FnX P w K mg base cl "_law_next" 1 2 zav) (hLawValue : FnX P w K mg base cl "_law_value" 2 2 za6) : FnX P w K mg base cl "_law_way" 3 2 zd1 :=
 by walk_at "#up}QmzPuDwEvDjvg0uvu,u&vo0uvu,u&u<zPu!$xMu0u,tDy/Xt;"
theorem scLawForm : FnScope ["_law_box_here", "_law_shape_here", "_law_ways"] ["_law_box_here", "_law_shape_here"] (zai ze9) := sco
theorem zlz (F : Fun K "_law_form" "_law_form" ze9 f fd) (b : Binds K fd ["_law_box_here", "_law_shape_here"] []) (m : mg "_law_form" = some (.ref f)) (T : Txt mg) (TC : TxC K cl) (hLawOf : FnX P w K mg base cl "_law_of" 2 2 zaM) (hLawWay : FnX P w K mg base cl "_law_way" 3 2 zd1) : FnX P w K mg base cl "_law_form" 4 2 zb9 :=
 by walk_at "#uE?}Rm}S'w/wev:u}vdzQurxBuSu[utuswfvau}vdzQxBwb2}TvBK3wjv@w1u8;w1veu8;uR"
theorem scLawRoad : FnScope ["_law_box_here", "_law_skips", "_law_gap"] ["_law_box_here"] (zai ze5) := sco
theorem zlv (F : Fun K "_law_road" "_law_road" ze5 f fd) (b : Binds K fd ["_law_box_here"] []) (m : mg "_law_road" = some (.ref f)) (T : Txt mg) (TC : TxC K cl) (hLawOf : FnX P w K mg base cl "_law_of" 2 2 zaM) : FnX P w K mg base cl "_law_road" 3 1 zd2 :=
 by walk_at "#up}Uw&zRuDy@u8;mzRu!&2xHu8;v@vAu9w1;w1u8w0"
theorem scLawPact : FnScope ["_law_box_here", "_law_most", "_law_shape_here", "_law_forms"] ["_law_box_here", "_law_most"] (zai ze6) := sco
theorem zlw (F : Fun K "_law_pact" "_law_pact" ze6 f fd) (b : Binds K fd ["_law_box_here", "_law_most"] []) (m : mg "_law_pact" = some (.ref f)) (T : Txt mg) (TC : TxC K cl) (hLawForm : FnX P w K mg base cl "_law_form" 4 2 zb9) (hLawOf : FnX P w K mg base cl "_law_of" 2 2 zaM) (hLawRoad : FnX P w K mg base cl "_law_road" 3 1 zd2) (hLawShape : FnX P w K mg base cl "_law_shape" 4 2 zb8) : FnX P w K mg base cl "_law_pact" 5 2 zcq :=
 by walk_at "#uE1}VmzSwk)2}WXu0u<zS'w/wevau}zTvdzUurxAuSwrw1w0us1uVxzu}zTvdzUxAwb2}XXu9;v@u9DxH;tD}YX;"
theorem zh7 : FnScope ["_law_box_here", "_law_shape_here"] ["_law_box_here", "_law_shape_here"] (zai zcj) := sco
theorem zhB (F : Fun K "_law_any_head" "_law_any_head" zcj f fd) (b : Binds K fd ["_law_box_here", "_law_shape_here"] []) (m : mg "_law_any_head" = some (.ref f)) (T : Txt mg) (TC : TxC K cl) (hLawValue : FnX P w K mg base cl "_law_value" 2 2 za6) : FnX P w K mg base cl "_law_any_head" 3 2 zbt :=
 by walk_at "#up}Z(w/weuZu}vdurxBuSu[utusOuVv:u}vdxBwb2y/vBv-wj"
theorem scLawBits : FnScope ["_law_number", "_law_width_here", "_law_found", "_law_k"] ["_law_number", "_law_width_here"] (zai zfa) := sco
theorem zlA (F : Fun K "_law_bits" "_law_bits" zfa f fd) (b : Binds K fd ["_law_number", "_law_width_here"] []) (m : mg "_law_bits" = some (.ref f)) (T : Txt mg) (TC : TxC K cl) : FnX P w K mg base cl "_law_bits" 1 2 zbD :=
 by walk_at "#l}[mxC'uwulwru0uK?xC'mxCu!vW}]}^Jz&z'4u%Cw+0umu'xC'u(y-y.C$(0"
theorem scLawWidth : FnScope ["_law_many", "_law_width_here"] ["_law_many"] (zai zdH) := sco
theorem zjF (F : Fun K "_law_width" "_law_width" zdH f fd) (b : Binds K fd ["_law_many"] []) (m : mg "_law_width" = some (.ref f)) (T : Txt mg) (TC : TxC K cl) : FnX P w K mg base cl "_law_width" 1 1 zbs :=
 by walk_at "#l}_w&zVw'Zxtw8vZwxunu=&CWum:zVu!uL(&"
theorem scLawCheck : FnScope ["_law_shape_here", "_law_number", "_law_head", "_law_total", "_law_place"] ["_law_shape_here", "_law_number", "_law_head"] (zai zdL) := sco
theorem zjI (F : Fun K "_law_check" "_law_check" zdL f fd) (b : Binds K fd ["_law_shape_here", "_law_number", "_law_head"] []) (m : mg "_law_check" = some (.ref f)) (T : Txt mg) (TC : TxC K cl) : FnX P w K mg base cl "_law_check" 1 3 zcK :=
 by walk_at "#l}`u<y1'&ulwr4uuu9;uK1y1'um?y1u!3c`U$v-U(u%3s"
theorem zh6 : FnScope ["_law_way_here", "_law_breadth"] ["_law_way_here", "_law_breadth"] (zai zci) := sco
theorem zhA (F : Fun K "_law_width_of" "_law_width_of" zci f fd) (b : Binds K fd ["_law_way_here", "_law_breadth"] []) (m : mg "_law_width_of" = some (.ref f)) (T : Txt mg) (TC : TxC K cl) : FnX P w K mg base cl "_law_width_of" 1 2 zdw :=
 by walk_at "#l}awg(sw%c&vWz(z)Jz*z+4vcwDzr."
theorem scLawPieces : FnScope ["_law_shape_here", "_law_ways", "_law_head", "_law_found", "_law_place", "_law_field", "_law_width_here"] ["_law_shape_here", "_law_ways", "_law_head"] (zai zcV) := sco
theorem zio (F : Fun K "_law_pieces" "_law_pieces" zcV f fd) (b : Binds K fd ["_law_shape_here", "_law_ways", "_law_head"] []) (m : mg "_law_pieces" = some (.ref f)) (T : Txt mg) (TC : TxC K cl) (hLawBits : FnX P w K mg base cl "_law_bits" 1 2 zbD) (hLawWidthOf : FnX P w K mg base cl "_law_width_of" 1 2 zdw) : FnX P w K mg base cl "_law_pieces" 2 3 zbQ :=
 by walk_at "#uo}bu<wB'uwulxxJxysw(1wBuCAwBvPf@wB'y$[v2&u2Ku1$2}cvQ&Uv1u1w+um?wBu!32xDQu%v-Uu=ucv0.(3"
theorem scLawLetter : FnScope ["_law_pact_here", "_law_at", "_law_number", "_law_head", "_law_shape_here", "_law_wide", "_law_forms", "_law_road_here", "_law_count", "_law_ways", "_law_sort", "_law_found"] ["_law_pact_here", "_law_at", "_law_number", "_law_head"] (zai zcW) := sco
theorem ziq (F : Fun K "_law_letter" "_law_letter" zcW f fd) (b : Binds K fd ["_law_pact_here", "_law_at", "_law_number", "_law_head"] []) (m : mg "_law_letter" = some (.ref f)) (T : Txt mg) (TC : TxC K cl) (hLawBits : FnX P w K mg base cl "_law_bits" 1 2 zbD) (hLawCheck : FnX P w K mg base cl "_law_check" 1 3 zcK) (hLawPieces : FnX P w K mg base cl "_law_pieces" 2 3 zbQ) (hLawWidth : FnX P w K mg base cl "_law_width" 1 1 zbs) : FnX P w K mg base cl "_law_letter" 3 4 zbI :=
 by walk_at "#up}dwcCy?1xK1u~uCAu~uC@u~uC=u~vPZzWw2>y0u7zXu5)u~wCuFuFuFwCwd4vVvD)jwm&u2u)zWw2>y0u7zXu5)u~wCuFuFuFwCv1y;uLv1y;uL4w*&.)qfuYu~u!2xDu^u5DzYQw*uuv0w02xDQu%0u=n>e>.fuYu~u!nuY2}eu^1eu7v/(`nuY2xDu3D}fu^1u9v/DzYvQUwj"
theorem scLawTake : FnScope ["_law_model", "_law_late", "_law_number", "_law_edge", "_law_last", "_law_one"] ["_law_model", "_law_late", "_law_number"] (zai ze4) := sco
theorem zlt (F : Fun K "_law_take" "_law_take" ze4 f fd) (b : Binds K fd ["_law_model", "_law_late", "_law_number"] []) (m : mg "_law_take" = some (.ref f)) (T : Txt mg) (TC : TxC K cl) : FnX P w K mg base cl "_law_take" 1 3 zc1 :=
 by walk_at "#l}gu`xTzZ[v2Vu2z[unV0w,x<x=u3Cuw0)qu<y2wk)u?V&v3y2'y')wly(wF}hz]z^z_z`zazburzczm}i}jv>Vus@uV}kz]z^z_z`zazbzcwIx;unuc3Wu4ucvVu)znu[vW}l)}mJ}n}o4V.uKAy2'u)wvw$unu13Wv`[vNu1Uw,u{}pVu1}qv>v>q"
theorem zmr : FnScope ["_law_found", "_law_due_here"] ["_law_found", "_law_due_here"] (zai zdK) := sco
theorem zfB (F : Fun K "_law_same" "_law_same" zdK f fd) (b : Binds K fd ["_law_found", "_law_due_here"] []) (m : mg "_law_same" = some (.ref f)) (T : Txt mg) (TC : TxC K cl) : ∀ n,FnX P w K mg base cl "_law_same" (0 + n) 2 (zaU n)
 | 0 => FnX.none F b m
 | n + 1 => by
  have hLawSame := zfB F b m T TC  n
  have h := mkx P w base cl (0 + n) F b m zmr fun cdv A outer s H E hr =>
   (zaf (zaJ (zey (zft (n := "tuple") (by decide) (by rfl) T.isi (by rfl) T.tuple boot_tuple (zab 1)))
   (zaf (zaJ (zbZ (zmF (zkz (zey (zft (n := "tuple") (by decide) (by rfl) T.isi (by rfl) T.tuple boot_tuple (zab 0)))) (zky (zas (zdf hr.units) zgj (zaD za1 zcM (by rfl) T.len PySem.boot_len (zaa (zab 0) zag)) (zaD za1 zcM (by rfl) T.len PySem.boot_len (zaa (zab 1) zag)) (zao _)))))
   (zah (zak zih))
   zar)
   (zah (zak (zaD (zoq rfl) fd_all (by rfl) T.all boot_all (zaa (zcC rfl rfl (N0 := ["_law_found", "_law_due_here"]) (xs := ["_law_one", "_law_other"]) ⟨(by with_unfolding_all rfl),rfl,rfl,rfl,(by repeat (first | exact trivial | refine ⟨rfl,?_⟩)),rfl,.inl rfl⟩ (zpZ (by rfl) T.zip (zab 0) (zab 1)) (fun _ _ _ _ => (zdP (n := 2) rfl (zaC (zau (i := 2) (by decide +kernel : (["_law_found", "_law_due_here", "_law_one", "_law_other"] : List Str).Nodup) rfl (Or.inl rfl)) (zaC (zau (i := 3) (by decide +kernel : (["_law_found", "_law_due_here", "_law_one", "_law_other"] : List Str).Nodup) rfl (Or.inl rfl)) zcn)))) (fun _ _ _ _ => zcB) (fun _ _ _ _ => (qe_fn hLawSame rfl (hr.mono (Nat.le_refl _)) rfl (zaa (zab 2) (zaa (zab 3) zag)) (aCons_len (aCons_len aNil_len))))) zag)))))
   zar)
   (zaf (zaJ (zas zdg zgk (zab 1) zaW (zao _))
   (zah (zak (zdQ zdg zgk (zab 0) zaW (zao _))))
   zar)
   (zaf (zaJ (zey (zft (n := "str") (by decide) (by rfl) T.isi (by rfl) T.str boot_str (zab 1)))
   (zah (zak (zkA (zft (n := "str") (by decide) (by rfl) T.isi (by rfl) T.str boot_str (zab 0)) (zig (zdQ (zbx hr.units) zcD (zab 0) (zab 1) (zao _))))))
   zar)
   (zah (zak (zkA (zft (n := "int") (by decide) (by rfl) T.isi (by rfl) T.int boot_int (zab 0)) (zkA (qe_not (zft (n := "bool") (by decide) (by rfl) T.isi (by rfl) T.bool boot_bool (zab 0))) (zig (zdQ (zbx hr.units) zcD (zab 0) (zab 1) (zao _))))))))))
  exact h
theorem zlu (F : Fun K "_law_same" "_law_same" zdK f fd) (b : Binds K fd ["_law_found", "_law_due_here"] []) (m : mg "_law_same" = some (.ref f)) (T : Txt mg) (TC : TxC K cl) : FnX P w K mg base cl "_law_same" 12 2 zbC := zfB P w base F b m T TC  12
theorem scLawNumberFor : FnScope ["_law_box_here", "_law_pact_here", "_law_top", "_law_last", "_law_near"] ["_law_box_here", "_law_pact_here", "_law_top"] (zai zbA) := sco
theorem zfA (F : Fun K "_law_number_for" "_law_number_for" zbA f fd) (b : Binds K fd ["_law_box_here", "_law_pact_here", "_law_top"] []) (m : mg "_law_number_for" = some (.ref f)) (T : Txt mg) (TC : TxC K cl) (hLawNext : FnX P w K mg base cl "_law_next" 1 2 zav) (hLawOf : FnX P w K mg base cl "_law_of" 2 2 zaM) : FnX P w K mg base cl "_law_number_for" 3 3 za7 :=
 by walk_at "#up}ru<zd'u?u=ut$u`xTzZ[v20u2z[[wDwquvuqzktDw5vBu=ut;u&v3zdu!02xHws$ws$u8wsKut$wpzs$Kut$wp$xMu8w0(uGzE)zFJzGzH4uGz>)z?wlz@y<vDv/"
theorem zoP : FnScope ["_law_model", "_law_late", "_law_number", "_law_head"] ["_law_model", "_law_late", "_law_number", "_law_head"] (zai zhi) := sco
theorem znb (F : Fun K "_law_due" "_law_due" zhi f fd) (b : Binds K fd ["_law_model", "_law_late", "_law_number", "_law_head"] []) (m : mg "_law_due" = some (.ref f)) (T : Txt mg) (TC : TxC K cl) (hLawTake : FnX P w K mg base cl "_law_take" 1 3 zc1) : FnX P w K mg base cl "_law_due" 2 4 zc2 :=
 by walk_at "#uo}su`w$[wmVu2v`un0u?V&Wwnjz7u3z80V)u,u9u&Zx<x=u3V03)Zu{2}tXvAuRu,u9v/"
theorem scLaw : FnScope ["_law_script", "_law_box_here", "_law_turn", "_law_pact_here", "_law_reader", "_law_model", "_law_more", "_law_number", "_law_head", "_law_told", "_law_kept"] ["_law_script"] (zai zqQ) := sco
theorem ok_Law (F : Fun K "law" "law" zqQ f fd) (b : Binds K fd ["_law_script"] []) (m : mg "law" = some (.ref f)) (T : Txt mg) (TC : TxC K cl) (hReaderInit : FnC P w K mg base cl "Reader" 1 2 zbq) (hReaderForget : FnM P w K mg base cl "Reader" "forget" 1 1 za5) (hReaderKept : FnM P w K mg base cl "Reader" "kept" 1 1 zaR) (hReaderRead : FnM P w K mg base cl "Reader" "read" 7 2 zbp) (hReaderTop : FnM P w K mg base cl "Reader" "top" 1 1 zbH) (hLawAnyHead : FnX P w K mg base cl "_law_any_head" 3 2 zbt) (hLawBox : FnX P w K mg base cl "_law_box" 1 1 zep) (hLawDue : FnX P w K mg base cl "_law_due" 2 4 zc2) (hLawLetter : FnX P w K mg base cl "_law_letter" 3 4 zbI) (hLawNext : FnX P w K mg base cl "_law_next" 1 2 zav) (hLawNumberFor : FnX P w K mg base cl "_law_number_for" 3 3 za7) (hLawOf : FnX P w K mg base cl "_law_of" 2 2 zaM) (hLawPact : FnX P w K mg base cl "_law_pact" 5 2 zcq) (hLawSame : FnX P w K mg base cl "_law_same" 12 2 zbC) : FnOk P w K mg base CX0 13 f fd ["_law_script"] (spD K cl X0 1 zkR) :=
 have h := fnO (P := P) (w := w) (mg := mg) (base := base) (cl := cl) (k := 12) F scLaw rfl fun cdv A outer s H E hr =>
  (zaf (zam (i := 1) scLaw.nd rfl (Or.inl rfl) (qfn hLawBox hr (zaa (zab 0) zag)))
  (zaf (zcs PassesOwn.never rfl (zdn (by rfl) T.range (zaa zad zag)) (zau (i := 2) scLaw.nd rfl (Or.inl rfl))
  (zaf (zam (i := 3) scLaw.nd rfl (Or.inl rfl) (qfn hLawPact hr (zaa (zab 1) (zaa zad zag))))
  (zaf (zmH (i := 4) (j := 5) rfl scLaw.nd rfl rfl (by decide) rfl rfl (zaa (zqY hReaderInit rfl (hr.mono (by decide)) rfl (zaa (zab 3) zag) (aCons_len aNil_len)) (zaa (zjz (QPs.cons zaW (QPs.cons zfe QPs.nil)) (by simp) (by decide)) zag)) rfl)
  (zah (zcs PassesOwn.never rfl (zdn (by rfl) T.range (zaa (qfn hLawOf hr (zaa (zab 1) (zaa (zbw (zaa zad (zaa zad (zaa zad zag)))) zag))) zag)) (zau (i := 6) scLaw.nd rfl (Or.inl rfl))
  (zaf (zaJ (zas (zbx hr.units) zcD (qfn hLawNext hr (zaa (zab 1) (zaa zad zag))) zad (zao _))
  (zaf (zb0 (zdo hReaderForget (zab 4) TC.cReader rfl (hr.mono (by decide))))
  (zah (zam (i := 5) scLaw.nd rfl (Or.inl rfl) (zjz (QPs.cons zaW (QPs.cons zfe QPs.nil)) (by simp) (by decide)))))
  zar)
  (zaf (zmH (i := 7) (j := 8) rfl scLaw.nd rfl rfl (by decide) rfl rfl (zaa (qfn hLawNumberFor hr (zaa (zab 1) (zaa (zab 3) (zaa (qxi hr (zab 5) zaq) zag)))) (zaa (qfn hLawAnyHead hr (zaa (zab 1) (zaa (qxi hr (zab 3) zad) zag))) zag)) rfl)
  (zaf (zam (i := 9) scLaw.nd rfl (Or.inl rfl) (zez hReaderRead (zab 4) TC.cReader rfl (hr.mono (by decide)) (zaa (qfn hLawLetter hr (zaa (zab 3) (zaa zaW (zaa (zab 7) (zaa (zab 8) zag))))) zag) (aCons_len aNil_len)))
  (zaf (zaJ (zkz (zey (qfn hLawSame hr (zaa (zab 9) (zaa (qfn hLawDue hr (zaa (zab 5) (zaa (qxi hr (qxi hr (zab 3) zad) zad) (zaa (zab 7) (zaa (zab 8) zag))))) zag)))))
  (zah (zak zih))
  zar)
  (zaf (zam (i := 10) scLaw.nd rfl (Or.inl rfl) (zdo hReaderKept (zab 4) TC.cReader rfl (hr.mono (by decide))))
  (zaf (zaJ (zbZ (zmF (zas (zdf hr.units) zgj (zdo hReaderTop (zab 4) TC.cReader rfl (hr.mono (by decide))) (qxi hr (zab 5) zaq) (zao _)) (zmF (zas (zp2 (hu65 hr)) zp4 (zab 10) (qxi hr (zab 5) zaq) (zao _)) (zky (zas (zdf hr.units) zgj (zaS (zgW rfl) zn5 (by rfl) T.list boot_list (zaa (zab 10) zag)) (zaD (zeN rfl) zkY (by rfl) T.sorted boot_sorted (zaa (zab 10) zag)) (zao _))))))
  (zah (zak zih))
  zar)
  (zaf (zb0 (qe_bm0 PySem.F.plainAttrs_dict PySem.F.slot_dict_clear PySem.F.type_dict_clear zpp ty_dct zpq (zab 10)))
  (zah (zaJ (zas (zp2 (hu65 hr)) zp4 (zdo hReaderKept (zab 4) TC.cReader rfl (hr.mono (by decide))) (qxi hr (zab 5) zaq) (zao _))
  (zah (zak zih))
  zar))))))))))))))
  (zah (zak zih))))
 h
end
end K33
set_option autoImplicit false
namespace K33
open PySem L2 MD
theorem znz {ns : List Int} (h : ns.length <= 63) : ∃ a m,zkR [.scr (ns.map D.int)] [] = .ok a m /\ a = .bl true := zjQ h
end K33
set_option autoImplicit false
namespace K33
open PySem PyProof.Rows L2 MD PySem.W.Fast
theorem trH {α β : Type} {f f' g g' : α -> β} (a : f = f') (c : g = g') {w : α} (b : f' w = g' w) : f w = g w := by rw [a,c]; exact b
theorem hl : PySem.W.LeftO pw vw [] xt (fun s => obs (Kof 424 s.heap)) (fun _ => expd) 4942 := fun w => both (parts4 24 (trH te8906442719225455409 te13579576736294351600 (hlq0 w)) (trH te5964565275028813438 te7340330696294009100 (hlq1 w)) (trH te12984249959616762439 te12236673436263557351 (hlq2 w)) (trH te10158137017806330943 te14285939940830779792 (hlq3 w)) (trH te15350317014937126798 te14428848710779028423 (hlq4 w)) (trH te16553575333030085743 te1130043941692636184 (hlq5 w)) (trH te18267126493157099889 te2010425307037491383 (hlq6 w)) (trH te5070562073093850109 te4482225144939263046 (hlq7 w))) (both4 (trH te6133285556252145950 te18170423527857718090 (hlq8 w)) (trH te15843322658081326358 te4764106959777395024 (hlq9 w)) (znH (znH (znH (znH (znH (trH te4109183084622561649 te6229690640934280125 (hlq10 w)) (trH te9057165500133497263 te14170293226956033696 (hlq11 w))) (trH te1065343074297741782 te4810977709648543274 (hlq12 w))) (trH te6185069075116149017 te9136859329053624148 (hlq13 w))) (trH te13087940232859340222 te7517175058224116131 (hlq14 w))) (trH te2191764210971071068 te5490901614204980448 (hlq15 w))))
theorem all_mk {l : PySem.W.OpenLaw} {w : World} {K : PySem.W.Frag} {h : Heap} {mg : Str -> Option Value} {fa : Addr} (y : obs K = expd) (X : K.In h) (G : h.Ns mainGlobals mg) (hfa : mg "law" = some (.ref fa)) :
  ∃ fd : FuncData,(∀ (s : Shared) (v : Value),BindsTo s fd ⟨[v],[]⟩ [("_law_script", v)]) /\ ∀ base : Heap,K.In base -> base.Ns mainGlobals mg -> FnOk l.prog w K mg base CX0 13 fa fd ["_law_script"] (spLaw K) := by
 have y1 : nms.map (PySem.W.nsIn K mainGlobals) = nmsE := congrArg (fun x => x.1) y
 have y2 : fnd.map (fun p => PySem.W.findIn K (.ref p.1) p.2) = fndE := congrArg (fun x => x.2.1) y
 have y3 : fns.map (fnV K) = fnsE := congrArg (fun x => x.2.2.1) y
 have y4 : bls K = blsE := congrArg (fun x => x.2.2.2) y
 have n : ∀ (i : Nat) {x : Str} {v : Value},nms[i]? = some x -> nmsE[i]? = some (some (some v)) -> mg x = some v := fun i _ _ a b => PySem.W.mg_of X G (zrj y1 i a b)
 have o : ∀ (i : Nat) {x : Str},nms[i]? = some x -> nmsE[i]? = some (some none) -> mg x = none := fun i _ a b => PySem.W.mg_none_of X G (zrj y1 i a b)
 have u : ∀ (st : Stmt) (i : Nat) {a : Addr} {x q : Str},fns[i]? = some a -> fnsE[i]? = some (fnE x q st) -> ∃ fd,Fun K x q st a fd := fun st i _ _ _ a b => fun_of (st := st) (zrj y3 i a b)
 have e := hfa.symm.trans (n 44 rfl rfl)
 cases e
 have T : Txt mg := ⟨o 46 rfl rfl,o 47 rfl rfl,o 48 rfl rfl,o 49 rfl rfl,o 50 rfl rfl,o 51 rfl rfl,o 52 rfl rfl,o 53 rfl rfl,o 54 rfl rfl,o 55 rfl rfl,o 56 rfl rfl,o 57 rfl rfl,o 58 rfl rfl,o 59 rfl rfl,o 60 rfl rfl,o 61 rfl rfl,o 62 rfl rfl,o 63 rfl rfl⟩
 obtain ⟨cl,eReader⟩ : ∃ cl : Str -> Addr,cl "Reader" = 277 := ⟨fun x => if x = "Reader" then 277 else 0,if_pos rfl⟩
 have ly : ∀ (i : Nat) (b : Bool),(bls K)[i]? = some b -> b = true := fun i b hb => by
  rw [y4] at hb
  exact List.mem_replicate.mp (List.mem_of_getElem? (show (List.replicate 12 true)[i]? = some b from hb)) |>.2
 have cReader : ∀ (i : Nat) {x : Str} {v : Option (Option Value)},fnd[i]? = some (277,x) -> fndE[i]? = some v -> PySem.W.findIn K (.ref (cl "Reader")) x = v := fun i _ _ a b => by rw [eReader]; exact zrj y2 i a b
 have qReader := ly 0 _ rfl
 simp only [Bool.and_eq_true] at qReader
 obtain ⟨⟨⟨⟨pgReader,hdReader⟩,poReader⟩,mkReader⟩,kcReader⟩ := qReader
 have TC : TxC K cl := ⟨(by rw [eReader]; exact ⟨pgReader,hdReader,poReader,(zrj y2 0 rfl rfl)⟩),cReader 1 rfl rfl,cReader 2 rfl rfl,cReader 3 rfl rfl⟩
 have ⟨_,F55⟩ := u zqQ 55 rfl rfl
 have Fx := F55
 obtain ⟨oc,od,kV,doc,pm,an,cdv,ct,osl,rfl,lk,hcd⟩ := Fx.ex
 refine ⟨PySem.W.fnOf "law" "law" (zes zqQ) (zbu zqQ) (zai zqQ) .none kV doc pm an cdv ct,fun s v => .of_eq rfl,fun base _ _ => ?_⟩
 have ⟨_,F23⟩ := u zcg 23 rfl rfl
 have g23 := zhy l.prog w base F23 F23.bindA (by rw [eReader]; exact PySem.W.mg_of X G (zrj y1 45 rfl rfl)) (by rw [eReader]; exact ⟨mkReader,(zrj y2 4 rfl rfl),ly 1 _ rfl,kcReader⟩) T TC
 have ⟨_,F25⟩ := u zbz 25 rfl rfl
 have g25 := zfz l.prog w base F25 F25.bindA ⟨cReader 6 rfl rfl,ly 3 _ rfl,F25.kp⟩ T TC
 have ⟨_,F27⟩ := u zcf 27 rfl rfl
 have g27 := zhx l.prog w base F27 F27.bindA ⟨cReader 8 rfl rfl,ly 5 _ rfl,F27.kp⟩ T TC
 have ⟨_,F30⟩ := u zbv 30 rfl rfl
 have g30 := zeU l.prog w base F30 F30.bindA ⟨cReader 11 rfl rfl,ly 8 _ rfl,F30.kp⟩ T TC
 have ⟨_,F7⟩ := u zdN 7 rfl rfl
 have g7 := zjK l.prog w base F7 F7.bindA (n 7 rfl rfl) T TC
 have ⟨_,F16⟩ := u zhk 16 rfl rfl
 have g16 := znd l.prog w base F16 F16.bindA (n 16 rfl rfl) T TC
 have ⟨_,F1⟩ := u zdG 1 rfl rfl
 have g1 := zjE l.prog w base F1 F1.bindA (n 1 rfl rfl) T TC
 have ⟨_,F2⟩ := u zcU 2 rfl rfl
 have g2 := zin l.prog w base F2 F2.bindA (n 2 rfl rfl) T TC g1
 have ⟨_,F4⟩ := u zhe 4 rfl rfl
 have g4 := zm7 l.prog w base F4 F4.bindA (n 4 rfl rfl) T TC
 have ⟨_,F9⟩ := u zhc 9 rfl rfl
 have g9 := zm5 l.prog w base F9 F9.bindA (n 9 rfl rfl) T TC
 have ⟨_,F8⟩ := u zdM 8 rfl rfl
 have g8 := zjJ l.prog w base F8 F8.bindA (n 8 rfl rfl) T TC g4 g9
 have ⟨_,F5⟩ := u zdC 5 rfl rfl
 have g5 := zjB l.prog w base F5 F5.bindA (n 5 rfl rfl) T TC g4
 have ⟨_,F6⟩ := u zhl 6 rfl rfl
 have g6 := zne l.prog w base F6 F6.bindA (n 6 rfl rfl) T TC g4 g5
 have ⟨_,F15⟩ := u zcQ 15 rfl rfl
 have g15 := zij l.prog w base F15 F15.bindA (n 15 rfl rfl) T TC g6
 have ⟨_,F11⟩ := u ze3 11 rfl rfl
 have g11 := zls l.prog w base F11 F11.bindA (n 11 rfl rfl) T TC
 have ⟨_,F12⟩ := u zhb 12 rfl rfl
 have g12 := zm4 l.prog w base F12 F12.bindA (n 12 rfl rfl) T TC g7 g11
 have ⟨_,F14⟩ := u zhg 14 rfl rfl
 have g14 := zm9 l.prog w base F14 F14.bindA (n 14 rfl rfl) T TC g8 g2 g15 g12
 have ⟨_,F32⟩ := u zbi 32 rfl rfl
 have g32 := zei l.prog w base F32 F32.bindA ⟨cReader 13 rfl rfl,ly 10 _ rfl,F32.kp⟩ T TC g30 g7 g16 g2 g14
 have ⟨_,F31⟩ := u zbV 31 rfl rfl
 have g31 := zgi l.prog w base F31 F31.bindA ⟨cReader 12 rfl rfl,ly 9 _ rfl,F31.kp⟩ T TC g30
 have ⟨_,F28⟩ := u zbU 28 rfl rfl
 have g28 := zgh l.prog w base F28 F28.bindA ⟨cReader 9 rfl rfl,ly 6 _ rfl,F28.kp⟩ T TC
 have ⟨_,F29⟩ := u zby 29 rfl rfl
 have g29 := zfy l.prog w base F29 F29.bindA ⟨cReader 10 rfl rfl,ly 7 _ rfl,F29.kp⟩ T TC g28
 have ⟨_,F22⟩ := u zcR 22 rfl rfl
 have g22 := zik l.prog w base F22 F22.bindA (n 22 rfl rfl) T TC
 have ⟨_,F33⟩ := u zcd 33 rfl rfl
 have g33 := zhv l.prog w base F33 F33.bindA ⟨cReader 14 rfl rfl,ly 11 _ rfl,F33.kp⟩ T TC g28 g22
 have ⟨_,F10⟩ := u zfb 10 rfl rfl
 have g10 := zlB l.prog w base F10 F10.bindA (n 10 rfl rfl) T TC
 have ⟨_,F0⟩ := u zfc 0 rfl rfl
 have g0 := zlC l.prog w base F0 F0.bindA (n 0 rfl rfl) T TC
 have ⟨_,F3⟩ := u zdD 3 rfl rfl
 have g3 := zjC l.prog w base F3 F3.bindA (n 3 rfl rfl) T TC
 have ⟨_,F18⟩ := u zcl 18 rfl rfl
 have g18 := zhC l.prog w base F18 F18.bindA (n 18 rfl rfl) T TC g3
 have ⟨_,F13⟩ := u zhd 13 rfl rfl
 have g13 := zm6 l.prog w base F13 F13.bindA (n 13 rfl rfl) T TC g12
 have ⟨_,F17⟩ := u zcS 17 rfl rfl
 have g17 := zil l.prog w base F17 F17.bindA (n 17 rfl rfl) T TC g3
 have ⟨_,F19⟩ := u zch 19 rfl rfl
 have g19 := zhz l.prog w base F19 F19.bindA (n 19 rfl rfl) T TC g18 g16 g13 g17
 have ⟨_,F20⟩ := u zdF 20 rfl rfl
 have g20 := zjD l.prog w base F20 F20.bindA (n 20 rfl rfl) T TC g1 g17
 have ⟨_,F21⟩ := u zhf 21 rfl rfl
 have g21 := zm8 l.prog w base F21 F21.bindA (n 21 rfl rfl) T TC g0 g18 g16 g19 g1 g20 g17
 have ⟨_,F24⟩ := u zce 24 rfl rfl
 have g24 := zhw l.prog w base F24 F24.bindA ⟨cReader 5 rfl rfl,ly 2 _ rfl,F24.kp⟩ T TC g32 g31 g29 g28 g33 g10 g16 g21 g5
 have ⟨_,F26⟩ := u zcT 26 rfl rfl
 have g26 := zim l.prog w base F26 F26.bindA ⟨cReader 7 rfl rfl,ly 4 _ rfl,F26.kp⟩ T TC
 have ⟨_,F35⟩ := u ze7 35 rfl rfl
 have g35 := zlx l.prog w base F35 F35.bindA (n 24 rfl rfl) T TC
 have ⟨_,F37⟩ := u zdI 37 rfl rfl
 have g37 := zjG l.prog w base F37 F37.bindA (n 26 rfl rfl) T TC g35
 have ⟨_,F44⟩ := u zcj 44 rfl rfl
 have g44 := zhB l.prog w base F44 F44.bindA (n 33 rfl rfl) T TC g37
 have ⟨_,F34⟩ := u zhj 34 rfl rfl
 have g34 := znc l.prog w base F34 F34.bindA (n 23 rfl rfl) T TC
 have ⟨_,F51⟩ := u ze4 51 rfl rfl
 have g51 := zlt l.prog w base F51 F51.bindA (n 40 rfl rfl) T TC
 have ⟨_,F54⟩ := u zhi 54 rfl rfl
 have g54 := znb l.prog w base F54 F54.bindA (n 43 rfl rfl) T TC g51
 have ⟨_,F45⟩ := u zfa 45 rfl rfl
 have g45 := zlA l.prog w base F45 F45.bindA (n 34 rfl rfl) T TC
 have ⟨_,F47⟩ := u zdL 47 rfl rfl
 have g47 := zjI l.prog w base F47 F47.bindA (n 36 rfl rfl) T TC
 have ⟨_,F48⟩ := u zci 48 rfl rfl
 have g48 := zhA l.prog w base F48 F48.bindA (n 37 rfl rfl) T TC
 have ⟨_,F49⟩ := u zcV 49 rfl rfl
 have g49 := zio l.prog w base F49 F49.bindA (n 38 rfl rfl) T TC g45 g48
 have ⟨_,F46⟩ := u zdH 46 rfl rfl
 have g46 := zjF l.prog w base F46 F46.bindA (n 35 rfl rfl) T TC
 have ⟨_,F50⟩ := u zcW 50 rfl rfl
 have g50 := ziq l.prog w base F50 F50.bindA (n 39 rfl rfl) T TC g45 g47 g49 g46
 have ⟨_,F36⟩ := u zkt 36 rfl rfl
 have g36 := zpj l.prog w base F36 F36.bindA (n 25 rfl rfl) T TC g35
 have ⟨_,F53⟩ := u zbA 53 rfl rfl
 have g53 := zfA l.prog w base F53 F53.bindA (n 42 rfl rfl) T TC g35 g36
 have ⟨_,F40⟩ := u zhh 40 rfl rfl
 have g40 := zna l.prog w base F40 F40.bindA (n 29 rfl rfl) T TC g35 g37
 have ⟨_,F41⟩ := u ze9 41 rfl rfl
 have g41 := zlz l.prog w base F41 F41.bindA (n 30 rfl rfl) T TC g36 g40
 have ⟨_,F42⟩ := u ze5 42 rfl rfl
 have g42 := zlv l.prog w base F42 F42.bindA (n 31 rfl rfl) T TC g36
 have ⟨_,F38⟩ := u ze8 38 rfl rfl
 have g38 := zly l.prog w base F38 F38.bindA (n 27 rfl rfl) T TC g35 g36 g37
 have ⟨_,F39⟩ := u zdJ 39 rfl rfl
 have g39 := zjH l.prog w base F39 F39.bindA (n 28 rfl rfl) T TC g38 g35 g36
 have ⟨_,F43⟩ := u ze6 43 rfl rfl
 have g43 := zlw l.prog w base F43 F43.bindA (n 32 rfl rfl) T TC g41 g36 g42 g39
 have ⟨_,F52⟩ := u zdK 52 rfl rfl
 have g52 := zlu l.prog w base F52 F52.bindA (n 41 rfl rfl) T TC
 have g55 := ok_Law l.prog w base F55 F55.bindA (n 44 rfl rfl) T TC g23 g25 g27 g24 g26 g44 g34 g54 g50 g35 g53 g36 g43 g52
 exact MD.law_fn g55 fun _ h => znz h
end K33
open PySem PySem.W PyProof.Rows
set_option maxRecDepth 100000 in
theorem PySem.Challenge.cw_shorthead_k33_whole_letters_read_holds : PySem.Challenge.rw_shorthead_k33_whole_letters_read.Holds := by
 w_on; o_law
 refine PySem.W.holds_openX (q := K33.vw) (loose := []) (Xt := K33.xt) (XP := PySem.W.XL K33.vw []) (Yf := fun s => K33.obs (MD.Kof 424 s.heap)) (Ya := fun _ => K33.expd) (N := 4942) K33.hl (fun s e => PySem.W.xl_of s (Bool.and_eq_true_iff.mp e).1) PySem.W.XL.keeps (by rfl) (by rfl) (by rfl) (fun s e => PySem.W.recFacts_of (Bool.and_eq_true_iff.mp e).2) (by rfl) (by first | assumption | decide +kernel) (by decide +kernel) ⟨rfl,rfl,rfl,rfl,rfl,by decide +kernel⟩ ?hw ?hc
 case hw => w_witness2
 case hc => exact MD.walk_ofY (l := PySem.Challenge.rw_shorthead_k33_whole_letters_read) (n := 63) (k := 13) (x := "_law_script") (CX := L2.CX0) (sp := MD.spLaw) rfl (by decide) rfl ⟨rfl,by decide,by decide,rfl⟩ (fun K y w mg fa h X G hmg => K33.all_mk y X G hmg) (fun _ _ a ns hl _ hS => ⟨a,ns,rfl,hS,hl,fun _ => rfl⟩) fun _ _ _ _ z => z
