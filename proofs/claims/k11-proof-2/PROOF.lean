import PyProof.Rows.All
import Wide.All
import OpenK.AllK
import Wide.FinOn
import HandS.ForMost
import HandS.OwnEq
import HandS.Deep
import HandS.FStr
import HandS.Gcd
import HandS.IsInst
import HandS.Wide
import HandS.Conv
import HandS.Evl
import HandS.Style
import HandS.ListItems
import HandS.Walk
import HandS.TryOnly
import PySem.Challenge.RW_chargeturns_k11_joinings_by_hand
import KE.KDictPairs
import HandS.Zip
import HandS.DictComp
import KE.KMathG
import KE.IntBitsLaws
import HandS.SetBool
import HandS.SetTxt0
import PyProof.Rows.SortStr
import PyProof.Rows.SortShellAny
import KE.IntTextLaws
import KE.GoesEnumKw
import HandS.Text
import HandS.List
import HandS.Iter
import PyProof.StrOps2
import PyProof.ReprLen
import KE.GoesNew
import KE.GoesMore
set_option Elab.async false
set_option linter.all false
set_option maxRecDepth 100000
set_option maxHeartbeats 4000000
/-! What all the texts of this proof share: calls by name, the pot's frame, a wider power. -/
namespace Ct
open PySem PySem.Spec PyProof.Rows L2 TL

/-! ### calls by name -/
/-- the def called x keeps sp at level k, wherever the module's names are as they are -/
structure Keeps (P : Program) (w : World) (K : PySem.W.Frag) (mg : Str → Option Value) (base : Heap) (k : Nat) (x : Str) (ps : List Str) (sp : Sp) : Prop where
  ex : ∃ (f : Addr) (fd : FuncData), FnOk P w K mg base CX0 k f fd ps sp ∧ mg x = some (.ref f) ∧ PySem.W.keepIn K (.ref f) = true ∧ Binds K fd ps [] ∧
    ∀ st f' fd', Fun K x x st f' fd' → mg x = some (.ref f') → Fun K x x st f fd
/-- where the text's statement st, a def called x, lies behind the top -/
structure Lies (K : PySem.W.Frag) (mg : Str → Option Value) (x : Str) (st : Stmt) : Prop where
  ex : ∃ (f : Addr) (fd : FuncData), Fun K x x st f fd ∧ mg x = some (.ref f)
section
variable {P : Program} {w : World} {K : PySem.W.Frag} {mg : Str → Option Value} {base : Heap}
theorem Keeps.up {j k : Nat} {x : Str} {ps : List Str} {sp : Sp} (G : Keeps P w K mg base j x ps sp) (h : j ≤ k) : Keeps P w K mg base k x ps sp := by
  obtain ⟨f, fd, g1, g2⟩ := G.ex
  exact ⟨f, fd, g1.mono h, g2⟩
theorem Lies.keeps {x : Str} {st : Stmt} {N ps : List Str} {k : Nat} {sp : Sp} (D : Lies K mg x st) (S : FnScope N ps (defScope st))
    (hb : ∀ (kV doc pm : Value) (an : Option Addr) (cdv ct : Value) (us : List Value), us.length = ps.length → bindArgs (PySem.W.fnOf x x (defArgs st) (defBody st) (defScope st) .none kV doc pm an cdv ct) ⟨us, []⟩ = pure (ps.zip us))
    (len : ∀ vs H Q E, sp vs H Q E → vs.length = ps.length)
    (body : ∀ (f : Addr) (cdv : Value) (A : Around) (outer : List Env) (s : Shared) (H : Hp) (vs : List V) (Q : VK) (E : XK), Room k (A.deeper (envOfC x (defScope st) s.heap.objs.size f cdv)) → sp vs H Q E →
      ∃ t, PSs (cxOf CX0 P w K mg base N x (defScope st) f cdv A outer s H E).nox (defBody st) t ∧ t { nx := fun _ H' => Q .non H', rt := Q } (start N vs) H) : Keeps P w K mg base (k + 1) x ps sp := by
  obtain ⟨f, fd, F, hm⟩ := D.ex
  refine ⟨f, fd, F.ok S len (body f), hm, F.kp, F.binds hb, fun st' f' fd' F' hm' => ?_⟩
  have e := hm.symm.trans hm'
  cases e
  obtain ⟨oc, od, kV, doc, pm, an, c1, ct, osl, e1, l1, _⟩ := F.ex
  obtain ⟨oc', od', kV', doc', pm', an', c1', ct', osl', e1', l1', _⟩ := id F'.ex
  rw [l1] at l1'
  cases l1'
  exact F'
end
/-- the class called x, at C: its instances are made by an __init__ that keeps sp -/
structure Makes (P : Program) (w : World) (K : PySem.W.Frag) (mg : Str → Option Value) (base : Heap) (k : Nat) (x : Str) (C : Addr) (ps : List Str) (sp : Sp) : Prop where
  ex : ∃ (f : Addr) (fd : FuncData), Mk K C f ∧ FnOk P w K mg base CX0 k f fd ps sp ∧ mg x = some (.ref C) ∧ Binds K fd ps []
section
variable {X : Cx}
theorem pe_new {k : Nat} {x : Str} {C : Addr} {p pos : Pos} {e : Expr} {es : List Expr} {ps : List Str} {sp : Sp} {t : TA} (G : Makes X.prog X.w X.K X.mg X.base k x C ps sp) (hr : Room (k + 1) X.A) (hg : Gl X x) (ha : PA X (e :: es) t)
    (hdb : (x == ("__debug__" : Str)) = false := by decide) (he : starEach (e :: es) X.env = (false, eval e X.env) :: starEach es X.env := by rfl) (hpl : (backTo pos (starEach es X.env)).any (·.1) = false := by rfl) :
    PE X (.Call (.Name x p) (e :: es) [] pos) (tMake C sp [] E0 t) := by
  obtain ⟨f, fd, g0, g1, g2, g3⟩ := G.ex
  exact pe_make g0 g1 hr hg g2 g3 .nil pass0 ha hdb he hpl
theorem pe_go {k : Nat} {x : Str} {p pos : Pos} {e : Expr} {es : List Expr} {ps : List Str} {sp : Sp} {t : TA} (G : Keeps X.prog X.w X.K X.mg X.base k x ps sp) (hr : Room k X.A) (hg : Gl X x) (ha : PA X (e :: es) t)
    (hdb : (x == ("__debug__" : Str)) = false := by decide) (he : starEach (e :: es) X.env = (false, eval e X.env) :: starEach es X.env := by rfl) (hpl : (backTo pos (starEach es X.env)).any (·.1) = false := by rfl) :
    PE X (.Call (.Name x p) (e :: es) [] pos) (tCall sp [] E0 t) := by
  obtain ⟨f, fd, g1, g2, g3, g4, _⟩ := G.ex
  exact pe_call g1 hr hg g2 g3 g4 .nil pass0 ha hdb he hpl
/-- f(k = v, ..), the keywords in the parameters' contrary sequence -/
theorem pe_goK0 {k : Nat} {x : Str} {st : Stmt} {p pos : Pos} {kws : List Keyword} {ps ks : List Str} {sp : Sp} {tk : TA} (G : Keeps X.prog X.w X.K X.mg X.base k x ps sp) (D : Lies X.K X.mg x st)
    (hbind : ∀ (kV doc pm : Value) (an : Option Addr) (cdv ct : Value) (ws : List Value), ws.length = ps.length → bindArgs (PySem.W.fnOf x x (defArgs st) (defBody st) (defScope st) .none kV doc pm an cdv ct) ⟨[], ks.zip ws⟩ = pure (ps.zip ws.reverse))
    (hr : Room k X.A) (hg : Gl X x) (hkw : PK X kws tk) (hall : (backToKw pos (keywordEach kws X.env)).all (·.1.isSome) = true := by rfl) (hks : (backToKw pos (keywordEach kws X.env)).filterMap (·.1) = ks := by rfl) (hps : ps ≠ [] := by decide)
    (hdb : (x == ("__debug__" : Str)) = false := by decide) (hpl : ((backTo pos (starEach [] X.env)).any (·.1) || (backToKw pos (keywordEach kws X.env)).any (·.1.isNone)) = false := by rfl) :
    PE X (.Call (.Name x p) [] kws pos) (fun σ H Q => tk σ H fun zs H2 => sp zs.reverse H2 Q E0) := by
  obtain ⟨f, fd, F, hm, hk, _, same⟩ := G.ex
  obtain ⟨f', fd', F', hm'⟩ := D.ex
  have F2 := same st f' fd' F' hm'
  obtain ⟨oc, od, kV, doc, pm, an, cdv, ct, osl, efd, _, _⟩ := F2.ex
  have kb : KBinds X.K fd ps ks (fun us ws => match us with | [] => ws.reverse | _ :: _ => []) (fun us ws => match us with | [] => ws.reverse | _ :: _ => []) := by
    refine ⟨fun s us ws _ hl => ?_, fun {vs us zs ws} r rz => ?_⟩
    · cases us with
      | nil =>
        subst efd
        exact BindsTo.of_eq (hbind kV doc pm an cdv ct ws (by simpa using hl))
      | cons u r =>
        exact absurd (List.eq_nil_of_length_eq_zero hl.symm) hps
    · cases r with
      | nil => exact rz.reverse
      | cons _ _ => exact .nil
  refine ⟨fun pins s σ H Q I h => wpAny_Call_Name_kw (ld_glob I hg hm ?_ hdb)⟩
  refine PySem.W.callWith_KW0 (h₀ := X.base) I.ok.mod.kin hk hall (thn (hkw.run pos pins s σ H _ I h) fun ws s2 z => ?_) hpl
  obtain ⟨zs, H2, I2, rz, q2⟩ := z
  refine ⟨I2.kIn, ?_⟩
  rw [hks]
  exact run_fnk F hr kb pass0 I2 .nil rz q2
/-- powers of any base, as long as the result stays far below the line -/
def CPowW (i j : Int) : Prop := 0 ≤ j ∧ (Builtin.Int.intBits i : Int) * j ≤ 2 ^ 27
theorem op_powW : OpR X (binaryOp .Pow) (rI CPowW fun i j => .int (i ^ j.toNat)) := opI fun _ _ _ _ _ _ _ c q => pow_int c.1 c.2 q
end

theorem if_true_of' {c : Bool} {A B : Prop} (hc : c = true) (h : A) : if c = true then A else B := by
  subst hc
  exact iteT h
theorem log_of {n : Nat} (h : n < 2 ^ 1000) : n.log2 < 1920 := Nat.lt_of_lt_of_le (PySem.Flt.log2_lt_of (by decide) h) (by decide)
theorem len_app (x y : Str) : (x ++ y).length = x.length + y.length := by
  rw [len_tl, len_tl, len_tl, tl_append, List.length_append]
section
variable {X : Cx}
theorem pe_cs {x z : Str} {pos : Pos} (h : ∃ t, X.mg x = some (.str z t)) (hg : Gl X x) (hd : (x == ("__debug__" : Str)) = false := by decide) : PE X (.Name x pos) (tC (.str z)) := by
  obtain ⟨t, e⟩ := h
  exact pe_glob hg e ⟨t, rfl⟩ hd
theorem pe_ci {x : Str} {i : Int} {pos : Pos} (h : ∃ t, X.mg x = some (.int i t)) (hg : Gl X x) (hd : (x == ("__debug__" : Str)) = false := by decide) : PE X (.Name x pos) (tC (.int i)) := by
  obtain ⟨t, e⟩ := h
  exact pe_glob hg e ⟨t, rfl⟩ hd
end
theorem emp_app (x : Str) : Str.empty ++ x = x := ext_tl (by rw [tl_append]; rfl)
/-! ### the same rules with the written part named (an element of a comprehension may not speak of its block) -/
section
variable {X : Cx} {K : PySem.W.Frag}
def rJoinK (K : PySem.W.Frag) : V → List V → Hp → VK → Prop := fun x xs H Q =>
  ∃ (a : Str) (p : Addr) (ys : List Str), x = .str a ∧ xs = [.ref p] ∧
    (SqL K H p (ys.map V.str) ∨ SqT K H p (ys.map V.str)) ∧
    (ys.map (·.length)).sum + ys.length * a.length ≤ 16777216 ∧ Q (.str (Txt.join a ys)) H
theorem pe_joinK {o e : Expr} {to te : TE} {apos pos : Pos} (hK : X.K = K) (ho : PE X o to) (he : PE X e te) (hs : starEach [e] X.env = [(false, eval e X.env)] := by rfl)
    (hbase : attributeBase o "join" X.env (eval o X.env) = eval o X.env := by rfl) (hline : (apos.endLine == pos.line) = true := by rfl) : PE X (.Call (.Attribute o "join" apos) [e] [] pos) (tM1 (rJoinK K) to te) := by
  subst hK
  exact pe_join ho he hs hbase hline
def rListK (K : PySem.W.Frag) : List V → Hp → VK → Prop := fun xs H Q => ∃ (p : Addr) (ys : List V), xs = [.ref p] ∧ (SqL K H p ys ∨ SqT K H p ys) ∧
  ∀ l, H l = none → Q (.ref l) (upd H l (.lst ys))
theorem pe_listK {e : Expr} {t : TA} {p pos : Pos} (hK : X.K = K) (hg : Gl X "list") (hm : X.mg "list" = none) (ha : PA X [e] t)
    (he : starEach (e :: []) X.env = (false, eval e X.env) :: starEach [] X.env := by rfl) (hpl : (backTo pos (starEach [] X.env)).any (·.1) = false := by rfl) : PE X (.Call (.Name "list" p) [e] [] pos) (tCB (rListK K) t) := by
  subst hK
  exact pe_callTy call_list_of hg hm (by decide +kernel) ha (by decide) (by decide) he hpl
def rTupleK (K : PySem.W.Frag) : List V → Hp → VK → Prop := fun xs H Q => ∃ (p : Addr) (ys : List V), xs = [.ref p] ∧
  ((SqL K H p ys ∧ ∀ l, H l = none → Q (.ref l) (upd H l (.tup ys))) ∨ (SqT K H p ys ∧ Q (.ref p) H))
theorem pe_tupleK {e : Expr} {t : TA} {p pos : Pos} (hK : X.K = K) (hg : Gl X "tuple") (hm : X.mg "tuple" = none) (ha : PA X [e] t)
    (he : starEach (e :: []) X.env = (false, eval e X.env) :: starEach [] X.env := by rfl) (hpl : (backTo pos (starEach [] X.env)).any (·.1) = false := by rfl) : PE X (.Call (.Name "tuple" p) [e] [] pos) (tCB (rTupleK K) t) := by
  subst hK
  exact pe_callTy call_tuple_of hg hm (by decide +kernel) ha (by decide) (by decide) he hpl
theorem ix_listK (hK : X.K = K) : IxR X (rIxL K) := by
  subst hK
  exact ix_list
theorem ix_tupK (hK : X.K = K) : IxR X (rIxT K) := by
  subst hK
  exact ix_tup
end
/-! ### readings opened one layer -/
theorem into_set {te : TE} {g : TG} {r : TS} {D : Ends} {σ : L2.St} {H : Hp} (h : te σ H fun x H1 => g x σ H1 (r D)) : tSeq (tAsg te g) r D σ H := h
theorem into_drop {te : TE} {r : TS} {D : Ends} {σ : L2.St} {H : Hp} (h : te σ H fun _ H1 => r D σ H1) : tSeq (tDrop te) r D σ H := h
theorem into_drop1 {te : TE} {D : Ends} {σ : L2.St} {H : Hp} (h : te σ H fun _ H1 => D.nx σ H1) : tDrop te D σ H := h
theorem into_dput {td ty tv : TE} {r : TS} {D : Ends} {σ : L2.St} {H : Hp} (h : tv σ H fun v H1 => td σ H1 fun x H2 => ty σ H2 fun y H3 => ∃ a H', x = .ref a ∧ DPut H3 a y v H' ∧ r D σ H') : tSeq (sDPut td ty tv) r D σ H := h
theorem into_not {t : TT} {σ : L2.St} {H : Hp} {Q : Bool → Hp → Prop} (h : t σ H fun c H1 => Q (!c) H1) : tNot t σ H Q := h
theorem into_b {t : TE} {σ : L2.St} {H : Hp} {Q : Bool → Hp → Prop} (h : t σ H fun x H1 => ∃ c, x = .bl c ∧ Q c H1) : tB t σ H Q := h
theorem into_cb {r : List V → Hp → VK → Prop} {t : TA} {σ : L2.St} {H : Hp} {Q : VK} (h : t σ H fun vs H1 => r vs H1 Q) : tCB r t σ H Q := h
theorem into_ret {te : TE} {D : Ends} {σ : L2.St} {H : Hp} (h : te σ H D.rt) : tRet te D σ H := h
theorem into_andV {ta tb : TE} {σ : L2.St} {H : Hp} {Q : VK} (h : ta σ H fun x H1 => ∃ c, x = .bl c ∧ if c = true then tb σ H1 Q else Q (.bl false) H1) : tAndV ta tb σ H Q := h
theorem into_fld {K : PySem.W.Frag} {ta tv : TE} {fl : Str} {D : Ends} {σ : L2.St} {H : Hp} (h : tv σ H fun v H1 => ta σ H1 fun x H2 => ∃ a C dx fs, x = .ref a ∧ H2 a = some (.ins C dx fs) ∧ Cls K C ∧ NoAttr K C fl ∧ fs.length < 1000 ∧ D.nx σ (upd H2 a (.ins C dx (putF fl v fs)))) : sFld K ta tv fl D σ H := h
theorem into_pairC {v : V} {tv : TE} {r : List (TE × TE)} {σ : L2.St} {H : Hp} {Q : List (V × V) → Hp → Prop} (h : tv σ H fun y H2 => tPairs r σ H2 fun ps H3 => Q ((v, y) :: ps) H3) : tPairs ((tC v, tv) :: r) σ H Q := h
theorem into_name {i : Nat} {v : V} {σ : L2.St} {H : Hp} {Q : L2.St → Hp → Prop} (h : Q (σ.set i (some v)) H) : gName i v σ H Q := h
theorem into_seq {t r : TS} {D : Ends} {σ : L2.St} {H : Hp} (h : t { D with nx := r D } σ H) : tSeq t r D σ H := h
theorem into_args1 {te : TE} {σ : L2.St} {H : Hp} {Q : List V → Hp → Prop} (h : te σ H fun x H1 => Q [x] H1) : tCons te tNil σ H Q := h
theorem into_next {D : Ends} {σ : L2.St} {H : Hp} (h : D.nx σ H) : tNext D σ H := h
theorem into_if {t : TT} {A B r : TS} {D : Ends} {σ : L2.St} {H : Hp} (h : t σ H fun c H1 => if c = true then A { D with nx := r D } σ H1 else B { D with nx := r D } σ H1) : tSeq (tIfS t A B) r D σ H := h
theorem into_or {ta tb : TT} {σ : L2.St} {H : Hp} {Q : Bool → Hp → Prop} (h : ta σ H fun c H1 => if c = true then Q true H1 else tb σ H1 Q) : tOr ta tb σ H Q := h
/-! ### heaps -/
/-- G is what of H is fixed; p, the pot, stands outside -/
structure Beside (p : Addr) (G H : Hp) : Prop where
  out : G p = none
  sub : Same G H
theorem same_upd {G : Hp} {a : Addr} {o : HO} (h : G a = none) : Same G (upd G a o) := fun b z e => by
  rw [upd_ne (ne_of_none e h)]
  exact e
/-- a new object, at an address where H tracks nothing -/
theorem Beside.new {p a : Addr} {G H : Hp} {o : HO} (b : Beside p G H) (hp : H p ≠ none) (ha : H a = none) : Beside p (upd G a o) (upd H a o) ∧ Same G (upd G a o) ∧ G a = none := by
  have g : G a = none := b.sub.free ha
  have npa : p ≠ a := fun z => hp (z ▸ ha)
  refine ⟨⟨?_, fun c z e => ?_⟩, same_upd g, g⟩
  · rw [upd_ne npa]
    exact b.out
  · by_cases q : c = a
    · subst q
      rw [upd_same] at e ⊢
      exact e
    · rw [upd_ne q] at e ⊢
      exact b.sub _ _ e
/-- the pot's own change -/
theorem Beside.pot {p : Addr} {G H : Hp} {o : HO} (b : Beside p G H) : Beside p G (upd H p o) := ⟨b.out, fun c z e => by
  have q : c ≠ p := fun y => by
    rw [y, b.out] at e
    cases e
  rw [upd_ne q]
  exact b.sub _ _ e⟩
/-- the pot at p, asked at most n times -/
def PotAt (p : Addr) (H : Hp) (n : Nat) : Prop := ∃ a b c : Int, H p = some (.lst [.int a, .int b, .int c]) ∧ 0 ≤ a ∧ 0 ≤ b ∧ b < 2305843009213693921 ∧ 0 ≤ c ∧ c ≤ (n : Int) ∧ n ≤ 1000000
theorem PotAt.some {p : Addr} {H : Hp} {n : Nat} (h : PotAt p H n) : H p ≠ none := by
  obtain ⟨a, b, c, e, _⟩ := h
  rw [e]
  exact fun z => nomatch z
theorem PotAt.new {p a : Addr} {H : Hp} {n : Nat} {o : HO} (h : PotAt p H n) (ha : H a = none) : PotAt p (upd H a o) n := by
  obtain ⟨x, y, z, e, r⟩ := h
  exact ⟨x, y, z, by rw [upd_ne (ne_of_none e ha)]; exact e, r⟩
theorem PotAt.more {p : Addr} {H : Hp} {n m : Nat} (h : PotAt p H n) (l : n ≤ m) (l2 : m ≤ 1000000) : PotAt p H m := by
  obtain ⟨x, y, z, e, h1, h2, h3, h4, h5, _⟩ := h
  exact ⟨x, y, z, e, h1, h2, h3, h4, by omega, l2⟩
end Ct

namespace Ct
open PySem PySem.Spec PyProof.Rows L2 TL
def top (i : Nat) : Stmt := PySem.Challenge.pw_chargeturns_k11_joinings_by_hand.main.body.getD i (.Pass ⟨0, 0, 0, 0⟩)
theorem b_len : bootBuiltins "len" = some (.builtin "len") := by decide +kernel
theorem b_abs : bootBuiltins "abs" = some (.builtin "abs") := by decide +kernel
theorem b_sum : bootBuiltins "sum" = some (.builtin "sum") := by decide +kernel
theorem b_all : bootBuiltins "all" = some (.builtin "all") := by decide +kernel
theorem b_min : bootBuiltins "min" = some (.builtin "min") := by decide +kernel
theorem b_max : bootBuiltins "max" = some (.builtin "max") := by decide +kernel
theorem b_repr : bootBuiltins "repr" = some (.builtin "repr") := by decide +kernel
theorem b_isinstance : bootBuiltins "isinstance" = some (.builtin "isinstance") := by decide +kernel
theorem b_int : bootBuiltins "int" = some (.type "int") := by decide +kernel
theorem b_str : bootBuiltins "str" = some (.type "str") := by decide +kernel
theorem b_bool : bootBuiltins "bool" = some (.type "bool") := by decide +kernel
theorem b_list : bootBuiltins "list" = some (.type "list") := by decide +kernel
theorem b_tuple : bootBuiltins "tuple" = some (.type "tuple") := by decide +kernel
theorem b_dict : bootBuiltins "dict" = some (.type "dict") := by decide +kernel
/-- the built-ins' names are the module's own nowhere -/
structure Plain (mg : Str → Option Value) : Prop where
  n_len : mg "len" = none
  n_abs : mg "abs" = none
  n_sum : mg "sum" = none
  n_all : mg "all" = none
  n_min : mg "min" = none
  n_max : mg "max" = none
  n_repr : mg "repr" = none
  n_isinstance : mg "isinstance" = none
  n_int : mg "int" = none
  n_str : mg "str" = none
  n_bool : mg "bool" = none
  n_list : mg "list" = none
  n_tuple : mg "tuple" = none
  n_dict : mg "dict" = none
  n_range : mg "range" = none
  n_enumerate : mg "enumerate" = none
  gcd : mg "gcd" = some (.builtin "math.gcd")
  c_DIGITS : ∃ t, mg "DIGITS" = some (.str "0123456789" t)
  c_PIECE : ∃ t, mg "PIECE" = some (.int 18 t)
  c_SHIFT : ∃ t, mg "SHIFT" = some (.int 1000000000000000000 t)
  c_GROUND : ∃ t, mg "GROUND" = some (.str "gnd" t)
  c_LETTERS : ∃ t, mg "LETTERS" = some (.str "abcdefghijklmnopqrstuvwxyz" t)
  c_LONGEST_NAME : ∃ t, mg "LONGEST_NAME" = some (.int 6 t)
  c_MOST_SOURCES : ∃ t, mg "MOST_SOURCES" = some (.int 4 t)
  c_MOST_PARTS : ∃ t, mg "MOST_PARTS" = some (.int 8 t)
  c_MOST_JOININGS : ∃ t, mg "MOST_JOININGS" = some (.int 6 t)
end Ct

namespace Ct
open PySem PySem.Spec PyProof.Rows L2 TL
abbrev s_l_take : Stmt := top 79
abbrev N_l_take : List Str := ["pot", "upto", "digit", "prime", "blend"]
theorem sc_l_take : FnScope N_l_take ["pot", "upto"] (defScope s_l_take) := ⟨rfl, rfl, rfl, by decide +kernel, rfl, by decide +kernel, by decide +kernel⟩
/-- a draw: some number from 0 to below u -/
def spTake : Sp := fun vs H Q _ => ∃ (p : Addr) (G : Hp) (n : Nat) (u : Int), vs = [.ref p, .int u] ∧ Beside p G H ∧ PotAt p H n ∧ n + 1 ≤ 1000000 ∧ 0 < u ∧ u < 1073741824 ∧
  ∀ (d : Int) (G' H' : Hp), 0 ≤ d → d < u → Same G G' → Beside p G' H' → PotAt p H' (n + 1) → Q (.int d) H'
theorem prime_at (c : Int) : ∃ q : Int, (0 < q ∧ q < 2147483648) ∧ atI [V.int 2147483647, V.int 2147483629, V.int 2147483587, V.int 2147483579, V.int 2147483563] (c % 5) = some (.int q) := by
  have h : c % 5 = 0 ∨ c % 5 = 1 ∨ c % 5 = 2 ∨ c % 5 = 3 ∨ c % 5 = 4 := by omega
  rcases h with h | h | h | h | h <;> rw [h]
  · exact ⟨2147483647, by decide, rfl⟩
  · exact ⟨2147483629, by decide, rfl⟩
  · exact ⟨2147483587, by decide, rfl⟩
  · exact ⟨2147483579, by decide, rfl⟩
  · exact ⟨2147483563, by decide, rfl⟩
theorem sq_small {c : Int} (h0 : 0 ≤ c) (h1 : c ≤ 1000001) : 0 ≤ 102474 * c * c ∧ 102474 * c * c ≤ 102474 * 1000001 * 1000001 := by
  have a : 102474 * c ≤ 102474 * 1000001 := by omega
  exact ⟨Int.mul_nonneg (by omega) h0, Int.mul_le_mul a h1 h0 (by decide)⟩
section
variable {P : Program} {w : World} {K : PySem.W.Frag} {mg : Str → Option Value} {base : Heap}
theorem k_take (D : Lies K mg "_law_take" s_l_take) (T : Plain mg) : Keeps P w K mg base 1 "_law_take" ["pot", "upto"] spTake := by
  refine D.keeps sc_l_take (fun _ _ _ _ _ _ us hl => match us, hl with | [_, _], _ => rfl) (fun vs H Q E h => ?_) (fun f cdv A outer s H vs Q E hr h => ?_)
  · obtain ⟨p, G, n, u, rfl, _⟩ := h
    rfl
  · obtain ⟨p, G, n, u, rfl, bs, ⟨a, b, c, hp, ha, hb, hb2, hc, hc2, hn⟩, hn1, hu0, hu30, k⟩ := h
    refine ⟨_, (pss_cons (ps_if (pt_cmpR op_gt (pe_ix ix_list (pv 0) pe_int (fun _ _ => rfl)) pe_int (nomark _))
        (pss_cons (ps_set (i := 2) sc_l_take.nd rfl (Or.inl rfl) (pe_op op_mod (pe_callTy call_int1 (by rfl) T.n_int b_int (pa_cons (pe_ix ix_list (pv 0) pe_int (fun _ _ => rfl)) pa_nil)) (pv 1)))
        (pss_cons (ps_asg (pe_op op_fdiv (pe_ix ix_list (pv 0) pe_int (fun _ _ => rfl)) (pv 1)) (pg_sub (pv 0) pe_int set_list))
        (pss_one (ps_ret (pv 2)))))
        pss_nil)
      (pss_cons (ps_asg (pe_op op_add (pe_ix ix_list (pv 0) pe_int (fun _ _ => rfl)) pe_int) (pg_sub (pv 0) pe_int set_list))
      (pss_cons (ps_set (i := 3) sc_l_take.nd rfl (Or.inl rfl) (pe_ix ix_list (pe_lst (pa_cons pe_int (pa_cons pe_int (pa_cons pe_int (pa_cons pe_int (pa_cons pe_int pa_nil)))))) (pe_op op_mod (pe_callTy call_int1 (by rfl) T.n_int b_int (pa_cons (pe_ix ix_list (pv 0) pe_int (fun _ _ => rfl)) pa_nil)) pe_int) (fun _ _ => rfl)))
      (pss_cons (ps_set (i := 4) sc_l_take.nd rfl (Or.inl rfl) (pe_op op_mod (pe_callTy call_int1 (by rfl) T.n_int b_int (pa_cons (pe_op op_pow (pe_callTy call_int1 (by rfl) T.n_int b_int (pa_cons (pe_op op_add (pe_op op_add (pe_ix ix_list (pv 0) pe_int (fun _ _ => rfl)) (pe_op op_mul (pe_op op_mul pe_int (pe_ix ix_list (pv 0) pe_int (fun _ _ => rfl))) (pe_ix ix_list (pv 0) pe_int (fun _ _ => rfl)))) pe_int) pa_nil)) pe_int) pa_nil)) (pv 3)))
      (pss_cons (ps_set (i := 4) sc_l_take.nd rfl (Or.inl rfl) (pe_op op_mod (pe_callTy call_int1 (by rfl) T.n_int b_int (pa_cons (pe_op op_mul (pv 4) (pe_op op_add (pe_op op_mod (pe_callTy call_int1 (by rfl) T.n_int b_int (pa_cons (pv 4) pa_nil)) pe_int) (pe_op op_mul pe_int (pe_ix ix_list (pv 0) pe_int (fun _ _ => rfl))))) pa_nil)) pe_int))
      (pss_one (ps_ret (pe_op op_mod (pe_callTy call_int1 (by rfl) T.n_int b_int (pa_cons (pe_op op_fdiv (pv 4) pe_int) pa_nil)) (pv 1))))))))), ?_⟩
    refine ⟨_, rfl, p, _, _, _, rfl, rfl, SqL.of hp, rfl, _, _, rfl, rfl, _, rfl, ?_⟩
    refine ite2 (fun h0 => ?_) (fun h0 => ?_)
    · have a0 : 0 < a := of_decide_eq_true h0
      refine ⟨_, rfl, p, _, _, _, rfl, rfl, SqL.of hp, rfl, .inl ⟨_, rfl, _, rfl, _, _, rfl, rfl, hu0, ?_⟩⟩
      refine ⟨_, rfl, p, _, _, _, rfl, rfl, SqL.of hp, rfl, _, rfl, _, _, rfl, rfl, ⟨hu0, hu30⟩, _, rfl, p, _, _, 0, rfl, rfl, hp, rfl, _, rfl, ?_⟩
      refine k _ G _ (Int.emod_nonneg _ (by omega)) (Int.emod_lt_of_pos _ hu0) (Same.refl G) bs.pot ⟨a / u, b, c, upd_same, Int.ediv_nonneg ha (by omega), hb, hb2, hc, by omega, hn1⟩
    · refine ⟨_, rfl, p, _, _, _, rfl, rfl, SqL.of hp, rfl, _, _, rfl, rfl, _, rfl, p, _, _, 2, rfl, rfl, hp, rfl, ?_⟩
      have hp1 : (upd H p (.lst [.int a, .int b, .int (c + 1)])) p = some (.lst [.int a, .int b, .int (c + 1)]) := upd_same
      refine ⟨by decide, fun l hl => ?_⟩
      have nlp : p ≠ l := ne_of_none hp1 hl
      have hp2 : (upd (upd H p (.lst [.int a, .int b, .int (c + 1)])) l (.lst [V.int 2147483647, V.int 2147483629, V.int 2147483587, V.int 2147483579, V.int 2147483563])) p = some (.lst [.int a, .int b, .int (c + 1)]) := (upd_ne nlp).trans hp1
      obtain ⟨q, q0, hq⟩ := prime_at (c + 1)
      refine ⟨_, rfl, p, _, _, _, rfl, rfl, SqL.of hp2, rfl, .inl ⟨_, rfl, _, _, rfl, rfl, (show (0 : Int) < 5 by decide), l, _, _, .int q, rfl, rfl, SqL.of upd_same, hq, ?_⟩⟩
      have c1 : 0 ≤ c + 1 ∧ c + 1 ≤ 1000001 := by omega
      obtain ⟨m0, m1⟩ := sq_small c1.1 c1.2
      refine ⟨_, rfl, p, _, _, _, rfl, rfl, SqL.of hp2, rfl, _, rfl, p, _, _, _, rfl, rfl, SqL.of hp2, rfl, _, _, rfl, rfl, .inl (by omega), _, rfl, p, _, _, _, rfl, rfl, SqL.of hp2, rfl, _, _, rfl, rfl, .inl (by omega), _, _, rfl, rfl, _, _, rfl, rfl, .inl ⟨_, rfl, ?_⟩⟩
      refine ⟨_, _, rfl, rfl, ⟨by decide, by decide, by omega⟩, .inl ⟨_, rfl, _, rfl, _, _, rfl, rfl, q0.1, ?_⟩⟩
      generalize hz : (b + 102474 * (c + 1) * (c + 1) + 1366) ^ (3 : Int).toNat % q = z
      have z0 : 0 ≤ z ∧ z < q := hz ▸ ⟨Int.emod_nonneg _ (by omega), Int.emod_lt_of_pos _ q0.1⟩
      refine ⟨_, rfl, _, rfl, .inl ⟨_, rfl, _, _, rfl, rfl, (show (0 : Int) < 11508 by decide), ?_⟩⟩
      refine ⟨_, rfl, p, _, _, _, rfl, rfl, SqL.of hp2, rfl, _, _, rfl, rfl, .inl (by omega), _, _, rfl, rfl, _, _, rfl, rfl, .inl (by omega), .inl ⟨_, rfl, _, _, rfl, rfl, (show (0 : Int) < 2305843009213693907 by decide), ?_⟩⟩
      generalize (z * (z % 11508 + 472 * (c + 1))) % 2305843009213693907 = y
      refine ⟨_, rfl, _, _, rfl, rfl, ⟨by decide, by decide⟩, .inl ⟨_, rfl, _, rfl, _, _, rfl, rfl, hu0, ?_⟩⟩
      have ba := (bs.pot (o := .lst [.int a, .int b, .int (c + 1)])).new (a := l) (o := .lst [V.int 2147483647, V.int 2147483629, V.int 2147483587, V.int 2147483579, V.int 2147483563]) (fun z => by rw [hp1] at z; cases z) hl
      exact k _ _ _ (Int.emod_nonneg _ (by omega)) (Int.emod_lt_of_pos _ hu0) ba.2.1 ba.1 ⟨a, b, c + 1, hp2, ha, hb, hb2, by omega, by omega, hn1⟩
end
end Ct

namespace Ct
open PySem PySem.Spec PyProof.Rows L2 TL
abbrev s_l_of : Stmt := top 80
abbrev N_l_of : List Str := ["pot", "some"]
theorem sc_l_of : FnScope N_l_of ["pot", "some"] (defScope s_l_of) := ⟨rfl, rfl, rfl, by decide +kernel, rfl, by decide +kernel, by decide +kernel⟩
/-- an object that H tracks, told beside the fixed ones -/
theorem Beside.add {p a : Addr} {G H : Hp} {o : HO} (b : Beside p G H) (ga : G a = none) (ap : p ≠ a) (ha : H a = some o) : Beside p (upd G a o) H := ⟨by rw [upd_ne ap]; exact b.out, fun c z e => by
  by_cases q : c = a
  · subst q
    rw [upd_same] at e
    exact e ▸ ha
  · rw [upd_ne q] at e
    exact b.sub _ _ e⟩
theorem Beside.back {p : Addr} {G G' H : Hp} (b : Beside p G' H) (s : Same G G') : Beside p G H := ⟨s.free b.out, fun c z e => b.sub _ _ (s _ _ e)⟩
theorem perm_take {α : Type} : ∀ (k : Nat) (l : List α) (y : α), l[k]? = some y → (y :: l.eraseIdx k).Perm l
  | 0, [], _, h => by simp at h
  | 0, z :: l, y, h => by
    simp at h
    subst h
    exact .refl _
  | k + 1, [], _, h => by simp at h
  | k + 1, z :: l, y, h => by
    have r := perm_take k l y (by simpa using h)
    show (y :: z :: l.eraseIdx k).Perm (z :: l)
    exact (List.Perm.swap z y _).trans (r.cons z)
theorem perm_move {α : Type} {k : Nat} {ys rs xs : List α} {y : α} (h : rs[k]? = some y) (q : (ys ++ rs).Perm xs) : ((ys ++ [y]) ++ rs.eraseIdx k).Perm xs := by
  rw [List.append_assoc]
  exact ((perm_take k rs y h).append_left ys).trans q
/-- a change of what is not fixed -/
theorem Beside.drop {p a : Addr} {G H : Hp} {o : HO} (b : Beside p G H) (ga : G a = none) : Beside p G (upd H a o) := ⟨b.out, fun c z e => by
  rw [upd_ne (ne_of_none e ga)]
  exact b.sub _ _ e⟩
theorem PotAt.past {p a : Addr} {H : Hp} {n : Nat} {o : HO} (h : PotAt p H n) (ha : p ≠ a) : PotAt p (upd H a o) n := by
  obtain ⟨x, y, z, e, r⟩ := h
  exact ⟨x, y, z, by rw [upd_ne ha]; exact e, r⟩
theorem seqIndex_nat {j n : Nat} (h : j < n) : seqIndex? (j : Int) n = some j := by
  have e : ¬ ((j : Int) < 0) := by omega
  unfold seqIndex?
  simp only [if_neg e]
  rw [if_pos (by simp; omega)]
  simp
/-- some[take]: one of the items -/
def spOf (K : PySem.W.Frag) : Sp := fun vs H Q _ => ∃ (p a : Addr) (G : Hp) (n : Nat) (xs : List V), vs = [.ref p, .ref a] ∧ Beside p G H ∧ PotAt p H n ∧ n + 1 ≤ 1000000 ∧ SqL K G a xs ∧ 0 < xs.length ∧ xs.length < 1000000 ∧
  ∀ (i : Nat) (v : V) (G' H' : Hp), xs[i]? = some v → Same G G' → Beside p G' H' → PotAt p H' (n + 1) → Q v H'
/-- many of the pool's items, each place once at most -/
def spSome (K : PySem.W.Frag) : Sp := fun vs H Q _ => ∃ (p a : Addr) (G : Hp) (n m : Nat) (xs : List V), vs = [.ref p, .ref a, .int m] ∧ Beside p G H ∧ PotAt p H n ∧ n + m ≤ 1000000 ∧ SqL K G a xs ∧ m ≤ xs.length ∧ xs.length < 1000000 ∧
  ∀ (ys rs : List V) (l : Addr) (G' H' : Hp), (ys ++ rs).Perm xs → ys.length = m → Same G G' → Beside p G' H' → PotAt p H' (n + m) → G' l = some (.lst ys) → G l = none → Q (.ref l) H'
section
variable {P : Program} {w : World} {K : PySem.W.Frag} {mg : Str → Option Value} {base : Heap}
theorem k_of (D : Lies K mg "_law_of" s_l_of) (T : Plain mg) (G_l_take : Keeps P w K mg base 1 "_law_take" ["pot", "upto"] spTake) : Keeps P w K mg base 2 "_law_of" ["pot", "some"] (spOf K) := by
  refine D.keeps sc_l_of (fun _ _ _ _ _ _ us hl => match us, hl with | [_, _], _ => rfl) (fun vs H Q E h => ?_) (fun f cdv A outer s H vs Q E hr h => ?_)
  · obtain ⟨p, a, G, n, xs, rfl, _⟩ := h
    rfl
  · obtain ⟨p, a, G, n, xs, rfl, bs, ht, hn, hS, h0, h1, k⟩ := h
    refine ⟨_, (pss_one (ps_ret (pe_ix ix_list (pv 1) (pe_go G_l_take (hr.mono (by decide)) rfl (pa_cons (pv 0) (pa_cons (pe_callB call_len_seq (by rfl) T.n_len b_len (pa_cons (pv 1) pa_nil)) pa_nil))) (fun _ _ => rfl)))), ?_⟩
    refine ⟨_, rfl, _, rfl, _, rfl, a, _, rfl, .inl (bs.sub.seq hS), p, G, n, _, rfl, bs, ht, hn, by omega, by omega, fun d G' H' d0 d1 s' b' t' => ?_⟩
    obtain ⟨j, rfl⟩ := Int.eq_ofNat_of_zero_le d0
    have hj : j < xs.length := by omega
    exact ⟨a, _, _, xs[j], rfl, rfl, b'.sub.seq (s'.seq hS), atI_nat (by simp [hj]), k j _ G' H' (by simp [hj]) s' b' t'⟩
end
end Ct

/-! The data: drawn circuits, how they lie in a heap, their text. -/
namespace Ct
open PySem PySem.Spec PyProof.Rows L2 TL
structure Own where
  sources : List (Str × Int × Int)
  parts : List (Str × Int × Int)
  joinings : List (Str × List (Str × Str × Str))
section
variable (K : PySem.W.Frag) (G : Hp)
def FrAt (v : V) (f : Int × Int) : Prop := ∃ t, v = .ref t ∧ SqT K G t [.int f.1, .int f.2]
def EntAt (v : V) (e : Str × Int × Int) : Prop := ∃ t u, v = .ref t ∧ SqT K G t [.str e.1, u] ∧ FrAt K G u e.2
def TieAt (v : V) (e : Str × Str × Str) : Prop := ∃ t, v = .ref t ∧ SqT K G t [.str e.1, .str e.2.1, .str e.2.2]
def LsAt {β : Type} (R : V → β → Prop) (v : V) (es : List β) : Prop := ∃ a vs, v = .ref a ∧ SqL K G a vs ∧ Paired R vs es
def TpAt {β : Type} (R : V → β → Prop) (v : V) (es : List β) : Prop := ∃ a vs, v = .ref a ∧ SqT K G a vs ∧ Paired R vs es
def JoiAt (v : V) (e : Str × List (Str × Str × Str)) : Prop := ∃ t l, v = .ref t ∧ SqT K G t [.str e.1, l] ∧ LsAt K G (TieAt K G) l e.2
def StrV (v : V) (x : Str) : Prop := v = .str x
def kvs3 (s p j : V) : List (Key × V) := [(.inr "sources", s), (.inr "parts", p), (.inr "joinings", j)]
def OwnAt (v : V) (o : Own) : Prop := ∃ d s p j, v = .ref d ∧ G d = some (.dK (kvs3 s p j)) ∧ LsAt K G (EntAt K G) s o.sources ∧ LsAt K G (EntAt K G) p o.parts ∧ LsAt K G (JoiAt K G) j o.joinings
end
section
variable {K : PySem.W.Frag} {G H : Hp}
theorem SqT.same {a : Addr} {xs : List V} (s : Same G H) (h : SqT K G a xs) : SqT K H a xs := by
  rcases h with (h | ⟨o, h⟩) | h
  · exact .inl (.inl (s _ _ h))
  · exact .inl (.inr ⟨o, s _ _ h⟩)
  · exact .inr h
theorem FrAt.same (s : Same G H) {v : V} {f : Int × Int} : FrAt K G v f → FrAt K H v f := fun ⟨t, e, h⟩ => ⟨t, e, SqT.same s h⟩
theorem EntAt.same (s : Same G H) {v : V} {e : Str × Int × Int} : EntAt K G v e → EntAt K H v e := fun ⟨t, u, e, h, f⟩ => ⟨t, u, e, SqT.same s h, f.same s⟩
theorem TieAt.same (s : Same G H) {v : V} {e : Str × Str × Str} : TieAt K G v e → TieAt K H v e := fun ⟨t, e, h⟩ => ⟨t, e, SqT.same s h⟩
theorem LsAt.same {β : Type} {R R' : V → β → Prop} (s : Same G H) (m : ∀ v b, R v b → R' v b) {v : V} {es : List β} : LsAt K G R v es → LsAt K H R' v es := fun ⟨a, vs, e, h, p⟩ => ⟨a, vs, e, Same.seq s h, p.mono m⟩
theorem TpAt.same {β : Type} {R R' : V → β → Prop} (s : Same G H) (m : ∀ v b, R v b → R' v b) {v : V} {es : List β} : TpAt K G R v es → TpAt K H R' v es := fun ⟨a, vs, e, h, p⟩ => ⟨a, vs, e, SqT.same s h, p.mono m⟩
theorem JoiAt.same (s : Same G H) {v : V} {e : Str × List (Str × Str × Str)} : JoiAt K G v e → JoiAt K H v e := fun ⟨t, l, e, h, q⟩ => ⟨t, l, e, SqT.same s h, q.same s fun _ _ => TieAt.same s⟩
theorem OwnAt.same (s : Same G H) {v : V} {o : Own} : OwnAt K G v o → OwnAt K H v o := fun ⟨d, a, b, c, e, h, h1, h2, h3⟩ =>
  ⟨d, a, b, c, e, s _ _ h, h1.same s fun _ _ => EntAt.same s, h2.same s fun _ _ => EntAt.same s, h3.same s fun _ _ => JoiAt.same s⟩
theorem Paired.at {α β : Type} {F : α → β → Prop} : ∀ {xs : List α} {ys : List β}, Paired F xs ys → ∀ {i : Nat} {x : α}, xs[i]? = some x → ∃ y, ys[i]? = some y ∧ F x y
  | _, _, .nil, i, x, h => by simp at h
  | _, _, .cons (b := b) f r, 0, x, h => ⟨b, by simp, by simp at h; exact h ▸ f⟩
  | _, _, .cons f r, i + 1, x, h => by
    obtain ⟨y, h1, h2⟩ := Paired.at r (i := i) (x := x) (by simpa using h)
    exact ⟨y, by simpa using h1, h2⟩
/-- a list's own change is none of a tuple's -/
theorem SqT.list {D a : Addr} {xs acc acc' : List V} (hD : H D = some (.lst acc)) (h : SqT K H a xs) : SqT K (upd H D (.lst acc')) a xs := by
  rcases h with (h | ⟨o, h⟩) | h
  · refine .inl (.inl ?_)
    rw [upd_ne (ne_of h hD (by intro z; cases z))]
    exact h
  · refine .inl (.inr ⟨o, ?_⟩)
    rw [upd_ne (ne_of h hD (by intro z; cases z))]
    exact h
  · exact .inr h
/-- nor is a dict's -/
theorem SqT.dict {D a : Addr} {xs : List V} {k k' : List (Key × V)} (hD : H D = some (.dK k)) (h : SqT K H a xs) : SqT K (upd H D (.dK k')) a xs := by
  rcases h with (h | ⟨o, h⟩) | h
  · refine .inl (.inl ?_)
    rw [upd_ne (ne_of h hD (by intro z; cases z))]
    exact h
  · refine .inl (.inr ⟨o, ?_⟩)
    rw [upd_ne (ne_of h hD (by intro z; cases z))]
    exact h
  · exact .inr h
theorem FrAt.dict {D : Addr} {k k' : List (Key × V)} (hD : H D = some (.dK k)) {v : V} {f : Int × Int} : FrAt K H v f → FrAt K (upd H D (.dK k')) v f := fun ⟨t, e, h⟩ => ⟨t, e, SqT.dict hD h⟩
theorem EntAt.dict {D : Addr} {k k' : List (Key × V)} (hD : H D = some (.dK k)) {v : V} {f : Str × Int × Int} : EntAt K H v f → EntAt K (upd H D (.dK k')) v f := fun ⟨t, u, e, h, q⟩ => ⟨t, u, e, SqT.dict hD h, q.dict hD⟩
theorem FrAt.list {D : Addr} {acc acc' : List V} (hD : H D = some (.lst acc)) {v : V} {f : Int × Int} : FrAt K H v f → FrAt K (upd H D (.lst acc')) v f := fun ⟨t, e, h⟩ => ⟨t, e, SqT.list hD h⟩
theorem EntAt.list {D : Addr} {acc acc' : List V} (hD : H D = some (.lst acc)) {v : V} {f : Str × Int × Int} : EntAt K H v f → EntAt K (upd H D (.lst acc')) v f := fun ⟨t, u, e, h, q⟩ => ⟨t, u, e, SqT.list hD h, q.list hD⟩
theorem TieAt.list {D : Addr} {acc acc' : List V} (hD : H D = some (.lst acc)) {v : V} {f : Str × Str × Str} : TieAt K H v f → TieAt K (upd H D (.lst acc')) v f := fun ⟨t, e, h⟩ => ⟨t, e, SqT.list hD h⟩
end
/-! ### a comprehension whose element draws nothing -/
section
variable {K : PySem.W.Frag} {β γ : Type}
theorem take_snoc {es : List β} {i : Nat} {e : β} (h : es[i]? = some e) : es.take (i + 1) = es.take i ++ [e] := by
  rw [List.take_succ, h]
  rfl
theorem comp_pure {a : Addr} {xs : List V} {es : List β} {R : V → β → Prop} {R' : Hp → V → γ → Prop} {f : β → γ} {tl : TE} {g : TG} {te : TE} {vs : List Nat} {σ : L2.St} {H H1 : Hp} {Q : VK}
    (hl : ∀ R : VK, R (.ref a) H1 → tl σ H R) (hS : SqL K H1 a xs) (pr : Paired R xs es) (hz : xs.length < 1000000)
    (mono : ∀ {H H' : Hp}, Same H H' → ∀ v c, R' H v c → R' H' v c) (stab : ∀ {H : Hp} {D : Addr} {acc : List V} (acc' : List V), H D = some (.lst acc) → ∀ v c, R' H v c → R' (upd H D (.lst acc')) v c)
    (turn : ∀ x e H (Z : VK), R x e → e ∈ es → Same H1 H → (∀ y H4, Same H H4 → R' H4 y (f e) → Z y H4) → g x (wipe σ vs) H fun σ2 H2 => wipe σ2 vs = wipe σ vs ∧ te σ2 H2 Z)
    (hd : ∀ H' D acc, H1 D = none → Same H1 H' → H' D = some (.lst acc) → Paired (R' H') acc (es.map f) → Q (.ref D) H') : tLc (iList K tl) g tYes te vs σ H Q := by
  refine hl _ ⟨a, rfl, ⟨_, hS⟩, fun D hD => lc_list (xs := xs) (fun i H' => ∃ acc, H' D = some (.lst acc) ∧ Paired (R' H') acc ((es.take i).map f) ∧ Same H1 H') ⟨[], upd_same, .nil, same_upd hD⟩
    (fun i H' _ ⟨_, _, _, s⟩ => Same.seq s hS) (fun i x H' hx ⟨acc, h1, h2, s⟩ => ?_) fun H' ⟨acc, h1, h2, s⟩ => ?_⟩
  · obtain ⟨e, he, r⟩ := Paired.at pr hx
    simp only [tYes, if_true]
    refine turn x e H' _ r (List.mem_of_getElem? he) s (fun y H4 s4 r4 => ⟨acc, s4 _ _ h1, ?_, acc ++ [y], upd_same, ?_, ?_⟩)
    · have l1 := h2.length
      have l2 := pr.length
      have l3 := (List.getElem?_eq_some_iff.mp hx).1
      rw [List.length_map, List.length_take] at l1
      show acc.length < 16777216
      omega
    · rw [take_snoc he, List.map_append]
      exact (h2.mono fun v c q => stab _ (s4 _ _ h1) v c (mono s4 v c q)).snoc (stab _ (s4 _ _ h1) _ _ r4)
    · exact fun b o z => by
        have nb : b ≠ D := ne_of_none z hD
        rw [upd_ne nb]
        exact s4 _ _ (s _ _ z)
  · rw [show es.take xs.length = es by rw [pr.length, List.take_length]] at h2
    exact hd H' D acc hD s h1 h2
end
end Ct
namespace Ct
open PySem PySem.Spec PyProof.Rows L2 TL
/-! ### what is drawn, and its text -/
def Name (x : Str) : Prop := 1 ≤ x.length ∧ x.length ≤ 6 ∧ (∀ c ∈ tl x, 97 ≤ c ∧ c ≤ 122) ∧ x ≠ "gnd"
def Junc (x : Str) : Prop := x = "gnd" ∨ Name x
def FrOk (f : Int × Int) : Prop := 0 < f.2 ∧ Int.gcd f.1 f.2 = 1 ∧ f.1.natAbs < 2 ^ 1000 ∧ f.2.natAbs < 2 ^ 1000
structure JoiOk (ps : List Str) (j : Str × List (Str × Str × Str)) : Prop where
  name : Name j.1
  few : j.2.length ≤ 8
  once : (j.2.map (·.1)).Nodup
  tie : ∀ t ∈ j.2, t.1 ∈ ps ∧ Junc t.2.1 ∧ Junc t.2.2
structure OwnOk (o : Own) : Prop where
  s_few : o.sources.length ≤ 4
  p_some : 1 ≤ o.parts.length
  p_few : o.parts.length ≤ 8
  j_some : 1 ≤ o.joinings.length
  j_few : o.joinings.length ≤ 6
  src : ∀ e ∈ o.sources, Name e.1 ∧ FrOk e.2
  prt : ∀ e ∈ o.parts, Name e.1 ∧ FrOk e.2 ∧ 0 < e.2.1
  s_once : (o.sources.map (·.1)).Nodup
  p_once : (o.parts.map (·.1)).Nodup
  j_once : (o.joinings.map (·.1)).Nodup
  joi : ∀ j ∈ o.joinings, JoiOk (o.parts.map (·.1)) j
def numText (i : Int) : Str := Str.ofString (toString i)
def fracText (f : Int × Int) : Str := if f.2 = 1 then numText f.1 else numText f.1 ++ "/" ++ numText f.2
def entLine (w : Str) (e : Str × Int × Int) : Str := w ++ e.1 ++ " " ++ fracText e.2
def tieLine (t : Str × Str × Str) : Str := "tie " ++ Txt.join " " [t.1, t.2.1, t.2.2]
def joiLine (x : Str) : Str := "joining " ++ x
def joiRows (j : Str × List (Str × Str × Str)) : List Str := joiLine j.1 :: j.2.map tieLine
def rowsOf (o : Own) : List Str := "circuit" :: (o.sources.map (entLine "source ") ++ o.parts.map (entLine "part ") ++ o.joinings.flatMap joiRows)
def textOf (o : Own) : Str := Txt.join "\n" (rowsOf o)
theorem num_len {i : Int} (h : i.natAbs < 2 ^ 1000) : (numText i).length ≤ 1921 := int_text_len_1921 (log_of h)
theorem frac_len {f : Int × Int} (h1 : f.1.natAbs < 2 ^ 1000) (h2 : f.2.natAbs < 2 ^ 1000) : (fracText f).length ≤ 3850 := by
  have a := num_len h1
  have b := num_len h2
  have c : ("/" : Str).length = 1 := by decide +kernel
  unfold fracText
  split
  · omega
  · rw [len_app, len_app]
    omega
theorem ent_len {w : Str} {e : Str × Int × Int} (hw : w.length ≤ 8) (h : Name e.1 ∧ FrOk e.2) : (w ++ e.1 ++ " ").length ≤ 15 ∧ (entLine w e).length ≤ 3900 := by
  have a := frac_len h.2.2.2.1 h.2.2.2.2
  have b := h.1.2.1
  have c : (" " : Str).length = 1 := by decide +kernel
  unfold entLine
  simp only [len_app]
  omega
theorem sum_le {B : Nat} : ∀ {ys : List Str}, (∀ y ∈ ys, y.length ≤ B) → (ys.map (·.length)).sum ≤ ys.length * B
  | [], _ => by simp
  | y :: ys, h => by
    have a := h y (by simp)
    have b := sum_le (B := B) (ys := ys) fun z hz => h z (by simp [hz])
    rw [List.map_cons, List.sum_cons, List.length_cons, Nat.add_mul]
    omega
theorem flat_len {β : Type} {B : Nat} {f : β → List Str} : ∀ {l : List β}, (∀ x ∈ l, (f x).length ≤ B) → (l.flatMap f).length ≤ l.length * B
  | [], _ => by simp
  | x :: l, h => by
    have a := h x (by simp)
    have b := flat_len (B := B) (f := f) (l := l) fun y hy => h y (by simp [hy])
    rw [List.flatMap_cons, List.length_append, List.length_cons, Nat.add_mul]
    omega
theorem strs_are : ∀ {vs : List V} {xs : List Str}, Paired StrV vs xs → vs = xs.map V.str
  | _, _, .nil => rfl
  | _, _, .cons e r => by
    rw [strs_are r, List.map_cons]
    exact congrArg (· :: _) e
theorem strs_pair : ∀ (xs : List Str), Paired StrV (xs.map V.str) xs
  | [] => .nil
  | x :: xs => .cons rfl (strs_pair xs)
theorem n_sp : ¬ ("parts" : Str) = "sources" := by decide +kernel
theorem n_js : ¬ ("joinings" : Str) = "sources" := by decide +kernel
theorem n_jp : ¬ ("joinings" : Str) = "parts" := by decide +kernel
theorem n_ps : ¬ ("sources" : Str) = "parts" := by decide +kernel
theorem n_sj : ¬ ("sources" : Str) = "joinings" := by decide +kernel
theorem n_pj : ¬ ("parts" : Str) = "joinings" := by decide +kernel
theorem val_s (s p j : V) : valV (kvs3 s p j) (.inr "sources") = some s := by
  unfold valV kvs3
  simp
theorem val_p (s p j : V) : valV (kvs3 s p j) (.inr "parts") = some p := by
  unfold valV kvs3
  simp [n_ps, n_sp]
theorem val_j (s p j : V) : valV (kvs3 s p j) (.inr "joinings") = some j := by
  unfold valV kvs3
  simp [n_sj, n_pj]
theorem get_s {H : Hp} {d : Addr} {s p j : V} (h : H d = some (.dK (kvs3 s p j))) : DGet H d (.str "sources") (some s) := .inl ⟨_, .inr "sources", .inl h, rfl, (val_s s p j).symm⟩
theorem get_p {H : Hp} {d : Addr} {s p j : V} (h : H d = some (.dK (kvs3 s p j))) : DGet H d (.str "parts") (some p) := .inl ⟨_, .inr "parts", .inl h, rfl, (val_p s p j).symm⟩
theorem get_j {H : Hp} {d : Addr} {s p j : V} (h : H d = some (.dK (kvs3 s p j))) : DGet H d (.str "joinings") (some j) := .inl ⟨_, .inr "joinings", .inl h, rfl, (val_j s p j).symm⟩
end Ct
namespace Ct
open PySem PySem.Spec PyProof.Rows L2 TL
/-! ### comprehensions that draw -/
/-- what is told of all but one object -/
def hide (F : Addr) (G : Hp) : Hp := fun b => if b = F then none else G b
theorem hide_ne {F b : Addr} {G : Hp} (h : b ≠ F) : hide F G b = G b := if_neg h
theorem hide_at {F : Addr} {G : Hp} : hide F G F = none := if_pos rfl
theorem same_hide {F : Addr} {G H : Hp} (s : Same G H) (h : G F = none) : Same G (hide F H) := fun b z e => by
  rw [hide_ne (ne_of_none e h)]
  exact s _ _ e
theorem hide_same {F : Addr} {G : Hp} : Same (hide F G) G := fun b z e => by
  unfold hide at e
  split at e
  · cases e
  · exact e
theorem Beside.hide {p F : Addr} {G H : Hp} (b : Beside p G H) : Beside p (hide F G) H := ⟨by unfold Ct.hide; split; rfl; exact b.out, hide_same.trans b.sub⟩
theorem Beside.both {p D : Addr} {G H : Hp} {o : HO} (b : Beside p G H) (h : p ≠ D) : Beside p (upd G D o) (upd H D o) := ⟨by rw [upd_ne h]; exact b.out, fun c z e => by
  by_cases q : c = D
  · subst q
    rw [upd_same] at e ⊢
    exact e
  · rw [upd_ne q] at e ⊢
    exact b.sub _ _ e⟩
theorem same_but {G G' : Hp} {D : Addr} {o : HO} (s : Same G G') (h : G D = none) : Same G (upd G' D o) := fun b z e => by
  rw [upd_ne (ne_of_none e h)]
  exact s _ _ e
theorem SqT.hide {K : PySem.W.Frag} {G : Hp} {D a : Addr} {xs acc : List V} (hD : G D = some (.lst acc)) (h : SqT K G a xs) : SqT K (hide D G) a xs := by
  rcases h with (h | ⟨o, h⟩) | h
  · refine .inl (.inl ?_)
    rw [hide_ne (ne_of h hD (by intro z; cases z))]
    exact h
  · refine .inl (.inr ⟨o, ?_⟩)
    rw [hide_ne (ne_of h hD (by intro z; cases z))]
    exact h
  · exact .inr h
section
variable {K : PySem.W.Frag} {β γ : Type}
theorem comp_pot {p a : Addr} {n c : Nat} {xs : List V} {es : List β} {R : V → β → Prop} {R' : Hp → V → γ → Prop} {P : β → γ → Prop} {tl : TE} {g : TG} {te : TE} {vs : List Nat} {σ : L2.St} {G H : Hp} {Q : VK}
    (bs : Beside p G H) (ht : PotAt p H n) (hn : n + c * es.length ≤ 1000000)
    (hl : ∀ R : VK, R (.ref a) H → tl σ H R) (hS : SqL K G a xs) (pr : Paired R xs es) (hz : xs.length < 1000000)
    (mono : ∀ {H H' : Hp}, Same H H' → ∀ v c, R' H v c → R' H' v c) (stab : ∀ {H : Hp} {D : Addr} {acc : List V} (acc' : List V), H D = some (.lst acc) → ∀ v c, R' H v c → R' (upd H D (.lst acc')) v c)
    (turn : ∀ x e Gi Hi m (Z : VK), R x e → e ∈ es → Same G Gi → Beside p Gi Hi → PotAt p Hi m → m + c ≤ 1000000 →
      (∀ y e' G4 H4, Same Gi G4 → Beside p G4 H4 → PotAt p H4 (m + c) → R' G4 y e' → P e e' → Z y H4) → g x (wipe σ vs) Hi fun σ2 H2 => wipe σ2 vs = wipe σ vs ∧ te σ2 H2 Z)
    (hd : ∀ G' H' D acc fs, G D = none → Same G G' → Beside p G' H' → PotAt p H' (n + c * es.length) → G' D = some (.lst acc) → Paired (R' G') acc fs → Paired P es fs → Q (.ref D) H') : tLc (iList K tl) g tYes te vs σ H Q := by
  refine hl _ ⟨a, rfl, ⟨_, bs.sub.seq hS⟩, fun D hD => lc_list (xs := xs) (fun i H' => ∃ Gi acc fs, Same G Gi ∧ Beside p Gi H' ∧ PotAt p H' (n + c * i) ∧ Gi D = some (.lst acc) ∧ Paired (R' Gi) acc fs ∧ Paired P (es.take i) fs)
    ⟨_, [], [], (bs.new ht.some hD).2.1, (bs.new ht.some hD).1, ht.new hD, upd_same, .nil, .nil⟩
    (fun i H' _ ⟨_, _, _, s, b, _⟩ => b.sub.seq (s.seq hS)) (fun i x H' hx ⟨Gi, acc, fs, s, b, t, gD, h2, h3⟩ => ?_) fun H' ⟨Gi, acc, fs, s, b, t, gD, h2, h3⟩ => ?_⟩
  · obtain ⟨e, he, r⟩ := Paired.at pr hx
    have hi : i + 1 ≤ es.length := (List.getElem?_eq_some_iff.mp he).1
    have hm : c * (i + 1) ≤ c * es.length := Nat.mul_le_mul_left c hi
    rw [Nat.mul_add, Nat.mul_one] at hm
    have npD : p ≠ D := fun z => by
      have := b.out
      rw [z, gD] at this
      cases this
    have g0 : G D = none := bs.sub.free hD
    simp only [tYes, if_true]
    refine turn x e Gi H' (n + c * i) _ r (List.mem_of_getElem? he) s b t (by omega) (fun y e' G4 H4 s4 b4 t4 r4 p4 => ⟨acc, b4.sub _ _ (s4 _ _ gD), ?_, upd G4 D (.lst (acc ++ [y])), acc ++ [y], fs ++ [e'], same_but (s.trans s4) g0, b4.both npD, ?_, upd_same, ?_, ?_⟩)
    · have l1 := h2.length
      have l2 := pr.length
      have l3 := h3.length
      rw [List.length_take] at l3
      show acc.length < 16777216
      omega
    · have := t4.past (o := .lst (acc ++ [y])) npD
      rw [Nat.mul_add, Nat.mul_one, ← Nat.add_assoc]
      exact this
    · exact (h2.mono fun v c q => stab _ (s4 _ _ gD) v c (mono s4 v c q)).snoc (stab _ (s4 _ _ gD) _ _ r4)
    · rw [take_snoc he]
      exact h3.snoc p4
  · rw [pr.length] at t
    rw [show es.take xs.length = es by rw [pr.length, List.take_length]] at h3
    exact hd Gi H' D acc fs (bs.sub.free hD) s b t gD h2 h3
end
end Ct
namespace Ct
open PySem PySem.Spec PyProof.Rows L2 TL
/-! ### written lists of fractions -/
def tFr (f : Int × Int) : TE := tTup (tCons (tC (.int f.1)) (tCons (tC (.int f.2)) tNil))
def tFrs : List (Int × Int) → TA
  | [] => tNil
  | f :: r => tCons (tFr f) (tFrs r)
section
variable {K : PySem.W.Frag}
theorem frs_read {p : Addr} {n : Nat} {σ : L2.St} : ∀ (fs : List (Int × Int)) {G H : Hp} {Q : List V → Hp → Prop}, Beside p G H → PotAt p H n →
    (∀ vs G' H', Same G G' → Beside p G' H' → PotAt p H' n → Paired (FrAt K G') vs fs → Q vs H') → tFrs fs σ H Q
  | [], G, H, Q, b, t, h => h [] G H (Same.refl G) b t .nil
  | f :: r, G, H, Q, b, t, h => by
    refine ⟨by show 2 ≤ sizeLine; decide, fun a na => ?_⟩
    obtain ⟨b1, s1, g1⟩ := b.new (o := .tup [.int f.1, .int f.2]) t.some na
    exact frs_read r b1 (t.new na) fun vs G' H' s' b' t' pr => h _ G' H' (s1.trans s') b' t' (.cons ⟨a, rfl, SqT.of (s' _ _ upd_same)⟩ pr)
theorem lst_frs {p : Addr} {n : Nat} {σ : L2.St} (fs : List (Int × Int)) {G H : Hp} {Q : VK} (b : Beside p G H) (t : PotAt p H n) (hz : fs.length ≤ 1000)
    (h : ∀ l vs G' H', Same G G' → Beside p G' H' → PotAt p H' n → G' l = some (.lst vs) → Paired (FrAt K G') vs fs → Q (.ref l) H') : tLst (tFrs fs) σ H Q := by
  refine frs_read (K := K) fs b t fun vs G' H' s' b' t' pr => ⟨?_, fun l nl => ?_⟩
  · rw [pr.length]
    exact Nat.le_trans hz (by decide)
  · obtain ⟨b1, s1, g1⟩ := b'.new (o := .lst vs) t'.some nl
    exact h l vs _ _ (s'.trans s1) b1 (t'.new nl) upd_same (pr.mono fun v c q => q.same s1)
theorem TieAt.hide {G : Hp} {F : Addr} {acc : List V} (h : G F = some (.lst acc)) {v : V} {e : Str × Str × Str} : TieAt K G v e → TieAt K (hide F G) v e := fun ⟨t, e, q⟩ => ⟨t, e, SqT.hide h q⟩
end
end Ct
namespace Ct
open PySem PySem.Spec PyProof.Rows L2 TL
/-! ### more comprehensions: over a text, over a tuple -/
section
variable {K : PySem.W.Frag} {β γ : Type}
theorem comp_str {z : Str} {g : Nat → V} {tl : TE} {te : TE} {vs : List Nat} {i : Nat} {σ : L2.St} {H : Hp} {Q : VK} (hl : ∀ R : VK, R (.str z) H → tl σ H R) (hz : z.length < 1000000)
    (hw : ∀ c : Nat, wipe ((wipe σ vs).set i (some (.str ⟨#[c]⟩))) vs = wipe σ vs)
    (turn : ∀ c ∈ TL.tl z, ∀ (H : Hp) (Z : VK), Z (g c) H → te ((wipe σ vs).set i (some (.str ⟨#[c]⟩))) H Z)
    (hd : ∀ D, H D = none → Q (.ref D) (upd H D (.lst ((TL.tl z).map g)))) : tLc (iStr tl) (gName i) tYes te vs σ H Q := by
  refine hl _ ⟨z, rfl, fun D hD => lc_it walk_str (fun j H' => H' = upd H D (.lst (((TL.tl z).take j).map g))) rfl (fun _ _ _ _ => trivial) ?_ ?_⟩
  · rintro j H1 x H2 hj rfl ⟨rfl, c, hc, rfl⟩
    have hc2 : (TL.tl z)[j]? = some c := by simpa using hc
    simp only [tYes, if_true]
    refine ⟨hw c, turn c (List.mem_of_getElem? hc2) _ _ ⟨_, upd_same, ?_, ?_⟩⟩
    · rw [List.length_map, List.length_take]
      have := len_tl z
      show _ < 16777216
      omega
    · rw [upd_upd, take_snoc hc2, List.map_append]
      rfl
  · rintro H1 rfl
    have e : (TL.tl z).take z.cps.size = TL.tl z := List.take_of_length_le (by simp [TL.tl])
    rw [e]
    exact hd D hD
theorem comp_pureT {a : Addr} {xs : List V} {es : List β} {R : V → β → Prop} {R' : Hp → V → γ → Prop} {f : β → γ} {tl : TE} {g : TG} {te : TE} {vs : List Nat} {σ : L2.St} {H H1 : Hp} {Q : VK}
    (hl : ∀ R : VK, R (.ref a) H1 → tl σ H R) (hS : SqT K H1 a xs) (pr : Paired R xs es) (hz : xs.length < 1000000)
    (mono : ∀ {H H' : Hp}, Same H H' → ∀ v c, R' H v c → R' H' v c) (stab : ∀ {H : Hp} {D : Addr} {acc : List V} (acc' : List V), H D = some (.lst acc) → ∀ v c, R' H v c → R' (upd H D (.lst acc')) v c)
    (turn : ∀ x e H (Z : VK), R x e → e ∈ es → Same H1 H → (∀ y H4, Same H H4 → R' H4 y (f e) → Z y H4) → g x (wipe σ vs) H fun σ2 H2 => wipe σ2 vs = wipe σ vs ∧ te σ2 H2 Z)
    (hd : ∀ H' D acc, H1 D = none → Same H1 H' → H' D = some (.lst acc) → Paired (R' H') acc (es.map f) → Q (.ref D) H') : tLc (iTup K tl) g tYes te vs σ H Q := by
  refine hl _ ⟨a, rfl, ⟨_, hS⟩, fun D hD => lc_tup (xs := xs) (fun i H' => ∃ acc, H' D = some (.lst acc) ∧ Paired (R' H') acc ((es.take i).map f) ∧ Same H1 H') ⟨[], upd_same, .nil, same_upd hD⟩
    (fun i H' _ ⟨_, _, _, s⟩ => SqT.same s hS) (fun i x H' hx ⟨acc, h1, h2, s⟩ => ?_) fun H' ⟨acc, h1, h2, s⟩ => ?_⟩
  · obtain ⟨e, he, r⟩ := Paired.at pr hx
    simp only [tYes, if_true]
    refine turn x e H' _ r (List.mem_of_getElem? he) s (fun y H4 s4 r4 => ⟨acc, s4 _ _ h1, ?_, acc ++ [y], upd_same, ?_, ?_⟩)
    · have l1 := h2.length
      have l2 := pr.length
      have l3 := (List.getElem?_eq_some_iff.mp hx).1
      rw [List.length_map, List.length_take] at l1
      show acc.length < 16777216
      omega
    · rw [take_snoc he, List.map_append]
      exact (h2.mono fun v c q => stab _ (s4 _ _ h1) v c (mono s4 v c q)).snoc (stab _ (s4 _ _ h1) _ _ r4)
    · exact fun b o z => by
        have nb : b ≠ D := ne_of_none z hD
        rw [upd_ne nb]
        exact s4 _ _ (s _ _ z)
  · rw [show es.take xs.length = es by rw [pr.length, List.take_length]] at h2
    exact hd H' D acc hD s h1 h2
/-- a tuple that begins with this text -/
def HeadAt (K : PySem.W.Frag) (H : Hp) (v : V) (x : Str) : Prop := ∃ t r, v = .ref t ∧ SqT K H t (.str x :: r)
theorem HeadAt.ent {H : Hp} {v : V} {e : Str × Int × Int} : EntAt K H v e → HeadAt K H v e.1 := fun ⟨t, u, h1, h2, _⟩ => ⟨t, _, h1, h2⟩
theorem HeadAt.joi {H : Hp} {v : V} {e : Str × List (Str × Str × Str)} : JoiAt K H v e → HeadAt K H v e.1 := fun ⟨t, u, h1, h2, _⟩ => ⟨t, _, h1, h2⟩
theorem HeadAt.tie {H : Hp} {v : V} {e : Str × Str × Str} : TieAt K H v e → HeadAt K H v e.1 := fun ⟨t, h1, h2⟩ => ⟨t, _, h1, h2⟩
theorem heads {F : V → β → Prop} {H : Hp} {p : β → Str} : ∀ {vs : List V} {es : List β}, Paired F vs es → (∀ v e, F v e → HeadAt K H v (p e)) → Paired (HeadAt K H) vs (es.map p)
  | _, _, .nil, _ => .nil
  | _, _, .cons h r, k => .cons (k _ _ h) (heads r k)
theorem in_strs {x : Str} {xs : List Str} : inV (.str x) (xs.map V.str) = decide (x ∈ xs) := by
  unfold inV
  induction xs with
  | nil => rfl
  | cons y ys ih =>
    rw [List.map_cons, List.any_cons, ih]
    show (decide _ || _) = _
    by_cases h : y = x
    · subst h
      simp [eqV]
    · have h2 : ¬ x = y := fun z => h z.symm
      simp [eqV, h, h2]
theorem strs_flat (xs : List Str) : (xs.map V.str).all flatV = true := by
  rw [List.all_map]
  exact List.all_eq_true.mpr fun _ _ => rfl
end
end Ct
namespace Ct
open PySem PySem.Spec PyProof.Rows L2 TL
/-- a comprehension over the list of texts that a call hands back -/
theorem comp_call {K : PySem.W.Frag} {γ : Type} {es : List Str} {R' : Hp → V → γ → Prop} {f : Str → γ} {tl : TE} {g : TG} {te : TE} {vs : List Nat} {σ : L2.St} {H : Hp} {Q : VK}
    (hl : ∀ R : VK, (∀ l H1, Same H H1 → H l = none → H1 l = some (.lst (es.map V.str)) → R (.ref l) H1) → tl σ H R) (hz : es.length < 1000000)
    (mono : ∀ {H H' : Hp}, Same H H' → ∀ v c, R' H v c → R' H' v c) (stab : ∀ {H : Hp} {D : Addr} {acc : List V} (acc' : List V), H D = some (.lst acc) → ∀ v c, R' H v c → R' (upd H D (.lst acc')) v c)
    (turn : ∀ x e H1 (Z : VK), StrV x e → e ∈ es → Same H H1 → (∀ y H4, Same H1 H4 → R' H4 y (f e) → Z y H4) → g x (wipe σ vs) H1 fun σ2 H2 => wipe σ2 vs = wipe σ vs ∧ te σ2 H2 Z)
    (hd : ∀ H' D acc, H D = none → Same H H' → H' D = some (.lst acc) → Paired (R' H') acc (es.map f) → Q (.ref D) H') : tLc (iList K tl) g tYes te vs σ H Q := by
  refine hl _ fun l H1 s1 nl hl1 => ?_
  have go : tLc (iList K fun _ _ R => R (.ref l) H1) g tYes te vs σ H1 Q :=
    comp_pure (f := f) (R := StrV) (fun R r => r) (SqL.of hl1) (strs_pair es) (by rw [List.length_map]; exact hz) mono stab (fun x e H2 Z r he s2 hz => turn x e H2 Z r he (s1.trans s2) hz) fun H' D acc nD s' hD hp => hd H' D acc (s1.free nD) (s1.trans s') hD hp
  exact go
end Ct

/-! What the reader of circuits holds between two lines. -/
namespace Ct
open PySem PySem.Spec PyProof.Rows L2 TL
inductive Line
  | src (e : Str × Int × Int)
  | prt (e : Str × Int × Int)
  | joi (x : Str)
  | tie (t : Str × Str × Str)
def Line.words : Line → List Str
  | .src e => ["source", e.1, fracText e.2]
  | .prt e => ["part", e.1, fracText e.2]
  | .joi x => ["joining", x]
  | .tie t => ["tie", t.1, t.2.1, t.2.2]
def addTie (t : Str × Str × Str) : List (Str × List (Str × Str × Str)) → List (Str × List (Str × Str × Str))
  | [] => []
  | [(x, ts)] => [(x, ts ++ [t])]
  | j :: k :: r => j :: addTie t (k :: r)
theorem addTie_last (t : Str × Str × Str) (x : Str) (ts : List (Str × Str × Str)) : ∀ fr, addTie t (fr ++ [(x, ts)]) = fr ++ [(x, ts ++ [t])]
  | [] => rfl
  | [j] => rfl
  | j :: k :: r => by
    show j :: addTie t ((k :: r) ++ [(x, ts)]) = _
    rw [addTie_last t x ts (k :: r)]
    rfl
def Own.add (o : Own) : Line → Own
  | .src e => { o with sources := o.sources ++ [e] }
  | .prt e => { o with parts := o.parts ++ [e] }
  | .joi x => { o with joinings := o.joinings ++ [(x, [])] }
  | .tie t => { o with joinings := addTie t o.joinings }
def Fits (o : Own) : Line → Prop
  | .src e => o.parts = [] ∧ Name e.1 ∧ FrOk e.2 ∧ o.sources.length < 4 ∧ e.1 ∉ o.sources.map (·.1)
  | .prt e => o.joinings = [] ∧ Name e.1 ∧ FrOk e.2 ∧ 0 < e.2.1 ∧ o.parts.length < 8 ∧ e.1 ∉ o.parts.map (·.1)
  | .joi x => o.parts ≠ [] ∧ Name x ∧ o.joinings.length < 6 ∧ x ∉ o.joinings.map (·.1)
  | .tie t => ∃ fr x ts, o.joinings = fr ++ [(x, ts)] ∧ o.parts.length ≤ 8 ∧ ts.length < 8 ∧ t.1 ∈ o.parts.map (·.1) ∧ t.1 ∉ ts.map (·.1) ∧ Junc t.2.1 ∧ Junc t.2.2
section
variable (K : PySem.W.Frag) (G H : Hp) (s p j : Addr)
inductive JacAt : List V → List (Str × List (Str × Str × Str)) → Prop
  | nil : JacAt [] []
  | last {vF : List V} {fr : List (Str × List (Str × Str × Str))} {t l : Addr} {x : Str} {ts : List (Str × Str × Str)} {tv : List V} (front : Paired (JoiAt K G) vF fr) (ht : SqT K G t [.str x, .ref l]) (gl : G l = none)
      (ls : l ≠ s) (lp : l ≠ p) (lj : l ≠ j) (hl : H l = some (.lst tv)) (ties : Paired (TieAt K G) tv ts) : JacAt (vF ++ [.ref t]) (fr ++ [(x, ts)])
structure Acc (o : Own) : Prop where
  sub : Same G H
  gs : G s = none
  gp : G p = none
  gj : G j = none
  sp : s ≠ p
  sj : s ≠ j
  pj : p ≠ j
  src : ∃ vs, H s = some (.lst vs) ∧ Paired (EntAt K G) vs o.sources
  prt : ∃ vs, H p = some (.lst vs) ∧ Paired (EntAt K G) vs o.parts
  joi : ∃ vs, H j = some (.lst vs) ∧ JacAt K G H s p j vs o.joinings
end
section
variable {K : PySem.W.Frag} {G H : Hp} {s p j : Addr} {o : Own}
theorem JacAt.to {G' H' : Hp} {vs : List V} {js : List (Str × List (Str × Str × Str))} (h : JacAt K G H s p j vs js) (sg : Same G G') (keep : ∀ l tv, l ≠ s → l ≠ p → l ≠ j → G l = none → H l = some (.lst tv) → G' l = none ∧ H' l = some (.lst tv)) : JacAt K G' H' s p j vs js := by
  cases h with
  | nil => exact .nil
  | last front ht gl ls lp lj hl ties =>
    obtain ⟨a, b⟩ := keep _ _ ls lp lj gl hl
    exact .last (front.mono fun v c h => h.same sg) (SqT.same sg ht) a ls lp lj b (ties.mono fun v c h => h.same sg)
theorem JacAt.len {vs : List V} {js : List (Str × List (Str × Str × Str))} (h : JacAt K G H s p j vs js) : vs.length = js.length := by
  cases h with
  | nil => rfl
  | last front => rw [List.length_append, List.length_append, front.length]; rfl
/-- new things, nothing changed -/
theorem Acc.more {H' : Hp} (a : Acc K G H s p j o) (k : Same H H') : Acc K G H' s p j o where
  sub := a.sub.trans k
  gs := a.gs
  gp := a.gp
  gj := a.gj
  sp := a.sp
  sj := a.sj
  pj := a.pj
  src := let ⟨vs, h, r⟩ := a.src; ⟨vs, k _ _ h, r⟩
  prt := let ⟨vs, h, r⟩ := a.prt; ⟨vs, k _ _ h, r⟩
  joi := let ⟨vs, h, r⟩ := a.joi; ⟨vs, k _ _ h, r.to (Same.refl G) fun l tv _ _ _ g h => ⟨g, k _ _ h⟩⟩
/-- a tuple that lies there is fixed -/
theorem Acc.fix {t : Addr} {xs : List V} (a : Acc K G H s p j o) (ht : H t = some (.tup xs)) : Acc K (upd G t (.tup xs)) H s p j o ∧ Same G (upd G t (.tup xs)) := by
  have sg : Same G (upd G t (.tup xs)) := fun b z e => by
    by_cases q : b = t
    · subst q
      rw [upd_same]
      exact ht ▸ a.sub _ _ e
    · rw [upd_ne q]
      exact e
  have ne : ∀ {l : Addr} {tv : List V}, H l = some (.lst tv) → l ≠ t := fun h => ne_of h ht (by intro z; cases z)
  obtain ⟨v1, h1, r1⟩ := a.src
  obtain ⟨v2, h2, r2⟩ := a.prt
  obtain ⟨v3, h3, r3⟩ := a.joi
  refine ⟨⟨fun b z e => ?_, by rw [upd_ne (ne h1)]; exact a.gs, by rw [upd_ne (ne h2)]; exact a.gp, by rw [upd_ne (ne h3)]; exact a.gj, a.sp, a.sj, a.pj, ⟨v1, h1, r1.mono fun v c h => h.same sg⟩, ⟨v2, h2, r2.mono fun v c h => h.same sg⟩, ⟨v3, h3, r3.to sg fun l tv _ _ _ g h => ⟨by rw [upd_ne (ne h)]; exact g, h⟩⟩⟩, sg⟩
  by_cases q : b = t
  · subst q
    rw [upd_same] at e
    exact e ▸ ht
  · rw [upd_ne q] at e
    exact a.sub _ _ e
/-- a list that is none of the reader's is fixed -/
theorem Acc.fixL {t : Addr} {xs : List V} (a : Acc K G H s p j o) (ht : H t = none) : Acc K (upd G t (.lst xs)) (upd H t (.lst xs)) s p j o ∧ Same G (upd G t (.lst xs)) := by
  have gt : G t = none := a.sub.free ht
  have sg : Same G (upd G t (.lst xs)) := same_upd gt
  have sh : Same H (upd H t (.lst xs)) := same_upd ht
  have ne : ∀ {l : Addr} {z : HO}, H l = some z → l ≠ t := fun h => ne_of_none h ht
  obtain ⟨v1, h1, r1⟩ := a.src
  obtain ⟨v2, h2, r2⟩ := a.prt
  obtain ⟨v3, h3, r3⟩ := a.joi
  refine ⟨⟨fun b z e => ?_, by rw [upd_ne (ne h1)]; exact a.gs, by rw [upd_ne (ne h2)]; exact a.gp, by rw [upd_ne (ne h3)]; exact a.gj, a.sp, a.sj, a.pj, ⟨v1, sh _ _ h1, r1.mono fun v c h => h.same sg⟩, ⟨v2, sh _ _ h2, r2.mono fun v c h => h.same sg⟩, ⟨v3, sh _ _ h3, r3.to sg fun l tv _ _ _ g h => ⟨by rw [upd_ne (ne h)]; exact g, sh _ _ h⟩⟩⟩, sg⟩
  by_cases q : b = t
  · subst q
    rw [upd_same] at e ⊢
    exact e
  · rw [upd_ne q] at e ⊢
    exact a.sub _ _ e
theorem Same.away {D : Addr} {ob : HO} (k : Same G H) (h : G D = none) : Same G (upd H D ob) := fun b z e => by
  rw [upd_ne (ne_of_none e h)]
  exact k _ _ e
theorem Acc.addSrc {vs : List V} {v : V} {e : Str × Int × Int} (a : Acc K G H s p j o) (hs : H s = some (.lst vs)) (r : EntAt K G v e) : Acc K G (upd H s (.lst (vs ++ [v]))) s p j (o.add (.src e)) := by
  obtain ⟨v1, h1, r1⟩ := a.src
  obtain ⟨v2, h2, r2⟩ := a.prt
  obtain ⟨v3, h3, r3⟩ := a.joi
  have e1 : v1 = vs := HO.lst.inj (Option.some.inj (h1.symm.trans hs))
  subst e1
  exact ⟨same_but a.sub a.gs, a.gs, a.gp, a.gj, a.sp, a.sj, a.pj, ⟨_, upd_same, r1.snoc r⟩, ⟨v2, by rw [upd_ne a.sp.symm]; exact h2, r2⟩, ⟨v3, by rw [upd_ne a.sj.symm]; exact h3, r3.to (Same.refl G) fun l tv n1 _ _ g h => ⟨g, by rw [upd_ne n1]; exact h⟩⟩⟩
theorem Acc.addPrt {vs : List V} {v : V} {e : Str × Int × Int} (a : Acc K G H s p j o) (hs : H p = some (.lst vs)) (r : EntAt K G v e) : Acc K G (upd H p (.lst (vs ++ [v]))) s p j (o.add (.prt e)) := by
  obtain ⟨v1, h1, r1⟩ := a.src
  obtain ⟨v2, h2, r2⟩ := a.prt
  obtain ⟨v3, h3, r3⟩ := a.joi
  have e1 : v2 = vs := HO.lst.inj (Option.some.inj (h2.symm.trans hs))
  subst e1
  exact ⟨same_but a.sub a.gp, a.gs, a.gp, a.gj, a.sp, a.sj, a.pj, ⟨v1, by rw [upd_ne a.sp]; exact h1, r1⟩, ⟨_, upd_same, r2.snoc r⟩, ⟨v3, by rw [upd_ne a.pj.symm]; exact h3, r3.to (Same.refl G) fun l tv _ n2 _ g h => ⟨g, by rw [upd_ne n2]; exact h⟩⟩⟩
/-- a joining more: the last one's list of ties is fixed from here on; l, the new one's, and t, its tuple -/
theorem Acc.addJoi {vs : List V} {x : Str} {l t : Addr} (a : Acc K G H s p j o) (hj : H j = some (.lst vs)) (nl : H l = none) (nt : upd H l (.lst []) t = none) :
    ∃ G', Same G G' ∧ Acc K G' (upd (upd (upd H l (.lst [])) t (.tup [.str x, .ref l])) j (.lst (vs ++ [.ref t]))) s p j (o.add (.joi x)) := by
  obtain ⟨v1, h1, r1⟩ := a.src
  obtain ⟨v2, h2, r2⟩ := a.prt
  obtain ⟨v3, h3, r3⟩ := a.joi
  have e1 : v3 = vs := HO.lst.inj (Option.some.inj (h3.symm.trans hj))
  subst e1
  have lt : l ≠ t := ne_of_none upd_same nt
  have ht : H t = none := by rw [upd_ne lt.symm] at nt; exact nt
  have ln : ∀ {b : Addr} {z : HO}, H b = some z → b ≠ l := fun h => ne_of_none h nl
  have tn : ∀ {b : Addr} {z : HO}, H b = some z → b ≠ t := fun h => ne_of_none h ht
  -- what was fixed, and the last list
  obtain ⟨G1, s1, sub1, g1s, g1p, g1j, fr⟩ : ∃ G1, Same G G1 ∧ Same G1 H ∧ G1 s = none ∧ G1 p = none ∧ G1 j = none ∧ Paired (JoiAt K G1) v3 o.joinings := by
    generalize ej : o.joinings = js at r3
    cases r3 with
    | nil => exact ⟨G, Same.refl G, a.sub, a.gs, a.gp, a.gj, .nil⟩
    | last front ht gl ls lp lj hl ties =>
      rename_i vF fr t0 l0 x0 ts tv
      have sg : Same G (upd G l0 (.lst tv)) := same_upd gl
      refine ⟨upd G l0 (.lst tv), sg, fun b z e => ?_, by rw [upd_ne ls.symm]; exact a.gs, by rw [upd_ne lp.symm]; exact a.gp, by rw [upd_ne lj.symm]; exact a.gj, (front.mono fun v c h => h.same sg).snoc ⟨t0, .ref l0, rfl, SqT.same sg ht, l0, tv, rfl, SqL.of upd_same, ties.mono fun v c h => h.same sg⟩⟩
      by_cases q : b = l0
      · subst q
        rw [upd_same] at e
        exact e ▸ hl
      · rw [upd_ne q] at e
        exact a.sub _ _ e
  have g1t : G1 t = none := sub1.free ht
  have g1l : G1 l = none := sub1.free nl
  have s2 : Same G1 (upd G1 t (.tup [.str x, .ref l])) := same_upd g1t
  refine ⟨upd G1 t (.tup [.str x, .ref l]), s1.trans s2, ⟨fun b z e => ?_, by rw [upd_ne (tn h1)]; exact g1s, by rw [upd_ne (tn h2)]; exact g1p, by rw [upd_ne (tn h3)]; exact g1j, a.sp, a.sj, a.pj,
    ⟨v1, by rw [upd_ne a.sj, upd_ne (tn h1), upd_ne (ln h1)]; exact h1, r1.mono fun v c h => h.same (s1.trans s2)⟩, ⟨v2, by rw [upd_ne a.pj, upd_ne (tn h2), upd_ne (ln h2)]; exact h2, r2.mono fun v c h => h.same (s1.trans s2)⟩,
    ⟨_, upd_same, .last (fr.mono fun v c h => h.same s2) (SqT.of upd_same) (by rw [upd_ne lt]; exact g1l) (ln h1).symm (ln h2).symm (ln h3).symm (by rw [upd_ne (ln h3).symm, upd_ne lt]; exact upd_same) .nil⟩⟩⟩
  by_cases q : b = t
  · subst q
    rw [upd_same] at e
    rw [upd_ne (tn h3).symm, upd_same]
    exact e
  · rw [upd_ne q] at e
    have hb := sub1 _ _ e
    rw [upd_ne (ne_of_none e g1j), upd_ne q, upd_ne (ln hb)]
    exact hb
/-- a tie more -/
theorem Acc.addTie {t0 l : Addr} {x : Str} {ts : List (Str × Str × Str)} {fr : List (Str × List (Str × Str × Str))} {vF tv : List V} {v : V} {e : Str × Str × Str} (a : Acc K G H s p j o) (ho : o.joinings = fr ++ [(x, ts)]) (hj : H j = some (.lst (vF ++ [.ref t0])))
    (front : Paired (JoiAt K G) vF fr) (ht : SqT K G t0 [.str x, .ref l]) (gl : G l = none) (ls : l ≠ s) (lp : l ≠ p) (lj : l ≠ j) (hl : H l = some (.lst tv)) (ties : Paired (TieAt K G) tv ts) (r : TieAt K G v e) :
    Acc K G (upd H l (.lst (tv ++ [v]))) s p j (o.add (.tie e)) := by
  obtain ⟨v1, h1, r1⟩ := a.src
  obtain ⟨v2, h2, r2⟩ := a.prt
  refine ⟨same_but a.sub gl, a.gs, a.gp, a.gj, a.sp, a.sj, a.pj, ⟨v1, by rw [upd_ne ls.symm]; exact h1, r1⟩, ⟨v2, by rw [upd_ne lp.symm]; exact h2, r2⟩, ⟨_, by rw [upd_ne lj.symm]; exact hj, ?_⟩⟩
  show JacAt K G _ s p j _ (Ct.addTie e o.joinings)
  rw [ho, addTie_last]
  exact .last front ht gl ls lp lj upd_same (ties.snoc r)
end
end Ct
namespace Ct
open PySem PySem.Spec PyProof.Rows L2 TL
/-! ### a circuit's object -/
section
variable {K : PySem.W.Frag} {H : Hp} {D : Addr} {C dx : Addr} {fs fs' : List (Str × V)}
theorem SqT.ins (hD : H D = some (.ins C dx fs)) {a : Addr} {xs : List V} (h : SqT K H a xs) : SqT K (upd H D (.ins C dx fs')) a xs := by
  rcases h with (h | ⟨o, h⟩) | h
  · exact .inl (.inl ((upd_ne (ne_of h hD (by intro z; cases z))).trans h))
  · exact .inl (.inr ⟨o, (upd_ne (ne_of h hD (by intro z; cases z))).trans h⟩)
  · exact .inr h
theorem SqL.ins (hD : H D = some (.ins C dx fs)) {a : Addr} {xs : List V} (h : SqL K H a xs) : SqL K (upd H D (.ins C dx fs')) a xs := by
  rcases h with (h | ⟨o, h⟩) | h
  · exact .inl (.inl ((upd_ne (ne_of h hD (by intro z; cases z))).trans h))
  · exact .inl (.inr ⟨o, (upd_ne (ne_of h hD (by intro z; cases z))).trans h⟩)
  · exact .inr h
theorem EntAt.ins (hD : H D = some (.ins C dx fs)) {v : V} {e : Str × Int × Int} : EntAt K H v e → EntAt K (upd H D (.ins C dx fs')) v e := fun ⟨t, u, a, b, t', c, d⟩ => ⟨t, u, a, SqT.ins hD b, t', c, SqT.ins hD d⟩
theorem TieAt.ins (hD : H D = some (.ins C dx fs)) {v : V} {e : Str × Str × Str} : TieAt K H v e → TieAt K (upd H D (.ins C dx fs')) v e := fun ⟨t, a, b⟩ => ⟨t, a, SqT.ins hD b⟩
end
/-- a joining as the reader has it: its ties a list -/
def JrAt (K : PySem.W.Frag) (H : Hp) (v : V) (e : Str × List (Str × Str × Str)) : Prop := ∃ t l tv, v = .ref t ∧ SqT K H t [.str e.1, .ref l] ∧ SqL K H l tv ∧ Paired (TieAt K H) tv e.2
/-- and as the circuit has it: its ties a tuple -/
def JoTAt (K : PySem.W.Frag) (H : Hp) (v : V) (e : Str × List (Str × Str × Str)) : Prop := ∃ t l tv, v = .ref t ∧ SqT K H t [.str e.1, .ref l] ∧ SqT K H l tv ∧ Paired (TieAt K H) tv e.2
def CircAt (K : PySem.W.Frag) (C : Addr) (H : Hp) (v : V) (o : Own) : Prop := ∃ (c dx : Addr) (fs : List (Str × V)) (ts tp tj : Addr) (us vs ws : List V), v = .ref c ∧ H c = some (.ins C dx fs) ∧ fs.lookup ("text" : Str) = some (.str (textOf o)) ∧ fs.lookup ("sources" : Str) = some (.ref ts) ∧
  fs.lookup ("parts" : Str) = some (.ref tp) ∧ fs.lookup ("joinings" : Str) = some (.ref tj) ∧ SqT K H ts us ∧ SqT K H tp vs ∧ SqT K H tj ws ∧ Paired (EntAt K H) us o.sources ∧ Paired (EntAt K H) vs o.parts ∧ Paired (JoTAt K H) ws o.joinings
section
variable {K : PySem.W.Frag} {H H' : Hp} {D : Addr} {C dx : Addr} {fs fs' : List (Str × V)}
theorem JrAt.same (s : Same H H') {v : V} {e : Str × List (Str × Str × Str)} : JrAt K H v e → JrAt K H' v e := fun ⟨t, l, tv, a, b, c, d⟩ => ⟨t, l, tv, a, SqT.same s b, Same.seq s c, d.mono fun _ _ h => h.same s⟩
theorem JrAt.ins (hD : H D = some (.ins C dx fs)) {v : V} {e : Str × List (Str × Str × Str)} : JrAt K H v e → JrAt K (upd H D (.ins C dx fs')) v e := fun ⟨t, l, tv, a, b, c, d⟩ => ⟨t, l, tv, a, SqT.ins hD b, SqL.ins hD c, d.mono fun _ _ h => h.ins hD⟩
theorem JoTAt.same (s : Same H H') {v : V} {e : Str × List (Str × Str × Str)} : JoTAt K H v e → JoTAt K H' v e := fun ⟨t, l, tv, a, b, c, d⟩ => ⟨t, l, tv, a, SqT.same s b, SqT.same s c, d.mono fun _ _ h => h.same s⟩
theorem JoTAt.ins (hD : H D = some (.ins C dx fs)) {v : V} {e : Str × List (Str × Str × Str)} : JoTAt K H v e → JoTAt K (upd H D (.ins C dx fs')) v e := fun ⟨t, l, tv, a, b, c, d⟩ => ⟨t, l, tv, a, SqT.ins hD b, SqT.ins hD c, d.mono fun _ _ h => h.ins hD⟩
theorem JoTAt.list {acc acc' : List V} (hD : H D = some (.lst acc)) {v : V} {e : Str × List (Str × Str × Str)} : JoTAt K H v e → JoTAt K (upd H D (.lst acc')) v e := fun ⟨t, l, tv, a, b, c, d⟩ => ⟨t, l, tv, a, SqT.list hD b, SqT.list hD c, d.mono fun _ _ h => h.list hD⟩
theorem CircAt.same (s : Same H H') {v : V} {o : Own} : CircAt K C H v o → CircAt K C H' v o := fun ⟨c, dx, fs, ts, tp, tj, us, vs, ws, a, b, f1, f2, f3, f4, q1, q2, q3, r1, r2, r3⟩ =>
  ⟨c, dx, fs, ts, tp, tj, us, vs, ws, a, s _ _ b, f1, f2, f3, f4, SqT.same s q1, SqT.same s q2, SqT.same s q3, r1.mono fun _ _ h => h.same s, r2.mono fun _ _ h => h.same s, r3.mono fun _ _ h => h.same s⟩
theorem Acc.jr {G : Hp} {s p j : Addr} {o : Own} (a : Acc K G H s p j o) : ∃ vs, H j = some (.lst vs) ∧ Paired (JrAt K H) vs o.joinings := by
  obtain ⟨vs, h, r⟩ := a.joi
  refine ⟨vs, h, ?_⟩
  generalize o.joinings = js at r
  have fr : ∀ {v : V} {e : Str × List (Str × Str × Str)}, JoiAt K G v e → JrAt K H v e := fun ⟨t, l, e1, e2, l', tv, e3, e4, e5⟩ => ⟨t, l', tv, e1, by rw [← e3]; exact SqT.same a.sub e2, Same.seq a.sub e4, e5.mono fun _ _ h => h.same a.sub⟩
  cases r with
  | nil => exact .nil
  | last front ht gl ls lp lj hl ties => exact (front.mono fun _ _ h => fr h).snoc ⟨_, _, _, rfl, SqT.same a.sub ht, SqL.of hl, ties.mono fun _ _ h => h.same a.sub⟩
end
end Ct

/-! A new tuple whose object is known to have no dict of its own: dict(..) of it. -/
namespace Ct
open PySem PySem.Spec PyProof.Rows L2 TL RZ
/-- a tuple, whose object has no dict -/
def TupN (H : Hp) (a : Addr) (xs : List V) : Prop := ∃ od : Obj, H a = some (.frz od (.tup xs)) ∧ od.dict = none ∧ od.cls = .type "tuple"
theorem TupN.sq {K : PySem.W.Frag} {H : Hp} {a : Addr} {xs : List V} (h : TupN H a xs) : SqT K H a xs := by
  obtain ⟨od, h, _⟩ := h
  exact .inl (.inr ⟨od, h⟩)
theorem TupN.same {G H : Hp} {a : Addr} {xs : List V} (s : Same G H) (h : TupN G a xs) : TupN H a xs := by
  obtain ⟨od, h, r⟩ := h
  exact ⟨od, s _ _ h, r⟩
section
variable {X : Cx}
/-- tuple(xs), xs a list -/
theorem call_tupleN : CallR X (.type "tuple") (fun vs H Q => ∃ (p : Addr) (ys : List V), vs = [.ref p] ∧ SqL X.K H p ys ∧ ∀ l od, H l = none → od.dict = none → od.cls = .type "tuple" → Q (.ref l) (upd H l (.frz od (.tup ys)))) := by
  intro pins s σ H xs us Q I r ⟨p, ys, e, hq, q⟩
  subst e
  obtain ⟨u, rfl, rx⟩ := vals1 r
  cases rx
  obtain ⟨its, r1, pl, hz⟩ := I.list hq
  have hlen := r1.length
  refine call_tuple_list pl.isList (fun h' kp => ?_) (by rw [List.size_toArray, ← hlen]; exact hz)
  have I1 : Inv X pins σ H { s with heap := h' } := I.kept (t' := s.toks) kp
  have I2 : Inv X pins σ (upd H h'.objs.size (.frz { cls := .type "tuple", data := .seq its.toArray } (.tup ys))) { s with heap := h'.push { cls := .type "tuple", data := .seq its.toArray } } :=
    I1.laid (t' := s.toks) (fun b o e => Heap.get?_push_of_some _ e) (Nat.le_refl _) ⟨Heap.get?_push_size _ rfl, hz, its, r1, IsTup.new _ _⟩
  exact ⟨.ref h'.objs.size, _, I2, rfl, q _ _ (I1.hok.fresh (Nat.le_refl _)) rfl rfl⟩
theorem pairs_in {pins : List (Addr × Obj)} {σ : L2.St} {H : Hp} {s : Shared} (I : Inv X pins σ H s) : ∀ {ps : List Addr} {kvs : List (Key × V)}, Paired (fun p kv => SqT X.K H p [kV kv.1, kv.2]) ps kvs →
    ∃ (prs : List (Key × Value)) (uvs : List (Value × Value)), KV kvs prs ∧ prs.length = ps.length ∧ uvs.length = ps.length ∧ ∀ (j : Nat) (u y : Value), uvs[j]? = some (u, y) → ∃ (b : Addr) (k : Key), ps[j]? = some b ∧ prs[j]? = some (k, y) ∧ IsTup s.heap b #[u, y] ∧ (mixKind X.prog X.w).is k u = true
  | _, _, .nil => ⟨[], [], .nil, rfl, rfl, fun _ _ _ e => by simp at e⟩
  | _, _, .cons (a := p) (b := kv) h t => by
    obtain ⟨prs, uvs, r, l1, l2, f⟩ := pairs_in I t
    obtain ⟨its, rv, tp, _⟩ := I.tuple h
    obtain ⟨u, y, e, ru, ry⟩ := vals2 rv
    subst e
    refine ⟨(kv.1, y) :: prs, (u, y) :: uvs, .cons ⟨rfl, ry⟩ r, by rw [List.length_cons, List.length_cons, l1], by rw [List.length_cons, List.length_cons, l2], fun j u1 y1 e => ?_⟩
    cases j with
    | zero =>
      cases Option.some.inj e
      exact ⟨p, kv.1, rfl, rfl, tp, kV_is ru⟩
    | succ j => exact f j u1 y1 e
/-- dict(xs), xs such a tuple of pairs -/
theorem call_dictN (calm : X.calm = true) : CallR X (.type "dict") (fun vs H Q => ∃ (a : Addr) (ps : List Addr) (kvs : List (Key × V)), vs = [.ref a] ∧ TupN H a (ps.map V.ref) ∧ Paired (fun p kv => SqT X.K H p [kV kv.1, kv.2]) ps kvs ∧ ∀ p, H p = none → Q (.ref p) (upd H p (.dK (mergeK [] kvs)))) := by
  intro pins s σ H xs us Q I r ⟨a, ps, kvs, e, ⟨od, ha, nd, cl⟩, hp, q⟩
  subst e
  obtain ⟨u, rfl, rx⟩ := vals1 r
  cases rx
  obtain ⟨got, hz, its, rv, ob, hob, _, n, dat⟩ := I.hok a _ ha
  have same : od = ob := Option.some.inj (got.symm.trans hob)
  subst same
  have ei := refs_at rv
  subst ei
  rw [List.length_map] at hz
  obtain ⟨prs, uvs, rel, l1, l2, f⟩ := pairs_in I hp
  refine _root_.PySem.call_dict_pairs (knd := mixKind X.prog X.w) (kvs := prs) (PairArg.tuple a _ (fun j => ps.getD j 0) uvs) (I.ok.hd calm) ⟨⟨od, n, got, cl, nd, dat⟩, ?_, fun j k v e => ?_⟩ ⟨l1.trans l2.symm, fun j u y e => ?_⟩ (by rw [l2]; exact hz) fun h' tk dd keep => ?_
  · simp [l2]
  · obtain ⟨b, k2, e1, _, t, _⟩ := f j k v e
    have eb : ps.getD j 0 = b := by rw [List.getD_eq_getElem?_getD, e1]; rfl
    dsimp only
    rw [eb]
    refine ⟨by simp [e1], .inl ?_⟩
    obtain ⟨o, e2, c2, m, d2⟩ := t
    exact ⟨o, e2, c2, m, d2⟩
  · obtain ⟨b, k2, _, e2, _, is⟩ := f j u y e
    exact ⟨k2, e2, is⟩
  · have big : (s.heap.objs.size == sysModules) = false := beq_eq_false_iff_ne.mpr (Nat.ne_of_gt I.big)
    have len : (mergeK [] kvs).length ≤ sizeLine := by
      refine Nat.le_trans (length_mergeK kvs []) ?_
      rw [List.length_nil, Nat.zero_add, rel.length, l1]
      exact hz
    refine ⟨.ref s.heap.objs.size, _, I.laid (t' := tk) (fun b o e => keep b o (fun z => nomatch z) e) (Nat.le_refl _) (show ObjOk X.prog X.w _ _ _ (.dK (mergeK [] kvs)) from ⟨len, big, merged [] prs, KV.merge rel .nil, dd⟩), rfl, q _ (I.hok.fresh (Nat.le_refl _))⟩
end
/-! ### walks that the layer has no rule for -/
section
variable {K : PySem.W.Frag} {J : It} {n : Nat} {G : Hp → Prop} {Y : Nat → Hp → V → Hp → Prop}
theorem walk_zipT {a b : Addr} {xs ys : List V} (hl : xs.length = ys.length) : Walk (ItzT K a b) xs.length (fun H => SqT K H a xs ∧ SqT K H b ys) (YPair (fun i => xs[i]?) (fun i => ys[i]?)) := by
  refine ⟨fun i H hi q => ?_, fun H q => ⟨xs, ys, q.1, q.2, .inl (Nat.le_refl _)⟩, fun i H x H' hi q y => ?_⟩
  · exact ⟨xs, ys, _, _, q.1, q.2, List.getElem?_eq_getElem hi, List.getElem?_eq_getElem (by omega)⟩
  · obtain ⟨T, u, v, e, hT, eH, f1, f2⟩ := y
    exact ⟨T, u, v, e, hT, eH, f1 xs q.1, f2 ys q.2⟩
/-- a dict comprehension over any walk -/
theorem dc_it (wk : Walk J n G Y) {g : TG} {tt : TT} {tk tv : TE} {vs : List Nat} {σ : L2.St} {H1 : Hp} {D : Addr} {Qd : Hp → Prop} (Pv : Nat → Hp → Prop) (h0 : Pv 0 (upd H1 D (.dK []))) (hG : ∀ i H, i ≤ n → Pv i H → G H)
    (hs : ∀ i x H H', i < n → Pv i H → Y i H x H' → g x (wipe σ vs) H' fun σ2 H2 => wipe σ2 vs = wipe σ vs ∧ tt σ2 H2 fun b H3 =>
      if b = true then tk σ2 H3 fun y H4 => tv σ2 H4 fun z H5 => ∃ kvs k, y = kV k ∧ H5 D = some (.dK kvs) ∧ kvs.length < sizeLine ∧ Pv (i + 1) (upd H5 D (.dK (putK kvs k z))) else Pv (i + 1) H3) (hd : ∀ H, Pv n H → Qd H) :
    ∃ W : Nat → Nat → Hp → Prop, (∃ m, W 0 m (upd H1 D (.dK []))) ∧ ∀ i m H, W i m H →
      (J.stop i H ∧ Qd H) ∨ (J.go i H ∧ ∃ Nx : Hp → Prop, (∀ H', Nx H' → ∃ m', m' < m ∧ W (i + 1) m' H') ∧ ∀ x H', J.yld i H x H' → g x (wipe σ vs) H' fun σ2 H2 => wipe σ2 vs = wipe σ vs ∧ tt σ2 H2 fun b H3 =>
        if b = true then tk σ2 H3 fun y H4 => tv σ2 H4 fun z H5 => ∃ kvs k, y = kV k ∧ H5 D = some (.dK kvs) ∧ kvs.length < sizeLine ∧ Nx (upd H5 D (.dK (putK kvs k z))) else Nx H3) := by
  refine ⟨fun i m H => m = n - i ∧ i ≤ n ∧ Pv i H, ⟨n, rfl, Nat.zero_le _, h0⟩, fun i m H hw => ?_⟩
  obtain ⟨em, hi, p⟩ := hw
  have q := hG i H hi p
  rcases Nat.lt_or_eq_of_le hi with lt | eq
  · refine .inr ⟨wk.goes i H lt q, Pv (i + 1), fun H' p' => ⟨n - (i + 1), by omega, rfl, lt, p'⟩, fun x H' y => hs i x H H' lt p (wk.yields i H x H' lt q y)⟩
  · subst eq
    exact .inl ⟨wk.stops H q, hd H p⟩
end
end Ct

/-! Fractions in least terms as the rationals they are. -/
namespace Ct
open PySem PySem.Spec PyProof.Rows L2 TL
/-- a rational, as it lies in the heap -/
def RatAt (K : PySem.W.Frag) (H : Hp) (v : V) (r : Rat) : Prop := ∃ t, v = .ref t ∧ SqT K H t [.int r.num, .int (r.den : Int)]
theorem op_mulB {X : Cx} : OpR X (binaryOp .Mult) (rI IntMulOk fun i j => .int (i * j)) := opI fun _ _ _ _ _ _ _ c q => mul_int q c
/-- // by a divisor of fewer than 9000 bits -/
def CQuo (_ j : Int) : Prop := j ≠ 0 ∧ j.natAbs.log2 < 9000
theorem op_quo {X : Cx} : OpR X (binaryOp .FloorDiv) (rI CQuo fun i j => .int (i.fdiv j)) := opI fun _ _ _ _ _ _ _ c q => floordiv_int c.1 q (.inl (PyProof.noPylong_of_log2 c.2))
def gcdZ (a b : Int) : Int := ((Nat.gcd a.natAbs b.natAbs : Nat) : Int)
theorem gcdZ_pos {a b : Int} (hb : b ≠ 0) : 0 < gcdZ a b := by
  have : 0 < Nat.gcd a.natAbs b.natAbs := Nat.gcd_pos_of_pos_right _ (Int.natAbs_pos.mpr hb)
  unfold gcdZ
  omega
theorem gcdZ_left (a b : Int) : gcdZ a b ∣ a := Int.natAbs_dvd_natAbs.mp (show (gcdZ a b).natAbs ∣ a.natAbs from Nat.gcd_dvd_left _ _)
theorem gcdZ_right (a b : Int) : gcdZ a b ∣ b := Int.natAbs_dvd_natAbs.mp (show (gcdZ a b).natAbs ∣ b.natAbs from Nat.gcd_dvd_right _ _)
theorem gcd_swap (a b : Int) : ((Int.gcd b a : Nat) : Int) = gcdZ a b := by
  unfold gcdZ Int.gcd
  rw [Nat.gcd_comm]
theorem ratio_pos {a b : Int} (hb : 0 < b) : a.fdiv (gcdZ a b) = (Rat.divInt a b).num ∧ b.fdiv (gcdZ a b) = ((Rat.divInt a b).den : Int) := by
  have g0 := gcdZ_pos (a := a) (b := b) (by omega)
  rw [Int.fdiv_eq_ediv_of_nonneg _ (by omega), Int.fdiv_eq_ediv_of_nonneg _ (by omega), Rat.num_divInt, Rat.den_divInt, if_neg (by omega), Int.sign_eq_one_of_pos hb, Int.one_mul, gcd_swap]
  refine ⟨rfl, ?_⟩
  rw [Int.natCast_ediv, gcd_swap, Int.natAbs_of_nonneg (by omega)]
theorem ratio_neg {a b : Int} (hb : b < 0) : a.fdiv (-gcdZ a b) = (Rat.divInt a b).num ∧ b.fdiv (-gcdZ a b) = ((Rat.divInt a b).den : Int) := by
  have g0 := gcdZ_pos (a := a) (b := b) (by omega)
  have d1 := gcdZ_left a b
  have d2 := gcdZ_right a b
  rw [Int.fdiv_eq_ediv_of_dvd (Int.neg_dvd.mpr d1), Int.fdiv_eq_ediv_of_dvd (Int.neg_dvd.mpr d2), Rat.num_divInt, Rat.den_divInt, if_neg (by omega), Int.sign_eq_neg_one_of_neg hb, gcd_swap, Int.ediv_neg, Int.ediv_neg]
  refine ⟨?_, ?_⟩
  · rw [Int.neg_mul, Int.one_mul, Int.neg_ediv_of_dvd d1]
  · rw [Int.natCast_ediv, gcd_swap, ← Int.neg_ediv_of_dvd d2]
    congr 1
    omega
def FitR (n : Nat) (r : Rat) : Prop := r.num.natAbs < 2 ^ n ∧ r.den < 2 ^ n
theorem den_ne (r : Rat) : (r.den : Int) ≠ 0 := by
  have := r.den_pos
  omega
theorem rat_plus (r s : Rat) : r + s = Rat.divInt (r.num * s.den + s.num * r.den) (r.den * s.den) := by
  rw [← Rat.divInt_add_divInt _ _ (den_ne r) (den_ne s), Rat.num_divInt_den, Rat.num_divInt_den]
theorem rat_minus (r s : Rat) : r - s = Rat.divInt (r.num * s.den - s.num * r.den) (r.den * s.den) := by
  rw [← Rat.divInt_sub_divInt _ _ (den_ne r) (den_ne s), Rat.num_divInt_den, Rat.num_divInt_den]
theorem rat_times (r s : Rat) : r * s = Rat.divInt (r.num * s.num) (r.den * s.den) := by
  rw [← Rat.divInt_mul_divInt, Rat.num_divInt_den, Rat.num_divInt_den]
theorem mul_ok {a b : Int} (ha : a.natAbs < 2 ^ 4400) (hb : b.natAbs < 2 ^ 4400) : IntMulOk a b := IntMulOk.of_le (m := 4400) (n := 4400) (intBits_le_iff.mpr ha) (intBits_le_iff.mpr hb) (by decide)
theorem den_two {r s : Rat} (hr : FitR 4400 r) (hs : FitR 4400 s) : ((r.den : Int) * s.den).natAbs < 2 ^ 8999 := by
  have h1 : r.den * s.den < 2 ^ 4400 * 2 ^ 4400 := Nat.mul_lt_mul'' hr.2 hs.2
  have e : ((r.den : Int) * s.den).natAbs = r.den * s.den := by rw [Int.natAbs_mul, Int.natAbs_natCast, Int.natAbs_natCast]
  rw [e]
  refine Nat.lt_of_lt_of_le h1 ?_
  rw [← Nat.pow_add]
  exact Nat.pow_le_pow_right (by decide) (by decide)
theorem den_two_ne (r s : Rat) : (r.den : Int) * s.den ≠ 0 := Int.mul_ne_zero (den_ne r) (den_ne s)
theorem den_nat {n : Nat} {r : Rat} (h : FitR n r) : (r.den : Int).natAbs < 2 ^ n := by
  rw [Int.natAbs_natCast]
  exact h.2
theorem RatAt.same {K : PySem.W.Frag} {H H' : Hp} (s : Same H H') {v : V} {r : Rat} : RatAt K H v r → RatAt K H' v r := fun ⟨t, e, h⟩ => ⟨t, e, SqT.same s h⟩
theorem quo_ok {b g : Int} (g0 : g ≠ 0) (d : g ∣ b) (hb0 : b ≠ 0) (hb : b.natAbs < 2 ^ 8999) (a : Int) : CQuo a g := by
  refine ⟨g0, ?_⟩
  have h1 : g.natAbs ≤ b.natAbs := Nat.le_of_dvd (Int.natAbs_pos.mpr hb0) (Int.natAbs_dvd_natAbs.mpr d)
  have h2 := (Nat.log2_lt (Int.natAbs_ne_zero.mpr g0)).mpr (Nat.lt_of_le_of_lt h1 hb)
  omega
abbrev s_ratio : Stmt := top 16
abbrev N_ratio : List Str := ["top", "bottom", "shared"]
theorem sc_ratio : FnScope N_ratio ["top", "bottom"] (defScope s_ratio) := ⟨rfl, rfl, rfl, by decide +kernel, rfl, by decide +kernel, by decide +kernel⟩
abbrev s_plus : Stmt := top 17
abbrev N_plus : List Str := ["one", "other"]
theorem sc_plus : FnScope N_plus ["one", "other"] (defScope s_plus) := ⟨rfl, rfl, rfl, by decide +kernel, rfl, by decide +kernel, by decide +kernel⟩
abbrev s_minus : Stmt := top 18
abbrev N_minus : List Str := ["one", "other"]
theorem sc_minus : FnScope N_minus ["one", "other"] (defScope s_minus) := ⟨rfl, rfl, rfl, by decide +kernel, rfl, by decide +kernel, by decide +kernel⟩
abbrev s_times : Stmt := top 19
abbrev N_times : List Str := ["one", "other"]
theorem sc_times : FnScope N_times ["one", "other"] (defScope s_times) := ⟨rfl, rfl, rfl, by decide +kernel, rfl, by decide +kernel, by decide +kernel⟩
def spRatio (K : PySem.W.Frag) : Sp := fun vs H Q _ => ∃ a b : Int, vs = [.int a, .int b] ∧ b ≠ 0 ∧ b.natAbs < 2 ^ 8999 ∧ ∀ v' H', Same H H' → RatAt K H' v' (Rat.divInt a b) → Q v' H'
def spRat2 (K : PySem.W.Frag) (g : Rat → Rat → Rat) : Sp := fun vs H Q _ => ∃ (v u : V) (r s : Rat), vs = [v, u] ∧ RatAt K H v r ∧ RatAt K H u s ∧ FitR 4400 r ∧ FitR 4400 s ∧ ∀ v' H', Same H H' → RatAt K H' v' (g r s) → Q v' H'
section
variable {P : Program} {w : World} {K : PySem.W.Frag} {mg : Str → Option Value} {base : Heap}
theorem k_ratio (D : Lies K mg "ratio" s_ratio) (T : Plain mg) : Keeps P w K mg base 1 "ratio" ["top", "bottom"] (spRatio K) := by
  refine D.keeps sc_ratio (fun _ _ _ _ _ _ us hl => match us, hl with | [_, _], _ => rfl) (fun vs H Q E h => ?_) (fun f cdv A outer s H vs Q E hr h => ?_)
  · obtain ⟨a, b, rfl, _⟩ := h
    rfl
  · obtain ⟨a, b, rfl, hb, hz, k⟩ := h
    refine ⟨_, (pss_cons (ps_set (i := 2) sc_ratio.nd rfl (Or.inl rfl) (pe_callBfun cr_gcd rfl T.gcd (pa_cons (pv 0) (pa_cons (pv 1) pa_nil))))
      (pss_cons (ps_if (pt_cmpR op_lt (pv 1) pe_int (nomark _))
        (pss_one (ps_set (i := 2) sc_ratio.nd rfl (Or.inl rfl) (pe_un un_neg (pv 2))))
        pss_nil)
      (pss_one (ps_ret (pe_tup (pa_cons (pe_op op_quo (pv 0) (pv 2)) (pa_cons (pe_op op_quo (pv 1) (pv 2)) pa_nil))))))), ?_⟩
    have g0 := gcdZ_pos (a := a) hb
    refine ⟨_, rfl, _, rfl, a, b, rfl, ?_⟩
    refine ⟨_, rfl, _, _, rfl, rfl, _, rfl, ite2 (fun hn => ?_) (fun hn => ?_)⟩
    · have hn : b < 0 := of_decide_eq_true hn
      obtain ⟨e1, e2⟩ := ratio_neg (a := a) hn
      have cq := quo_ok (g := -gcdZ a b) (by omega) (Int.neg_dvd.mpr (gcdZ_right a b)) hb hz
      refine ⟨_, rfl, gcdZ a b, rfl, ?_⟩
      refine ⟨_, rfl, _, rfl, a, -gcdZ a b, rfl, rfl, cq _, _, rfl, _, rfl, b, -gcdZ a b, rfl, rfl, cq _, by show 2 ≤ sizeLine; decide, fun t nt => ?_⟩
      have z := k (.ref t) _ (same_upd (o := .tup [.int (Rat.divInt a b).num, .int ((Rat.divInt a b).den : Int)]) nt) ⟨t, rfl, SqT.of upd_same⟩
      rw [← e1, ← e2] at z
      exact z
    · have hn : ¬ b < 0 := fun z => hn (decide_eq_true z)
      obtain ⟨e1, e2⟩ := ratio_pos (a := a) (b := b) (by omega)
      have cq := quo_ok (g := gcdZ a b) (by omega) (gcdZ_right a b) hb hz
      refine ⟨_, rfl, _, rfl, a, gcdZ a b, rfl, rfl, cq _, _, rfl, _, rfl, b, gcdZ a b, rfl, rfl, cq _, by show 2 ≤ sizeLine; decide, fun t nt => ?_⟩
      have z := k (.ref t) _ (same_upd (o := .tup [.int (Rat.divInt a b).num, .int ((Rat.divInt a b).den : Int)]) nt) ⟨t, rfl, SqT.of upd_same⟩
      rw [← e1, ← e2] at z
      exact z
theorem k_plus (D : Lies K mg "plus" s_plus) (T : Plain mg) (G_ratio : Keeps P w K mg base 1 "ratio" ["top", "bottom"] (spRatio K)) : Keeps P w K mg base 2 "plus" ["one", "other"] (spRat2 K fun r s => r + s) := by
  refine D.keeps sc_plus (fun _ _ _ _ _ _ us hl => match us, hl with | [_, _], _ => rfl) (fun vs H Q E h => ?_) (fun f cdv A outer s0 H vs Q E hr h => ?_)
  · obtain ⟨v, u, r, s, rfl, _⟩ := h
    rfl
  · obtain ⟨v, u, r, s, rfl, ⟨t, rfl, ht⟩, ⟨x, rfl, hx⟩, fr, fs, k⟩ := h
    refine ⟨_, (pss_one (ps_ret (pe_go G_ratio (hr.mono (by decide)) rfl (pa_cons (pe_op op_add (pe_op op_mulB (pe_ix ix_tup (pv 0) pe_int (fun _ _ => rfl)) (pe_ix ix_tup (pv 1) pe_int (fun _ _ => rfl))) (pe_op op_mulB (pe_ix ix_tup (pv 1) pe_int (fun _ _ => rfl)) (pe_ix ix_tup (pv 0) pe_int (fun _ _ => rfl)))) (pa_cons (pe_op op_mulB (pe_ix ix_tup (pv 0) pe_int (fun _ _ => rfl)) (pe_ix ix_tup (pv 1) pe_int (fun _ _ => rfl))) pa_nil))))), ?_⟩
    refine ⟨_, rfl, t, _, _, _, rfl, rfl, ht, rfl, _, rfl, x, _, _, _, rfl, rfl, hx, rfl, _, _, rfl, rfl, mul_ok fr.1 (den_nat fs), _, rfl, x, _, _, _, rfl, rfl, hx, rfl, _, rfl, t, _, _, _, rfl, rfl, ht, rfl, _, _, rfl, rfl, mul_ok fs.1 (den_nat fr), _, _, rfl, rfl, _, rfl, t, _, _, _, rfl, rfl, ht, rfl, _, rfl, x, _, _, _, rfl, rfl, hx, rfl, _, _, rfl, rfl, mul_ok (den_nat fr) (den_nat fs), _, _, rfl, den_two_ne r s, den_two fr fs, fun v' H' s' hv => ?_⟩
    rw [← rat_plus] at hv
    exact k v' H' s' hv
theorem k_minus (D : Lies K mg "minus" s_minus) (T : Plain mg) (G_ratio : Keeps P w K mg base 1 "ratio" ["top", "bottom"] (spRatio K)) : Keeps P w K mg base 2 "minus" ["one", "other"] (spRat2 K fun r s => r - s) := by
  refine D.keeps sc_minus (fun _ _ _ _ _ _ us hl => match us, hl with | [_, _], _ => rfl) (fun vs H Q E h => ?_) (fun f cdv A outer s0 H vs Q E hr h => ?_)
  · obtain ⟨v, u, r, s, rfl, _⟩ := h
    rfl
  · obtain ⟨v, u, r, s, rfl, ⟨t, rfl, ht⟩, ⟨x, rfl, hx⟩, fr, fs, k⟩ := h
    refine ⟨_, (pss_one (ps_ret (pe_go G_ratio (hr.mono (by decide)) rfl (pa_cons (pe_op op_sub (pe_op op_mulB (pe_ix ix_tup (pv 0) pe_int (fun _ _ => rfl)) (pe_ix ix_tup (pv 1) pe_int (fun _ _ => rfl))) (pe_op op_mulB (pe_ix ix_tup (pv 1) pe_int (fun _ _ => rfl)) (pe_ix ix_tup (pv 0) pe_int (fun _ _ => rfl)))) (pa_cons (pe_op op_mulB (pe_ix ix_tup (pv 0) pe_int (fun _ _ => rfl)) (pe_ix ix_tup (pv 1) pe_int (fun _ _ => rfl))) pa_nil))))), ?_⟩
    refine ⟨_, rfl, t, _, _, _, rfl, rfl, ht, rfl, _, rfl, x, _, _, _, rfl, rfl, hx, rfl, _, _, rfl, rfl, mul_ok fr.1 (den_nat fs), _, rfl, x, _, _, _, rfl, rfl, hx, rfl, _, rfl, t, _, _, _, rfl, rfl, ht, rfl, _, _, rfl, rfl, mul_ok fs.1 (den_nat fr), _, _, rfl, rfl, _, rfl, t, _, _, _, rfl, rfl, ht, rfl, _, rfl, x, _, _, _, rfl, rfl, hx, rfl, _, _, rfl, rfl, mul_ok (den_nat fr) (den_nat fs), _, _, rfl, den_two_ne r s, den_two fr fs, fun v' H' s' hv => ?_⟩
    rw [← rat_minus] at hv
    exact k v' H' s' hv
theorem k_times (D : Lies K mg "times" s_times) (T : Plain mg) (G_ratio : Keeps P w K mg base 1 "ratio" ["top", "bottom"] (spRatio K)) : Keeps P w K mg base 2 "times" ["one", "other"] (spRat2 K fun r s => r * s) := by
  refine D.keeps sc_times (fun _ _ _ _ _ _ us hl => match us, hl with | [_, _], _ => rfl) (fun vs H Q E h => ?_) (fun f cdv A outer s0 H vs Q E hr h => ?_)
  · obtain ⟨v, u, r, s, rfl, _⟩ := h
    rfl
  · obtain ⟨v, u, r, s, rfl, ⟨t, rfl, ht⟩, ⟨x, rfl, hx⟩, fr, fs, k⟩ := h
    refine ⟨_, (pss_one (ps_ret (pe_go G_ratio (hr.mono (by decide)) rfl (pa_cons (pe_op op_mulB (pe_ix ix_tup (pv 0) pe_int (fun _ _ => rfl)) (pe_ix ix_tup (pv 1) pe_int (fun _ _ => rfl))) (pa_cons (pe_op op_mulB (pe_ix ix_tup (pv 0) pe_int (fun _ _ => rfl)) (pe_ix ix_tup (pv 1) pe_int (fun _ _ => rfl))) pa_nil))))), ?_⟩
    refine ⟨_, rfl, t, _, _, _, rfl, rfl, ht, rfl, _, rfl, x, _, _, _, rfl, rfl, hx, rfl, _, _, rfl, rfl, mul_ok fr.1 fs.1, _, rfl, t, _, _, _, rfl, rfl, ht, rfl, _, rfl, x, _, _, _, rfl, rfl, hx, rfl, _, _, rfl, rfl, mul_ok (den_nat fr) (den_nat fs), _, _, rfl, den_two_ne r s, den_two fr fs, fun v' H' s' hv => ?_⟩
    rw [← rat_times] at hv
    exact k v' H' s' hv
end
end Ct

/-! Rows of integers: the elimination's steps. -/
namespace Ct
open PySem PySem.Spec PyProof.Rows L2 TL
def IntV (v : V) (i : Int) : Prop := v = .int i
theorem ints_are {acc : List V} {ns : List Int} (h : Paired IntV acc ns) : acc = ns.map V.int := by
  induction h with
  | nil => rfl
  | cons r _ ih => rw [show _ = V.int _ from r, ih]; rfl
theorem ints_pair : ∀ ns : List Int, Paired IntV (ns.map V.int) ns
  | [] => .nil
  | _ :: r => .cons rfl (ints_pair r)
def RowAt (K : PySem.W.Frag) (H : Hp) (v : V) (ns : List Int) : Prop := ∃ a, v = .ref a ∧ SqL K H a (ns.map V.int)
theorem RowAt.same {K : PySem.W.Frag} {H H' : Hp} (s : Same H H') {v : V} {ns : List Int} : RowAt K H v ns → RowAt K H' v ns := fun ⟨a, e, h⟩ => ⟨a, e, Same.seq s h⟩
def gcdL (ns : List Int) : Int := ns.foldl gcdZ 0
def leastL (ns : List Int) : List Int := if gcdL ns < 2 then ns else ns.map fun i => i.fdiv (gcdL ns)
theorem gcdZ_nonneg (a b : Int) : 0 ≤ gcdZ a b := Int.natCast_nonneg _
theorem fold_nonneg : ∀ (ns : List Int) (g : Int), 0 ≤ g → 0 ≤ ns.foldl gcdZ g
  | [], _, h => h
  | n :: r, g, _ => fold_nonneg r _ (gcdZ_nonneg _ _)
theorem gcdZ_trans {c a b : Int} (h : c ∣ gcdZ a b) : c ∣ a ∧ c ∣ b := ⟨Int.dvd_trans h (gcdZ_left a b), Int.dvd_trans h (gcdZ_right a b)⟩
theorem fold_dvd : ∀ (ns : List Int) (g : Int), ns.foldl gcdZ g ∣ g ∧ ∀ n ∈ ns, ns.foldl gcdZ g ∣ n
  | [], g => ⟨Int.dvd_refl g, fun _ h => nomatch h⟩
  | n :: r, g => by
    have ih := fold_dvd r (gcdZ g n)
    have q := gcdZ_trans ih.1
    refine ⟨q.1, fun m hm => ?_⟩
    rcases List.mem_cons.mp hm with rfl | hm
    · exact q.2
    · exact ih.2 m hm
theorem gcdL_dvd {ns : List Int} {n : Int} (h : n ∈ ns) : gcdL ns ∣ n := (fold_dvd ns 0).2 n h
theorem fold_bound {B : Nat} : ∀ (ns : List Int) (g : Int), g.natAbs ≤ B → (∀ n ∈ ns, n.natAbs ≤ B) → (ns.foldl gcdZ g).natAbs ≤ B
  | [], _, h, _ => h
  | n :: r, g, h, hn => by
    refine fold_bound r _ ?_ fun m hm => hn m (List.mem_cons_of_mem _ hm)
    show (Nat.gcd g.natAbs n.natAbs) ≤ B
    by_cases z : g.natAbs = 0
    · rw [z, Nat.gcd_zero_left]
      exact hn n List.mem_cons_self
    · exact Nat.le_trans (Nat.gcd_le_left _ (Nat.pos_of_ne_zero z)) h
theorem take_next {α : Type} {l : List α} {i : Nat} {x : α} (h : l[i]? = some x) : l.take (i + 1) = l.take i ++ [x] := by
  rw [List.take_add_one, h]
  rfl
abbrev s_least : Stmt := top 40
abbrev N_least : List Str := ["row", "shared", "number"]
theorem sc_least : FnScope N_least ["row"] (defScope s_least) := ⟨rfl, rfl, rfl, by decide +kernel, rfl, by decide +kernel, by decide +kernel⟩
def Small (ns : List Int) : Prop := ∀ n ∈ ns, n.natAbs < 2 ^ 8999
def spLeast (K : PySem.W.Frag) : Sp := fun vs H Q _ => ∃ (v : V) (ns : List Int), vs = [v] ∧ RowAt K H v ns ∧ ns.length < 1000000 ∧ Small ns ∧ ∀ v' H', Same H H' → RowAt K H' v' (leastL ns) → Q v' H'
section
variable {P : Program} {w : World} {K : PySem.W.Frag} {mg : Str → Option Value} {base : Heap}
theorem k_least (D : Lies K mg "_least" s_least) (T : Plain mg) : Keeps P w K mg base 1 "_least" ["row"] (spLeast K) := by
  refine D.keeps sc_least (fun _ _ _ _ _ _ us hl => match us, hl with | [_], _ => rfl) (fun vs H Q E h => ?_) (fun f cdv A outer s H vs Q E hr h => ?_)
  · obtain ⟨v, ns, rfl, _⟩ := h
    rfl
  · obtain ⟨v, ns, rfl, ⟨a, rfl, hS⟩, few, small, k⟩ := h
    refine ⟨_, (pss_cons (ps_set (i := 1) sc_least.nd rfl (Or.inr rfl) pe_int)
      (pss_cons (ps_for PassesOwn.never rfl (pi_list (pv 0)) (pg_name (i := 2) sc_least.nd rfl (Or.inl rfl))
        (pss_one (ps_set (i := 1) sc_least.nd rfl (Or.inr rfl) (pe_callBfun cr_gcd rfl T.gcd (pa_cons (pv 1) (pa_cons (pv 2) pa_nil))))))
      (pss_cons (ps_if (pt_cmpR op_lt (pv 1) pe_int (nomark _))
        (pss_one (ps_ret (pv 0)))
        pss_nil)
      (pss_one (ps_ret (pe_lc (own := [("number", 2)]) (g := gName 2) (tt := tYes) rfl sc_least.nd (pi_list (pv 0)) (blkOk_by (N := N_least) (sc := defScope s_least) (by decide +kernel)) (fun _ _ _ _ _ => pg_name (i := 2) sc_least.nd rfl (Or.inl rfl)) (fun _ _ _ _ _ => pts_nil) (fun _ _ _ _ _ => by exact (pe_op op_quo (pv 2) (pv 1))))))))), ?_⟩
    refine ⟨_, rfl, a, rfl, ⟨_, hS⟩, for_list (xs := ns.map V.int) (fun i σ' H' => ∃ v2 : Option V, σ' = [some (.ref a), some (.int ((ns.take i).foldl gcdZ 0)), v2] ∧ H' = H) ⟨_, rfl, rfl⟩ (fun i σ' H' _ ⟨_, _, e⟩ => e ▸ hS) ?_ ?_⟩
    · rintro i x σ' H' hx ⟨v2, rfl, rfl⟩
      obtain ⟨n, hn, e⟩ := Paired.at (ints_pair ns) hx
      obtain rfl : x = .int n := e
      have e : (ns.take (i + 1)).foldl gcdZ 0 = gcdZ ((ns.take i).foldl gcdZ 0) n := by
        rw [take_next hn, List.foldl_append]
        rfl
      refine ⟨_, rfl, _, rfl, _, n, rfl, ⟨some (.int n), ?_, rfl⟩⟩
      rw [e]
      rfl
    · rintro σ' H' ⟨v2, rfl, rfl⟩
      have eg : (ns.take (ns.map V.int).length).foldl gcdZ 0 = gcdL ns := by rw [List.length_map, List.take_length]; rfl
      rw [eg]
      refine ⟨_, rfl, _, _, rfl, rfl, _, rfl, ite2 (fun h2 => ?_) (fun h2 => ?_)⟩
      · have h2 : gcdL ns < 2 := of_decide_eq_true h2
        refine ⟨_, rfl, k _ _ (Same.refl _) ⟨a, rfl, ?_⟩⟩
        unfold leastL
        rw [if_pos h2]
        exact hS
      · have h2 : ¬ gcdL ns < 2 := fun z => h2 (decide_eq_true z)
        have e2 : leastL ns = ns.map fun i => i.fdiv (gcdL ns) := if_neg h2
        have gb : (gcdL ns).natAbs.log2 < 9000 := by
          have b1 : (gcdL ns).natAbs ≤ 2 ^ 8999 - 1 := fold_bound ns 0 (Nat.zero_le _) fun n hn => Nat.le_sub_one_of_lt (small n hn)
          have n0 : (gcdL ns).natAbs ≠ 0 := by omega
          have b2 : (gcdL ns).natAbs < 2 ^ 8999 := Nat.lt_of_le_of_lt b1 (Nat.sub_lt (Nat.pow_pos (by decide)) (by decide))
          have := (Nat.log2_lt n0).mpr b2
          omega
        refine into_next ?_
        dsimp only
        refine into_ret (comp_pure (f := fun i : Int => i.fdiv (gcdL ns)) (R := IntV) (R' := fun _ => IntV) (fun R r => ⟨_, rfl, r⟩) hS (ints_pair ns) (by rw [List.length_map]; exact few) (fun _ _ _ h => h) (fun _ _ _ _ h => h) (fun x e H0 Z r he s0 hz => ?_) (fun H2 D acc hD s2 hL hp => ?_))
        · obtain rfl : x = .int e := r
          exact ⟨rfl, _, rfl, _, rfl, _, _, rfl, rfl, ⟨by omega, gb⟩, hz _ _ (Same.refl _) rfl⟩
        · have e := ints_are hp
          subst e
          refine k _ _ s2 ⟨D, rfl, ?_⟩
          rw [e2]
          exact SqL.of hL
end
structure Plain2 (mg : Str → Option Value) : Prop where
  n_zip : mg "zip" = none
  lcm : mg "lcm" = some (.builtin "math.lcm")
  n_sorted : mg "sorted" = none
abbrev s_without : Stmt := top 39
abbrev N_without : List Str := ["row", "pivot", "column", "own", "its", "number", "other"]
theorem sc_without : FnScope N_without ["row", "pivot", "column"] (defScope s_without) := ⟨rfl, rfl, rfl, by decide +kernel, rfl, by decide +kernel, by decide +kernel⟩
def crossL (own its : Int) (ns ps : List Int) : List Int := List.zipWith (fun n o => n * its - o * own) ns ps
def withoutL (own its : Int) (ns ps : List Int) : List Int := if own = 0 then ns else leastL (crossL own its ns ps)
def FitsI (ns : List Int) : Prop := ∀ n ∈ ns, n.natAbs < 2 ^ 4400
theorem big_two {a b c d : Int} (ha : a.natAbs < 2 ^ 4400) (hb : b.natAbs < 2 ^ 4400) (hc : c.natAbs < 2 ^ 4400) (hd : d.natAbs < 2 ^ 4400) : (a * b - c * d).natAbs < 2 ^ 8999 := by
  have h1 : a.natAbs * b.natAbs < 2 ^ 4400 * 2 ^ 4400 := Nat.mul_lt_mul'' ha hb
  have h2 : c.natAbs * d.natAbs < 2 ^ 4400 * 2 ^ 4400 := Nat.mul_lt_mul'' hc hd
  have e : (2 : Nat) ^ 4400 * 2 ^ 4400 = 2 ^ 8800 := by rw [← Nat.pow_add]
  rw [e] at h1 h2
  have h3 : (a * b - c * d).natAbs ≤ a.natAbs * b.natAbs + c.natAbs * d.natAbs := by
    rw [← Int.natAbs_mul, ← Int.natAbs_mul]
    exact Int.natAbs_sub_le _ _
  have h4 : (2 : Nat) ^ 8800 + 2 ^ 8800 ≤ 2 ^ 8999 := by
    have : (2 : Nat) ^ 8800 + 2 ^ 8800 = 2 ^ 8801 := by rw [Nat.pow_succ 2 8800]; omega
    rw [this]
    exact Nat.pow_le_pow_right (by decide) (by decide)
  omega
theorem cross_small {own its : Int} {ns ps : List Int} (ho : own.natAbs < 2 ^ 4400) (hi : its.natAbs < 2 ^ 4400) (hn : FitsI ns) (hp : FitsI ps) : Small (crossL own its ns ps) := by
  intro n h
  obtain ⟨x, y, hx, hy, rfl⟩ : ∃ x y, x ∈ ns ∧ y ∈ ps ∧ n = x * its - y * own := by
    unfold crossL at h
    obtain ⟨j, hj, e⟩ := List.mem_iff_getElem.mp h
    rw [List.getElem_zipWith] at e
    exact ⟨_, _, List.getElem_mem _, List.getElem_mem _, e.symm⟩
  exact big_two (hn x hx) hi (hp y hy) ho
theorem small_million {n : Nat} (h : n ≤ 1000000) : n < sizeLine := Nat.lt_of_le_of_lt h (by decide)
def spWithout (K : PySem.W.Frag) : Sp := fun vs H Q _ => ∃ (v u : V) (ns ps : List Int) (c : Nat) (own its : Int), vs = [v, u, .int c] ∧ RowAt K H v ns ∧ RowAt K H u ps ∧ ns[c]? = some own ∧ ps[c]? = some its ∧ ns.length < 1000000 ∧ FitsI ns ∧ FitsI ps ∧
  ∀ v' H', Same H H' → RowAt K H' v' (withoutL own its ns ps) → Q v' H'
theorem at_int {ns : List Int} {c : Nat} {i : Int} (h : ns[c]? = some i) : atI (ns.map V.int) (c : Int) = some (V.int i) := atI_nat (by rw [List.getElem?_map, h]; rfl)
section
variable {P : Program} {w : World} {K : PySem.W.Frag} {mg : Str → Option Value} {base : Heap}
theorem k_without (D : Lies K mg "without" s_without) (T : Plain mg) (T2 : Plain2 mg) (G_least : Keeps P w K mg base 1 "_least" ["row"] (spLeast K)) : Keeps P w K mg base 2 "without" ["row", "pivot", "column"] (spWithout K) := by
  refine D.keeps sc_without (fun _ _ _ _ _ _ us hl => match us, hl with | [_, _, _], _ => rfl) (fun vs H Q E h => ?_) (fun f cdv A outer s H vs Q E hr h => ?_)
  · obtain ⟨v, u, ns, ps, c, own, its, rfl, _⟩ := h
    rfl
  · obtain ⟨v, u, ns, ps, c, own, its, rfl, ⟨a, rfl, hS⟩, ⟨b, rfl, hP⟩, hn, hp, few, fn, fp, k⟩ := h
    refine ⟨_, (pss_cons (ps_asg (pe_tup (pa_cons (pe_ix ix_list (pv 0) (pv 2) (fun _ _ => rfl)) (pa_cons (pe_ix ix_list (pv 1) (pv 2) (fun _ _ => rfl)) pa_nil))) (pg_tup rfl (pgs_cons (pg_name (i := 3) sc_without.nd rfl (Or.inr rfl)) (pgs_cons (pg_name (i := 4) sc_without.nd rfl (Or.inr rfl)) pgs_nil))))
      (pss_cons (ps_if (pt_cmpR op_eq (pv 3) pe_int (nomark _))
        (pss_one (ps_ret (pv 0)))
        pss_nil)
      (pss_one (ps_ret (pe_go G_least (hr.mono (by decide)) rfl (pa_cons (pe_lc (own := [("number", 5), ("other", 6)]) (g := gTup K 2 (gCons (gName 5) (gCons (gName 6) gNil))) (tt := tYes) rfl sc_without.nd (pi_zip rfl T2.n_zip (pa_cons (pv 0) (pa_cons (pv 1) pa_nil))) (blkOk_by (N := N_without) (sc := defScope s_without) (by decide +kernel)) (fun _ _ _ _ _ => pg_tup rfl (pgs_cons (pg_name (i := 5) sc_without.nd rfl (Or.inl rfl)) (pgs_cons (pg_name (i := 6) sc_without.nd rfl (Or.inl rfl)) pgs_nil))) (fun _ _ _ _ _ => pts_nil) (fun _ _ _ _ _ => by exact (pe_op op_sub (pe_op op_mulB (pv 5) (pv 4)) (pe_op op_mulB (pv 6) (pv 3))))) pa_nil)))))), ?_⟩
    refine ⟨_, rfl, _, rfl, a, _, _, _, rfl, rfl, hS, at_int hn, _, rfl, _, rfl, b, _, _, _, rfl, rfl, hP, at_int hp, by show 2 ≤ sizeLine; decide, fun t nt => ?_⟩
    have s1 := same_upd (o := .tup [V.int own, V.int its]) nt
    refine ⟨t, _, rfl, SqT.of upd_same, rfl, _, _, rfl, _, _, rfl, rfl, ?_⟩
    have hS1 := Same.seq s1 hS
    have hP1 := Same.seq s1 hP
    generalize upd H t (.tup [V.int own, V.int its]) = H1 at *
    refine ⟨_, rfl, rfl, _, rfl, ite2 (fun h0 => ?_) (fun h0 => ?_)⟩
    · have h0 : own = 0 := V.int.inj (of_decide_eq_true h0)
      refine ⟨_, rfl, k _ _ s1 ⟨a, rfl, ?_⟩⟩
      unfold withoutL
      rw [if_pos h0]
      exact hS1
    · have h0 : own ≠ 0 := fun z => h0 (decide_eq_true (by rw [z]))
      have e2 : withoutL own its ns ps = leastL (crossL own its ns ps) := if_neg h0
      have ho := fn own (List.mem_of_getElem? hn)
      have hi' := fp its (List.mem_of_getElem? hp)
      have lc : (crossL own its ns ps).length = min (ns.map V.int).length (ps.map V.int).length := by
        unfold crossL
        rw [List.length_zipWith, List.length_map, List.length_map]
      refine into_next ?_
      dsimp only
      refine ⟨_, rfl, _, rfl, a, b, _, _, rfl, hS1, hP1, fun D nD => lc_it (walk_zip rfl) (fun i H' => H' D = some (.lst (((crossL own its ns ps).take i).map V.int)) ∧ Same H1 H') ⟨upd_same, same_upd nD⟩ (fun i H' _ ⟨_, s'⟩ => ⟨Same.seq s' hS1, Same.seq s' hP1⟩) ?_ ?_⟩
      · rintro i x H2 H3 hi ⟨hD, s2⟩ ⟨T', x', y', rfl, nT, rfl, ex, ey⟩
        obtain ⟨n, en, e⟩ := Paired.at (ints_pair ns) ex
        obtain rfl : x' = .int n := e
        obtain ⟨o, eo, e⟩ := Paired.at (ints_pair ps) ey
        obtain rfl : y' = .int o := e
        have ec : (crossL own its ns ps)[i]? = some (n * its - o * own) := by
          unfold crossL
          rw [List.getElem?_zipWith, en, eo]
        refine ⟨T', _, rfl, SqT.of upd_same, rfl, _, _, rfl, _, _, rfl, rfl, ?_⟩
        refine ⟨rfl, ?_⟩
        simp only [tYes, if_true]
        refine ⟨_, rfl, _, rfl, _, _, rfl, rfl, mul_ok (fn n (List.mem_of_getElem? en)) hi', _, rfl, _, rfl, _, _, rfl, rfl, mul_ok (fp o (List.mem_of_getElem? eo)) ho, _, _, rfl, rfl, ?_⟩
        have nTD : D ≠ T' := ne_of_none hD nT
        refine ⟨_, (upd_ne nTD).trans hD, ?_, ?_, ?_⟩
        · rw [List.length_map]
          refine small_million (Nat.le_trans (List.length_take_le _ _) ?_)
          rw [List.length_map] at hi
          omega
        · rw [take_next ec, List.map_append]
          exact upd_same
        · intro z y' hz
          rw [upd_ne (ne_of_none hz nD)]
          exact (same_upd nT) _ _ (s2 _ _ hz)
      · rintro H' ⟨hD, s2⟩
        rw [← lc, List.take_length] at hD
        refine ⟨.ref D, _, rfl, ⟨D, rfl, SqL.of hD⟩, ?_, cross_small ho hi' fn fp, fun v' H'' s3 hv => ?_⟩
        · rw [lc, List.length_map]
          omega
        · rw [← e2] at hv
          exact k v' H'' (s1.trans (s2.trans s3)) hv
end
end Ct

/-! The last step: rows led by one. -/
namespace Ct
open PySem PySem.Spec PyProof.Rows L2 TL
abbrev s_led_by_one : Stmt := top 41
abbrev N_led_by_one : List Str := ["row", "first", "number"]
theorem sc_led_by_one : FnScope N_led_by_one ["row"] (defScope s_led_by_one) := ⟨rfl, rfl, rfl, by decide +kernel, rfl, by decide +kernel, by decide +kernel⟩
theorem RatAt.list {K : PySem.W.Frag} {H : Hp} {D : Addr} {acc acc' : List V} (hD : H D = some (.lst acc)) {v : V} {r : Rat} : RatAt K H v r → RatAt K (upd H D (.lst acc')) v r := fun ⟨t, e, h⟩ => ⟨t, e, SqT.list hD h⟩
/-- a tuple of rationals -/
def RatsAt (K : PySem.W.Frag) (H : Hp) (v : V) (rs : List Rat) : Prop := ∃ a xs, v = .ref a ∧ SqT K H a xs ∧ Paired (RatAt K H) xs rs
def notNil (ns : List Int) : List Int := ns.filter fun n => decide (n ≠ 0)
theorem no_if {c : Bool} {A B : Prop} (hc : c = false) (h : B) : if c = true then A else B := by
  subst hc
  exact iteF h
theorem not_nil_zero (l : List Int) : notNil (l ++ [0]) = notNil l := by
  unfold notNil
  rw [List.filter_append]
  exact List.append_nil _
theorem not_nil_one {n : Int} (h : n ≠ 0) (l : List Int) : notNil (l ++ [n]) = notNil l ++ [n] := by
  unfold notNil
  rw [List.filter_append]
  congr 1
  exact List.filter_cons_of_pos (decide_eq_true h)
def ledL (first : Int) (ns : List Int) : List Rat := ns.map fun n => Rat.divInt n first
def spLed (K : PySem.W.Frag) : Sp := fun vs H Q _ => ∃ (v : V) (ns : List Int) (first : Int), vs = [v] ∧ RowAt K H v ns ∧ ns.length < 1000000 ∧ Small ns ∧ (notNil ns)[0]? = some first ∧ ∀ v' H', Same H H' → RatsAt K H' v' (ledL first ns) → Q v' H'
section
variable {P : Program} {w : World} {K : PySem.W.Frag} {mg : Str → Option Value} {base : Heap}
theorem k_led_by_one (D : Lies K mg "_led_by_one" s_led_by_one) (T : Plain mg) (G_ratio : Keeps P w K mg base 1 "ratio" ["top", "bottom"] (spRatio K)) : Keeps P w K mg base 2 "_led_by_one" ["row"] (spLed K) := by
  refine D.keeps sc_led_by_one (fun _ _ _ _ _ _ us hl => match us, hl with | [_], _ => rfl) (fun vs H Q E h => ?_) (fun f cdv A outer s H vs Q E hr h => ?_)
  · obtain ⟨v, ns, first, rfl, _⟩ := h
    rfl
  · obtain ⟨v, ns, first, rfl, ⟨a, rfl, hS⟩, few, small, hf, k⟩ := h
    have mf : first ∈ notNil ns := List.mem_of_getElem? hf
    have nf : first ≠ 0 := of_decide_eq_true (List.mem_filter.mp mf).2
    have bf := small first (List.mem_filter.mp mf).1
    refine ⟨_, (pss_cons (ps_set (i := 1) sc_led_by_one.nd rfl (Or.inr rfl) (pe_ix ix_list (pe_lc (own := [("number", 2)]) (g := gName 2) (tt := _) rfl sc_led_by_one.nd (pi_list (pv 0)) (blkOk_by (N := N_led_by_one) (sc := defScope s_led_by_one) (by decide +kernel)) (fun _ _ _ _ _ => pg_name (i := 2) sc_led_by_one.nd rfl (Or.inl rfl)) (fun _ _ _ _ _ => pts_one (pt_cmpR op_ne (pv 2) pe_int (nomark _))) (fun _ _ _ _ _ => by exact (pv 2))) pe_int (fun _ _ => rfl)))
      (pss_one (ps_ret (pe_callTy call_tuple_of (by rfl) T.n_tuple b_tuple (pa_cons (pe_lc (own := [("number", 2)]) (g := gName 2) (tt := tYes) rfl sc_led_by_one.nd (pi_list (pv 0)) (blkOk_by (N := N_led_by_one) (sc := defScope s_led_by_one) (by decide +kernel)) (fun _ _ _ _ _ => pg_name (i := 2) sc_led_by_one.nd rfl (Or.inl rfl)) (fun _ _ _ _ _ => pts_nil) (fun _ _ _ _ _ => by exact (pe_go G_ratio (hr.mono (by decide)) rfl (pa_cons (pv 2) (pa_cons (pv 1) pa_nil))))) pa_nil))))), ?_⟩
    refine ⟨_, rfl, a, rfl, ⟨_, hS⟩, fun D nD => lc_list (xs := ns.map V.int) (fun i H' => H' D = some (.lst ((notNil (ns.take i)).map V.int)) ∧ Same H H') ⟨upd_same, same_upd nD⟩ (fun i H' _ ⟨_, s'⟩ => Same.seq s' hS) ?_ ?_⟩
    · rintro i x H' hx ⟨hD, s'⟩
      obtain ⟨n, en, e⟩ := Paired.at (ints_pair ns) hx
      obtain rfl : x = .int n := e
      refine ⟨rfl, ?_⟩
      by_cases hz : n = 0
      · subst hz
        refine ⟨_, rfl, rfl, _, rfl, no_if rfl ⟨?_, s'⟩⟩
        rw [take_next en, not_nil_zero]
        exact hD
      · refine ⟨_, rfl, rfl, _, rfl, if_true_of' ?_ ⟨_, rfl, _, hD, ?_, ?_, ?_⟩⟩
        · rw [decide_eq_false fun z => hz (V.int.inj z)]
          rfl
        · rw [List.length_map]
          refine small_million (Nat.le_trans (List.length_filter_le _ _) (Nat.le_trans (List.length_take_le' _ _) (Nat.le_of_lt few)))
        · rw [take_next en, not_nil_one hz, List.map_append]
          exact upd_same
        · intro z y hz
          rw [upd_ne (ne_of_none hz nD)]
          exact s' _ _ hz
    · rintro H' ⟨hD, s'⟩
      rw [List.length_map, List.take_length] at hD
      have h0 : atI ((notNil ns).map V.int) ((0 : Nat) : Int) = some (V.int first) := at_int hf
      refine ⟨D, _, _, _, rfl, rfl, SqL.of hD, h0, ?_⟩
      dsimp only
      refine into_ret (into_cb (into_args1 (comp_pure (f := fun n : Int => Rat.divInt n first) (R := IntV) (R' := RatAt K) (fun R r => ⟨_, rfl, r⟩) (Same.seq s' hS) (ints_pair ns) (by rw [List.length_map]; exact few) (fun s _ _ h => h.same s) (fun _ hD _ _ h => h.list hD)
        (fun x e H0 Z r he s0 hz => ?_) (fun H2 D2 acc hD2 s2 hL hp => ?_))))
      · obtain rfl : x = .int e := r
        exact ⟨rfl, _, rfl, _, rfl, e, first, rfl, nf, bf, fun v' H3 s3 hv => hz _ _ s3 hv⟩
      · refine ⟨D2, acc, rfl, .inl ⟨SqL.of hL, fun l nl => ?_⟩⟩
        have s3 := same_upd (o := .tup acc) nl
        exact k _ _ (s'.trans (s2.trans s3)) ⟨l, acc, rfl, SqT.of upd_same, hp.mono fun _ _ h => h.same s3⟩
end
end Ct

/-! Rows of rationals cleared of their bottoms. -/
namespace Ct
open PySem PySem.Spec PyProof.Rows L2 TL
def rLcm : List V → Hp → VK → Prop := fun vs H Q => ∃ a b : Nat, vs = [.int a, .int b] ∧ a < 2 ^ 8999 ∧ b < 2 ^ 8999 ∧ Q (.int ((Nat.lcm a b : Nat) : Int)) H
theorem log_big {n m : Nat} (h : n < 2 ^ m) (hm : 0 < m) : n.log2 < m := by
  by_cases z : n = 0
  · subst z
    exact hm
  · exact (Nat.log2_lt z).mpr h
theorem cr_lcm {X : Cx} : CallR X (.builtin "math.lcm") rLcm := by
  intro pins s σ H vs us Q I r h
  obtain ⟨a, b, rfl, ha, hb, q⟩ := h
  obtain ⟨t, u, rfl⟩ := Vals.int2 r
  have e : (Nat.lcm 1 (a : Int).natAbs).lcm (b : Int).natAbs = Nat.lcm a b := by rw [Int.natAbs_natCast, Int.natAbs_natCast, Nat.lcm_one_left]
  have one : 1 < 2 ^ 8999 := Nat.lt_of_lt_of_le (by decide : 1 < 2 ^ 1) (Nat.pow_le_pow_right (by decide) (by decide))
  have h1 : (max 1 (a : Int).natAbs).log2 < 8999 := log_big (by rw [Int.natAbs_natCast]; exact Nat.max_lt.mpr ⟨one, ha⟩) (by decide)
  have h2 : (max (a : Int).natAbs (b : Int).natAbs).log2 < 8999 := log_big (by rw [Int.natAbs_natCast, Int.natAbs_natCast]; exact Nat.max_lt.mpr ⟨ha, hb⟩) (by decide)
  have h3 : ((((Nat.lcm 1 (a : Int).natAbs).lcm (b : Int).natAbs : Nat) : Int)).natAbs.log2 < bitsLine := by
    rw [Int.natAbs_natCast, e]
    have : Nat.lcm a b < 2 ^ 17998 := by
      have l : Nat.lcm a b ≤ a * b := Nat.div_le_self _ _
      have m : a * b < 2 ^ 8999 * 2 ^ 8999 := Nat.mul_lt_mul'' ha hb
      rw [← Nat.pow_add] at m
      exact Nat.lt_of_le_of_lt l m
    exact Nat.lt_trans (log_big this (by decide)) (by decide)
  refine call_function_meets PySem.W.MGF.kind_lcm PySem.W.MGF.plain_lcm PySem.W.MGF.entry_lcm (PySem.W.MGF.args_lcm _ _) (PySem.W.mg_run_lcm (a : Int) t (b : Int) u (by omega) (by omega) h3).meets ?_
  rw [e]
  exact ⟨.int _, H, I.tok _, ⟨_, rfl⟩, q⟩
theorem into_call {sp : Sp} {ds : List V} {E : XK} {t : TA} {σ : L2.St} {H : Hp} {Q : VK} (h : t σ H fun vs H1 => sp (vs ++ ds) H1 Q E) : tCall sp ds E t σ H Q := h
abbrev s_cleared : Stmt := top 38
abbrev N_cleared : List Str := ["row", "scale", "number", "top", "bottom"]
theorem sc_cleared : FnScope N_cleared ["row"] (defScope s_cleared) := ⟨rfl, rfl, rfl, by decide +kernel, rfl, by decide +kernel, by decide +kernel⟩
def lcmL (rs : List Rat) : Nat := rs.foldl (fun s r => Nat.lcm s r.den) 1
def liftL (s : Nat) (rs : List Rat) : List Int := rs.map fun r => r.num * ((s / r.den : Nat) : Int)
def clearedL (rs : List Rat) : List Int := leastL (liftL (lcmL rs) rs)
/-- a list of rationals -/
def RatLAt (K : PySem.W.Frag) (H : Hp) (v : V) (rs : List Rat) : Prop := ∃ a xs, v = .ref a ∧ SqL K H a xs ∧ Paired (RatAt K H) xs rs
theorem RatLAt.same {K : PySem.W.Frag} {H H' : Hp} (s : Same H H') {v : V} {rs : List Rat} : RatLAt K H v rs → RatLAt K H' v rs := fun ⟨a, xs, e, h, p⟩ => ⟨a, xs, e, Same.seq s h, p.mono fun _ _ h => h.same s⟩
def spCleared (K : PySem.W.Frag) : Sp := fun vs H Q _ => ∃ (v : V) (rs : List Rat), vs = [v] ∧ RatLAt K H v rs ∧ rs.length < 1000000 ∧ (∀ r ∈ rs, FitR 4400 r) ∧ (∀ i, lcmL (rs.take i) < 2 ^ 4400) ∧ ∀ v' H', Same H H' → RowAt K H' v' (clearedL rs) → Q v' H'
theorem small_of_fit {n : Nat} (h : n < 2 ^ 4400) : n < 2 ^ 8999 := Nat.lt_of_lt_of_le h (Nat.pow_le_pow_right (by decide) (by decide))
theorem lift_small {s : Nat} {rs : List Rat} (hs : s < 2 ^ 4400) (hr : ∀ r ∈ rs, FitR 4400 r) : Small (liftL s rs) := by
  intro n h
  obtain ⟨r, hm, rfl⟩ := List.mem_map.mp h
  have h1 : r.num.natAbs * (s / r.den) < 2 ^ 4400 * 2 ^ 4400 := Nat.mul_lt_mul'' (hr r hm).1 (Nat.lt_of_le_of_lt (Nat.div_le_self _ _) hs)
  rw [Int.natAbs_mul, Int.natAbs_natCast]
  refine Nat.lt_of_lt_of_le h1 ?_
  rw [← Nat.pow_add]
  exact Nat.pow_le_pow_right (by decide) (by decide)
section
variable {P : Program} {w : World} {K : PySem.W.Frag} {mg : Str → Option Value} {base : Heap}
theorem k_cleared (D : Lies K mg "cleared" s_cleared) (T : Plain mg) (T2 : Plain2 mg) (G_least : Keeps P w K mg base 1 "_least" ["row"] (spLeast K)) : Keeps P w K mg base 2 "cleared" ["row"] (spCleared K) := by
  refine D.keeps sc_cleared (fun _ _ _ _ _ _ us hl => match us, hl with | [_], _ => rfl) (fun vs H Q E h => ?_) (fun f cdv A outer s H vs Q E hr h => ?_)
  · obtain ⟨v, rs, rfl, _⟩ := h
    rfl
  · obtain ⟨v, rs, rfl, ⟨a, xs, rfl, hS, pr⟩, few, fit, fl, k⟩ := h
    have ln := pr.length
    refine ⟨_, (pss_cons (ps_set (i := 1) sc_cleared.nd rfl (Or.inr rfl) pe_int)
      (pss_cons (ps_for PassesOwn.never rfl (pi_list (pv 0)) (pg_name (i := 2) sc_cleared.nd rfl (Or.inl rfl))
        (pss_one (ps_set (i := 1) sc_cleared.nd rfl (Or.inr rfl) (pe_callBfun cr_lcm rfl T2.lcm (pa_cons (pv 1) (pa_cons (pe_ix ix_tup (pv 2) pe_int (fun _ _ => rfl)) pa_nil))))))
      (pss_one (ps_ret (pe_go G_least (hr.mono (by decide)) rfl (pa_cons (pe_lc (own := [("top", 3), ("bottom", 4)]) (g := gTup K 2 (gCons (gName 3) (gCons (gName 4) gNil))) (tt := tYes) rfl sc_cleared.nd (pi_list (pv 0)) (blkOk_by (N := N_cleared) (sc := defScope s_cleared) (by decide +kernel)) (fun _ _ _ _ _ => pg_tup rfl (pgs_cons (pg_name (i := 3) sc_cleared.nd rfl (Or.inl rfl)) (pgs_cons (pg_name (i := 4) sc_cleared.nd rfl (Or.inl rfl)) pgs_nil))) (fun _ _ _ _ _ => pts_nil) (fun _ _ _ _ _ => by exact (pe_op op_mulB (pv 3) (pe_op op_quo (pv 1) (pv 4))))) pa_nil)))))), ?_⟩
    refine ⟨_, rfl, a, rfl, ⟨_, hS⟩, for_list (xs := xs) (fun i σ' H' => ∃ v2 v3 v4 : Option V, σ' = [some (.ref a), some (.int ((lcmL (rs.take i) : Nat) : Int)), v2, v3, v4] ∧ H' = H) ⟨_, _, _, rfl, rfl⟩ (fun i σ' H' _ ⟨_, _, _, _, e⟩ => e ▸ hS) ?_ ?_⟩
    · rintro i x σ' H' hx ⟨v2, v3, v4, rfl, rfl⟩
      obtain ⟨r, er, t, rfl, ht⟩ := Paired.at pr hx
      have e : lcmL (rs.take (i + 1)) = Nat.lcm (lcmL (rs.take i)) r.den := by
        unfold lcmL
        rw [take_next er, List.foldl_append]
        rfl
      refine ⟨_, rfl, _, rfl, t, _, _, _, rfl, rfl, ht, rfl, lcmL (rs.take i), r.den, rfl, small_of_fit (fl i), small_of_fit (fit r (List.mem_of_getElem? er)).2, ⟨some (.ref t), v3, v4, ?_, rfl⟩⟩
      rw [e]
      rfl
    · rintro σ' H' ⟨v2, v3, v4, rfl, rfl⟩
      have el : rs.take xs.length = rs := by rw [ln, List.take_length]
      rw [el]
      have fs : lcmL rs < 2 ^ 4400 := by
        have := fl rs.length
        rw [List.take_length] at this
        exact this
      dsimp only
      refine into_ret (into_call (into_args1 (comp_pure (f := fun r : Rat => r.num * ((lcmL rs / r.den : Nat) : Int)) (R := RatAt K H') (R' := fun _ => IntV) (fun R r => ⟨_, rfl, r⟩) hS pr (by rw [ln]; exact few) (fun _ _ _ h => h) (fun _ _ _ _ h => h)
        (fun x r H0 Z hr0 hm s0 hz => ?_) (fun H2 D acc hD s2 hL hp => ?_))))
      · obtain ⟨t, rfl, ht⟩ := hr0
        have dp := r.den_pos
        have e : ((lcmL rs : Nat) : Int).fdiv (r.den : Int) = ((lcmL rs / r.den : Nat) : Int) := by
          rw [Int.fdiv_eq_ediv_of_nonneg _ (by omega), Int.natCast_ediv]
        have dq : (r.den : Int).natAbs.log2 < 9000 := by
          rw [Int.natAbs_natCast]
          exact Nat.lt_trans (log_big (fit r hm).2 (by decide)) (by decide)
        have bq : ((lcmL rs / r.den : Nat) : Int).natAbs < 2 ^ 4400 := by
          rw [Int.natAbs_natCast]
          exact Nat.lt_of_le_of_lt (Nat.div_le_self _ _) fs
        refine ⟨t, _, rfl, SqT.same s0 ht, rfl, _, _, rfl, _, _, rfl, ⟨rfl, rfl, ?_⟩⟩
        refine ⟨_, rfl, _, rfl, _, rfl, _, _, rfl, rfl, ⟨den_ne r, dq⟩, _, _, rfl, rfl, ?_, hz _ _ (Same.refl _) ?_⟩
        · show IntMulOk r.num (((lcmL rs : Nat) : Int).fdiv (r.den : Int))
          rw [e]
          exact mul_ok (fit r hm).1 bq
        · show V.int (r.num * (((lcmL rs : Nat) : Int).fdiv (r.den : Int))) = V.int _
          rw [e]
      · have ea := ints_are hp
        subst ea
        refine ⟨.ref D, liftL (lcmL rs) rs, rfl, ⟨D, rfl, SqL.of hL⟩, ?_, lift_small fs fit, fun v' H3 s3 hv => k v' H3 (s2.trans s3) hv⟩
        unfold liftL
        rw [List.length_map]
        exact few
end
end Ct

/-! The plain rows of a list of rows. -/
namespace Ct
open PySem PySem.Spec PyProof.Rows L2 TL
def idx (row : List Int) (c : Nat) : Int := (row[c]?).getD 0
def wo (p : List Int) (c : Nat) (r : List Int) : List Int := withoutL (idx r c) (idx p c) r p
abbrev Rowss := List (List Int)
def leadL (c : Nat) (rows : Rowss) : Rowss := rows.filter fun r => decide (idx r c ≠ 0)
def stepL (c : Nat) (st : Rowss × Rowss) : Rowss × Rowss := match leadL c st.1 with
  | [] => st
  | p :: _ => (st.1.map (wo p c), st.2.map (wo p c) ++ [p])
def elimL (n : Nat) (rows : Rowss) : Rowss × Rowss := (List.range n).foldl (fun st c => stepL c st) (rows, [])
theorem elim_next (n : Nat) (rows : Rowss) : elimL (n + 1) rows = stepL n (elimL n rows) := by
  unfold elimL
  rw [List.range_succ, List.foldl_append]
  rfl
theorem lead_zero {c : Nat} {r : List Int} (h : idx r c = 0) (l : Rowss) : leadL c (l ++ [r]) = leadL c l := by
  unfold leadL
  rw [List.filter_append, List.filter_cons_of_neg (by simp [h])]
  exact List.append_nil _
theorem lead_one {c : Nat} {r : List Int} (h : idx r c ≠ 0) (l : Rowss) : leadL c (l ++ [r]) = leadL c l ++ [r] := by
  unfold leadL
  rw [List.filter_append]
  congr 1
  exact List.filter_cons_of_pos (p := fun r => decide (idx r c ≠ 0)) (decide_eq_true h)
def firstL (r : List Int) : Int := ((notNil r)[0]?).getD 0
def plainOf (st : Rowss) : List (List Rat) := st.map fun r => ledL (firstL r) r
/-- a row with at least one number -/
def RowN (K : PySem.W.Frag) (H : Hp) (v : V) (ns : List Int) : Prop := RowAt K H v ns ∧ ns ≠ []
theorem RowN.same {K : PySem.W.Frag} {H H' : Hp} (s : Same H H') {v : V} {ns : List Int} (h : RowN K H v ns) : RowN K H' v ns := ⟨h.1.same s, h.2⟩
theorem RowN.list {K : PySem.W.Frag} {H : Hp} {D : Addr} {acc acc' : List V} (hD : H D = some (.lst acc)) (refs : ∀ x ∈ acc, ∃ b, x = V.ref b) {v : V} {ns : List Int} : RowN K H v ns → RowN K (upd H D (.lst acc')) v ns := fun ⟨⟨a, e, h⟩, n⟩ => ⟨⟨a, e, by
  by_cases na : a = D
  · subst na
    rcases h with (h | ⟨o, h⟩) | h
    · rw [hD] at h
      cases h
      obtain ⟨x, r, rfl⟩ := List.exists_cons_of_ne_nil n
      obtain ⟨b, e⟩ := refs (V.int x) (by rw [List.map_cons]; exact List.mem_cons_self)
      cases e
    · rw [hD] at h
      cases h
    · exact .inr h
  · rcases h with (h | ⟨o, h⟩) | h
    · exact .inl (.inl ((upd_ne na).trans h))
    · exact .inl (.inr ⟨o, (upd_ne na).trans h⟩)
    · exact .inr h⟩, n⟩
theorem row_refs {K : PySem.W.Frag} {H : Hp} {acc : List V} {rows : Rowss} (h : Paired (RowN K H) acc rows) : ∀ x ∈ acc, ∃ b, x = V.ref b := by
  induction h with
  | nil => exact fun _ h => nomatch h
  | cons r _ ih =>
    intro x hx
    rcases List.mem_cons.mp hx with rfl | hx
    · obtain ⟨⟨a, e, _⟩, _⟩ := r
      exact ⟨a, e⟩
    · exact ih x hx
/-- a comprehension whose items are rows -/
theorem comp_rows {β : Type} {K : PySem.W.Frag} {a : Addr} {xs : List V} {es : List β} {R : V → β → Prop} {f : β → List Int} {tl : TE} {g : TG} {te : TE} {vs : List Nat} {σ : L2.St} {H H1 : Hp} {Q : VK}
    (hl : ∀ R : VK, R (.ref a) H1 → tl σ H R) (hS : SqL K H1 a xs) (pr : Paired R xs es) (hz : xs.length < 1000000)
    (turn : ∀ x e H (Z : VK), R x e → e ∈ es → Same H1 H → (∀ y H4, Same H H4 → RowN K H4 y (f e) → Z y H4) → g x (wipe σ vs) H fun σ2 H2 => wipe σ2 vs = wipe σ vs ∧ te σ2 H2 Z)
    (hd : ∀ H' D acc, H1 D = none → Same H1 H' → H' D = some (.lst acc) → Paired (RowN K H') acc (es.map f) → Q (.ref D) H') : tLc (iList K tl) g tYes te vs σ H Q := by
  refine hl _ ⟨a, rfl, ⟨_, hS⟩, fun D hD => lc_list (xs := xs) (fun i H' => ∃ acc, H' D = some (.lst acc) ∧ Paired (RowN K H') acc ((es.take i).map f) ∧ Same H1 H') ⟨[], upd_same, .nil, same_upd hD⟩
    (fun i H' _ ⟨_, _, _, s⟩ => Same.seq s hS) (fun i x H' hx ⟨acc, h1, h2, s⟩ => ?_) fun H' ⟨acc, h1, h2, s⟩ => ?_⟩
  · obtain ⟨e, he, r⟩ := Paired.at pr hx
    simp only [tYes, if_true]
    refine turn x e H' _ r (List.mem_of_getElem? he) s (fun y H4 s4 r4 => ⟨acc, s4 _ _ h1, ?_, acc ++ [y], upd_same, ?_, ?_⟩)
    · have l1 := h2.length
      have l2 := pr.length
      have l3 := (List.getElem?_eq_some_iff.mp hx).1
      rw [List.length_map, List.length_take] at l1
      show acc.length < 16777216
      omega
    · rw [take_snoc he, List.map_append]
      have rf := row_refs h2
      exact (h2.mono fun v c q => (q.same s4).list (s4 _ _ h1) rf).snoc (r4.list (s4 _ _ h1) rf)
    · exact fun b o z => by
        have nb : b ≠ D := ne_of_none z hD
        rw [upd_ne nb]
        exact s4 _ _ (s _ _ z)
  · rw [show es.take xs.length = es by rw [pr.length, List.take_length]] at h2
    exact hd H' D acc hD s h1 h2
/-- rows of integers in a list -/
def RowsAt (K : PySem.W.Frag) (H : Hp) (v : V) (rows : Rowss) : Prop := ∃ a xs, v = .ref a ∧ SqL K H a xs ∧ Paired (RowN K H) xs rows
theorem RowsAt.same {K : PySem.W.Frag} {H H' : Hp} (s : Same H H') {v : V} {rows : Rowss} : RowsAt K H v rows → RowsAt K H' v rows := fun ⟨a, xs, e, h, p⟩ => ⟨a, xs, e, Same.seq s h, p.mono fun _ _ h => h.same s⟩
def Wide (wd : Nat) (rows : Rowss) : Prop := ∀ r ∈ rows, r.length = wd ∧ FitsI r
theorem into_asg {te : TE} {g : TG} {D : Ends} {σ : L2.St} {H : Hp} (h : te σ H fun x H1 => g x σ H1 D.nx) : tAsg te g D σ H := h
theorem into_op {r : R2} {ta tb : TE} {σ : L2.St} {H : Hp} {Q : VK} (h : ta σ H fun x H1 => tb σ H1 fun y H2 => r x y H2 Q) : tOp r ta tb σ H Q := h
theorem into_lst0 {g : TG} {r : TS} {D : Ends} {σ : L2.St} {H : Hp} (h : ∀ p, H p = none → g (.ref p) σ (upd H p (.lst [])) (r D)) : tSeq (tAsg (tLst tNil) g) r D σ H := ⟨by show 0 ≤ sizeLine; decide, fun p n => h p n⟩
abbrev s_plain_rows : Stmt := top 35
abbrev N_plain_rows : List Str := ["rows", "waiting", "row", "width", "done", "column", "leading", "pivot"]
theorem sc_plain_rows : FnScope N_plain_rows ["rows"] (defScope s_plain_rows) := ⟨rfl, rfl, rfl, by decide +kernel, rfl, by decide +kernel, by decide +kernel⟩
theorem RatsAt.same {K : PySem.W.Frag} {H H' : Hp} (s : Same H H') {v : V} {rs : List Rat} : RatsAt K H v rs → RatsAt K H' v rs := fun ⟨a, xs, e, h, p⟩ => ⟨a, xs, e, SqT.same s h, p.mono fun _ _ h => h.same s⟩
theorem RatsAt.list {K : PySem.W.Frag} {H : Hp} {D : Addr} {acc acc' : List V} (hD : H D = some (.lst acc)) {v : V} {rs : List Rat} : RatsAt K H v rs → RatsAt K (upd H D (.lst acc')) v rs := fun ⟨a, xs, e, h, p⟩ => ⟨a, xs, e, SqT.list hD h, p.mono fun _ _ h => h.list hD⟩
def ClearOk (rs : List Rat) : Prop := rs.length < 1000000 ∧ (∀ r ∈ rs, FitR 4400 r) ∧ ∀ i, lcmL (rs.take i) < 2 ^ 4400
/-- a tuple of tuples of rationals -/
def RatssAt (K : PySem.W.Frag) (H : Hp) (v : V) (rows : List (List Rat)) : Prop := ∃ a xs, v = .ref a ∧ SqT K H a xs ∧ Paired (RatsAt K H) xs rows
/-- all that the elimination of these rows comes across -/
structure ElimOk (wd : Nat) (rows : Rowss) : Prop where
  few : rows.length < 1000000
  pos : 0 < wd
  wide : wd < 1000000
  state : ∀ n, n ≤ wd → Wide wd (elimL n rows).1 ∧ Wide wd (elimL n rows).2 ∧ (elimL n rows).1.length < 1000000 ∧ (elimL n rows).2.length < 1000000
  led : ∀ r ∈ (elimL wd rows).2, firstL r ≠ 0
def spPlain (K : PySem.W.Frag) : Sp := fun vs H Q _ => ∃ (a : Addr) (xs : List V) (rs : List (List Rat)) (wd : Nat), vs = [.ref a] ∧ SqL K H a xs ∧ Paired (RatLAt K H) xs rs ∧ (∀ r ∈ rs, ClearOk r) ∧ (rs = [] ∧ wd = 0 ∨ rs ≠ [] ∧ ElimOk wd (rs.map clearedL)) ∧
  ∀ v' H', Same H H' → RatssAt K H' v' (plainOf (elimL wd (rs.map clearedL)).2) → Q v' H'
section
variable {P : Program} {w : World} {K : PySem.W.Frag} {mg : Str → Option Value} {base : Heap}
theorem k_plain_rows (D : Lies K mg "plain_rows" s_plain_rows) (T : Plain mg) (G_cleared : Keeps P w K mg base 2 "cleared" ["row"] (spCleared K)) (G_without : Keeps P w K mg base 2 "without" ["row", "pivot", "column"] (spWithout K))
    (G_led_by_one : Keeps P w K mg base 2 "_led_by_one" ["row"] (spLed K)) : Keeps P w K mg base 3 "plain_rows" ["rows"] (spPlain K) := by
  refine D.keeps sc_plain_rows (fun _ _ _ _ _ _ us hl => match us, hl with | [_], _ => rfl) (fun vs H Q E h => ?_) (fun f cdv A outer s H vs Q E hr h => ?_)
  · obtain ⟨a, xs, rs, wd, rfl, _⟩ := h
    rfl
  · obtain ⟨a, xs, rs, wd, rfl, hS, pr, cok, how, k⟩ := h
    rcases how with ⟨rfl, rfl⟩ | ⟨ne, eok⟩
    · cases pr
      refine ⟨_, (pss_cons (ps_setLc (i := 1) (own := [("row", 2)]) (g := gName 2) (tt := tYes) rfl sc_plain_rows.nd rfl rfl (sw_true rfl rfl rfl (by decide +kernel)) (pi_list (pv 0)) (blkOk_by (N := N_plain_rows) (sc := defScope s_plain_rows) (by decide +kernel)) (fun _ _ _ _ _ => pg_name (i := 2) sc_plain_rows.nd rfl (Or.inl rfl)) (fun _ _ _ _ _ => pts_nil) (fun _ _ _ _ _ => by exact (pe_go G_cleared (hr.mono (by decide)) rfl (pa_cons (pv 2) pa_nil))))
      (pss_cons (ps_set (i := 3) sc_plain_rows.nd rfl (Or.inl rfl) (pe_ifExp (pt_truth (pv 1) (by intro _; rfl)) (pe_callB call_len_seq (by rfl) T.n_len b_len (pa_cons (pe_ix ix_list (pv 1) pe_int (fun _ _ => rfl)) pa_nil)) pe_int))
      (pss_cons (ps_set (i := 4) sc_plain_rows.nd rfl (Or.inl rfl) (pe_lst pa_nil))
      (pss_cons (ps_for PassesOwn.never rfl (pi_range1 rfl T.n_range (pa_cons (pv 3) pa_nil)) (pg_name (i := 5) sc_plain_rows.nd rfl (Or.inr rfl))
        (pss_cons (ps_setLc (i := 6) (own := [("row", 2)]) (g := gName 2) (tt := _) rfl sc_plain_rows.nd rfl rfl (sw_true rfl rfl rfl (by decide +kernel)) (pi_list (pv 1)) (blkOk_by (N := N_plain_rows) (sc := defScope s_plain_rows) (by decide +kernel)) (fun _ _ _ _ _ => pg_name (i := 2) sc_plain_rows.nd rfl (Or.inl rfl)) (fun _ _ _ _ _ => pts_one (pt_cmpR op_ne (pe_ix (ix_listK (K := K) rfl) (pv 2) (pv 5) (fun _ _ => rfl)) pe_int (nomark _))) (fun _ _ _ _ _ => by exact (pv 2)))
        (pss_one (ps_if (pt_truth (pv 6) (by intro _; rfl))
          (pss_cons (ps_set (i := 7) sc_plain_rows.nd rfl (Or.inr rfl) (pe_ix ix_list (pv 6) pe_int (fun _ _ => rfl)))
          (pss_cons (ps_setLc (i := 1) (own := [("row", 2)]) (g := gName 2) (tt := tYes) rfl sc_plain_rows.nd rfl rfl (sw_true rfl rfl rfl (by decide +kernel)) (pi_list (pv 1)) (blkOk_by (N := N_plain_rows) (sc := defScope s_plain_rows) (by decide +kernel)) (fun _ _ _ _ _ => pg_name (i := 2) sc_plain_rows.nd rfl (Or.inl rfl)) (fun _ _ _ _ _ => pts_nil) (fun _ _ _ _ _ => by exact (pe_go G_without (hr.mono (by decide)) rfl (pa_cons (pv 2) (pa_cons (pv 7) (pa_cons (pv 5) pa_nil))))))
          (pss_one (ps_set (i := 4) sc_plain_rows.nd rfl (Or.inl rfl) (pe_op op_cat (pe_lc (own := [("row", 2)]) (g := gName 2) (tt := tYes) rfl sc_plain_rows.nd (pi_list (pv 4)) (blkOk_by (N := N_plain_rows) (sc := defScope s_plain_rows) (by decide +kernel)) (fun _ _ _ _ _ => pg_name (i := 2) sc_plain_rows.nd rfl (Or.inl rfl)) (fun _ _ _ _ _ => pts_nil) (fun _ _ _ _ _ => by exact (pe_go G_without (hr.mono (by decide)) rfl (pa_cons (pv 2) (pa_cons (pv 7) (pa_cons (pv 5) pa_nil)))))) (pe_lst (pa_cons (pv 7) pa_nil)))))))
          pss_nil))))
      (pss_one (ps_ret (pe_callTy call_tuple_of (by rfl) T.n_tuple b_tuple (pa_cons (pe_lc (own := [("row", 2)]) (g := gName 2) (tt := tYes) rfl sc_plain_rows.nd (pi_list (pv 4)) (blkOk_by (N := N_plain_rows) (sc := defScope s_plain_rows) (by decide +kernel)) (fun _ _ _ _ _ => pg_name (i := 2) sc_plain_rows.nd rfl (Or.inl rfl)) (fun _ _ _ _ _ => pts_nil) (fun _ _ _ _ _ => by exact (pe_go G_led_by_one (hr.mono (by decide)) rfl (pa_cons (pv 2) pa_nil)))) pa_nil)))))))), ?_⟩
      refine into_set (comp_rows (f := clearedL) (R := RatLAt K H) (fun R r => ⟨_, rfl, r⟩) hS (.nil) (by decide) (fun x r H0 Z hr0 hm s0 hz => nomatch hm) (fun H2 D2 acc hD2 s2 hL hp => ?_))
      have ea : acc = [] := List.eq_nil_of_length_eq_zero (by rw [hp.length]; rfl)
      subst ea
      refine into_name ?_
      refine ⟨_, rfl, false, .inl ⟨_, SqL.of hL, rfl⟩, iteF ?_⟩
      refine into_name ?_
      dsimp only
      refine into_lst0 fun d0 nd0 => ?_
      have s3 := same_upd (o := .lst []) nd0
      refine ⟨_, rfl, _, rfl, by decide, by decide, ?_⟩
      refine for_range (lo := 0) (n := (0 : Int).toNat) (fun i σ' H' => σ' = [some (.ref a), some (.ref D2), none, some (.int 0), some (.ref d0), none, none, none] ∧ Same H H' ∧ H' d0 = some (.lst [])) ⟨rfl, s2.trans s3, upd_same⟩ (fun i σ' H' hi _ => absurd hi (Nat.not_lt_zero i)) ?_
      rintro σ' H' ⟨rfl, sH, hd⟩
      dsimp only
      refine into_ret (into_cb (into_args1 (comp_pure (f := fun r : List Int => ledL (firstL r) r) (R := RowN K H') (R' := RatsAt K) (fun R r => ⟨_, rfl, r⟩) (SqL.of hd) (.nil) (by decide) (fun s _ _ h => h.same s) (fun _ hD _ _ h => h.list hD)
        (fun x r H0 Z hr0 hm s0 hz => nomatch hm) (fun H9 D9 acc10 hD9 s9 hL9 p9 => ?_))))
      refine ⟨D9, acc10, rfl, .inl ⟨SqL.of hL9, fun l nl => ?_⟩⟩
      have s10 := same_upd (o := .tup acc10) nl
      exact k _ _ (sH.trans (s9.trans s10)) ⟨l, acc10, rfl, SqT.of upd_same, p9.mono fun _ _ h => h.same s10⟩
    have st0 := eok.state 0 (Nat.zero_le _)
    have w0 : Wide wd (rs.map clearedL) := st0.1
    have full : ∀ {n : Nat} {r : List Int}, r.length = wd → r ≠ [] := fun e z => by
      rw [z] at e
      have := eok.pos
      simp at e
      omega
    refine ⟨_, (pss_cons (ps_setLc (i := 1) (own := [("row", 2)]) (g := gName 2) (tt := tYes) rfl sc_plain_rows.nd rfl rfl (sw_true rfl rfl rfl (by decide +kernel)) (pi_list (pv 0)) (blkOk_by (N := N_plain_rows) (sc := defScope s_plain_rows) (by decide +kernel)) (fun _ _ _ _ _ => pg_name (i := 2) sc_plain_rows.nd rfl (Or.inl rfl)) (fun _ _ _ _ _ => pts_nil) (fun _ _ _ _ _ => by exact (pe_go G_cleared (hr.mono (by decide)) rfl (pa_cons (pv 2) pa_nil))))
      (pss_cons (ps_set (i := 3) sc_plain_rows.nd rfl (Or.inl rfl) (pe_ifExp (pt_truth (pv 1) (by intro _; rfl)) (pe_callB call_len_seq (by rfl) T.n_len b_len (pa_cons (pe_ix ix_list (pv 1) pe_int (fun _ _ => rfl)) pa_nil)) pe_int))
      (pss_cons (ps_set (i := 4) sc_plain_rows.nd rfl (Or.inl rfl) (pe_lst pa_nil))
      (pss_cons (ps_for PassesOwn.never rfl (pi_range1 rfl T.n_range (pa_cons (pv 3) pa_nil)) (pg_name (i := 5) sc_plain_rows.nd rfl (Or.inr rfl))
        (pss_cons (ps_setLc (i := 6) (own := [("row", 2)]) (g := gName 2) (tt := _) rfl sc_plain_rows.nd rfl rfl (sw_true rfl rfl rfl (by decide +kernel)) (pi_list (pv 1)) (blkOk_by (N := N_plain_rows) (sc := defScope s_plain_rows) (by decide +kernel)) (fun _ _ _ _ _ => pg_name (i := 2) sc_plain_rows.nd rfl (Or.inl rfl)) (fun _ _ _ _ _ => pts_one (pt_cmpR op_ne (pe_ix (ix_listK (K := K) rfl) (pv 2) (pv 5) (fun _ _ => rfl)) pe_int (nomark _))) (fun _ _ _ _ _ => by exact (pv 2)))
        (pss_one (ps_if (pt_truth (pv 6) (by intro _; rfl))
          (pss_cons (ps_set (i := 7) sc_plain_rows.nd rfl (Or.inr rfl) (pe_ix ix_list (pv 6) pe_int (fun _ _ => rfl)))
          (pss_cons (ps_setLc (i := 1) (own := [("row", 2)]) (g := gName 2) (tt := tYes) rfl sc_plain_rows.nd rfl rfl (sw_true rfl rfl rfl (by decide +kernel)) (pi_list (pv 1)) (blkOk_by (N := N_plain_rows) (sc := defScope s_plain_rows) (by decide +kernel)) (fun _ _ _ _ _ => pg_name (i := 2) sc_plain_rows.nd rfl (Or.inl rfl)) (fun _ _ _ _ _ => pts_nil) (fun _ _ _ _ _ => by exact (pe_go G_without (hr.mono (by decide)) rfl (pa_cons (pv 2) (pa_cons (pv 7) (pa_cons (pv 5) pa_nil))))))
          (pss_one (ps_set (i := 4) sc_plain_rows.nd rfl (Or.inl rfl) (pe_op op_cat (pe_lc (own := [("row", 2)]) (g := gName 2) (tt := tYes) rfl sc_plain_rows.nd (pi_list (pv 4)) (blkOk_by (N := N_plain_rows) (sc := defScope s_plain_rows) (by decide +kernel)) (fun _ _ _ _ _ => pg_name (i := 2) sc_plain_rows.nd rfl (Or.inl rfl)) (fun _ _ _ _ _ => pts_nil) (fun _ _ _ _ _ => by exact (pe_go G_without (hr.mono (by decide)) rfl (pa_cons (pv 2) (pa_cons (pv 7) (pa_cons (pv 5) pa_nil)))))) (pe_lst (pa_cons (pv 7) pa_nil)))))))
          pss_nil))))
      (pss_one (ps_ret (pe_callTy call_tuple_of (by rfl) T.n_tuple b_tuple (pa_cons (pe_lc (own := [("row", 2)]) (g := gName 2) (tt := tYes) rfl sc_plain_rows.nd (pi_list (pv 4)) (blkOk_by (N := N_plain_rows) (sc := defScope s_plain_rows) (by decide +kernel)) (fun _ _ _ _ _ => pg_name (i := 2) sc_plain_rows.nd rfl (Or.inl rfl)) (fun _ _ _ _ _ => pts_nil) (fun _ _ _ _ _ => by exact (pe_go G_led_by_one (hr.mono (by decide)) rfl (pa_cons (pv 2) pa_nil)))) pa_nil)))))))), ?_⟩
    refine into_set (comp_rows (f := clearedL) (R := RatLAt K H) (fun R r => ⟨_, rfl, r⟩) hS pr (by rw [pr.length]; have := eok.few; rw [List.length_map] at this; exact this) (fun x r H0 Z hr0 hm s0 hz => ?_) (fun H2 D2 acc hD2 s2 hL hp => ?_))
    · obtain ⟨c1, c2, c3⟩ := cok r hm
      exact ⟨rfl, _, rfl, x, r, rfl, hr0.same s0, c1, c2, c3, fun v' H' s' hv => hz _ _ s' ⟨hv, full (n := 0) (w0 _ (List.mem_map_of_mem hm)).1⟩⟩
    · have n2 : acc ≠ [] := fun z => by
        have l := hp.length
        rw [z, List.length_map] at l
        exact ne (List.eq_nil_of_length_eq_zero l.symm)
      obtain ⟨y0, acc', rfl⟩ := List.exists_cons_of_ne_nil n2
      obtain ⟨r0, rs', rfl⟩ := List.exists_cons_of_ne_nil ne
      obtain ⟨⟨b0, e0, hb0⟩, _⟩ : RowN K H2 y0 (clearedL r0) := by
        cases hp with
        | cons h _ => exact h
      subst e0
      have wl : (clearedL r0).length = wd := (w0 _ (List.mem_map_of_mem List.mem_cons_self)).1
      refine into_name ?_
      refine ⟨_, rfl, true, ?_, iteT ?_⟩
      · exact .inl ⟨_, SqL.of hL, rfl⟩
      refine ⟨_, rfl, D2, _, _, _, rfl, rfl, SqL.of hL, atI_nat (j := 0) rfl, b0, _, rfl, .inl hb0, ?_⟩
      refine into_name ?_
      dsimp only
      refine into_lst0 fun d0 nd0 => ?_
      have s3 := same_upd (o := .lst []) nd0
      rw [List.length_map, wl]
      refine ⟨_, rfl, _, rfl, by have := eok.wide; omega, by have := eok.wide; omega, ?_⟩
      refine for_range (lo := 0) (n := ((wd : Nat) : Int).toNat) (fun i σ' H' => ∃ (W Dn : Addr) (xw xd : List V) (v2 v5 v6 v7 : Option V), σ' = [some (.ref a), some (.ref W), v2, some (.int (wd : Int)), some (.ref Dn), v5, v6, v7] ∧ Same H H' ∧
        SqL K H' W xw ∧ Paired (RowN K H') xw (elimL i ((r0 :: rs').map clearedL)).1 ∧ SqL K H' Dn xd ∧ Paired (RowN K H') xd (elimL i ((r0 :: rs').map clearedL)).2) ?_ ?_ ?_
      · exact ⟨D2, d0, _, _, _, _, _, _, rfl, s2.trans s3, SqL.of (s3 _ _ hL), hp.mono fun _ _ h => h.same s3, SqL.of upd_same, .nil⟩
      · rintro i σ' H' hi ⟨W, Dn, xw, xd, v2, v5, v6, v7, rfl, sH, hW, pW, hDn, pD⟩
        have ii : i ≤ wd := by omega
        obtain ⟨wW, wD, fW, fD⟩ := eok.state i ii
        have next := elim_next i ((r0 :: rs').map clearedL)
        generalize elimL i ((r0 :: rs').map clearedL) = st at *
        obtain ⟨rowsW, rowsD⟩ := st
        have iw : i < wd := by omega
        have at_c : ∀ {r : List Int}, r.length = wd → r[i]? = some (idx r i) := fun e => by
          unfold idx
          rw [List.getElem?_eq_getElem (by omega)]
          rfl
        have e0 : (0 : Int) + (i : Int) = (i : Int) := by omega
        rw [e0]
        have lW := pW.length
        refine ⟨_, rfl, W, rfl, ⟨_, hW⟩, fun D6 n6 => lc_list (xs := xw) (fun j H'' => ∃ acc, H'' D6 = some (.lst acc) ∧ Paired (RowN K H'') acc (leadL i (rowsW.take j)) ∧ Same H' H'') ⟨[], upd_same, .nil, same_upd n6⟩
          (fun j H'' _ ⟨_, _, _, s6⟩ => Same.seq s6 hW) (fun j x H'' hx ⟨acc6, h6, p6, s6⟩ => ?_) (fun H'' ⟨acc6, h6, p6, s6⟩ => ?_)⟩
        · obtain ⟨r, er, hr1⟩ := Paired.at pW hx
          obtain ⟨⟨ra, rfl, hra⟩, rn⟩ := id hr1
          have wr := (wW r (List.mem_of_getElem? er)).1
          refine ⟨rfl, _, rfl, _, rfl, ra, _, _, _, rfl, rfl, Same.seq s6 hra, at_int (at_c wr), rfl, _, rfl, ?_⟩
          by_cases hz : idx r i = 0
          · refine no_if (by rw [decide_eq_true (congrArg V.int hz)]; rfl) ⟨acc6, h6, ?_, s6⟩
            rw [take_next er, lead_zero hz]
            exact p6
          · refine if_true_of' (by rw [decide_eq_false fun z => hz (V.int.inj z)]; rfl) ⟨_, rfl, acc6, h6, ?_, acc6 ++ [.ref ra], upd_same, ?_, ?_⟩
            · have l6 := p6.length
              have l7 : (leadL i (rowsW.take j)).length ≤ (rowsW.take j).length := List.length_filter_le _ _
              have l8 := List.length_take_le j rowsW
              have l9 := (List.getElem?_eq_some_iff.mp er).1
              have l0 := eok.few
              rw [List.length_take] at l7
              refine small_million ?_
              have : rowsW.length < 1000000 := fW
              omega
            · rw [take_next er, lead_one hz]
              have rf := row_refs p6
              exact (p6.mono fun _ _ q => q.list h6 rf).snoc ((hr1.same s6).list h6 rf)
            · exact fun b o z => by
                have nb : b ≠ D6 := ne_of_none z n6
                rw [upd_ne nb]
                exact s6 _ _ z
        · rw [show rowsW.take xw.length = rowsW by rw [lW, List.take_length]] at p6
          refine into_name ?_
          dsimp only
          refine ⟨_, rfl, _, .inl ⟨_, SqL.of h6, rfl⟩, ?_⟩
          generalize el : leadL i rowsW = ld at p6
          cases p6 with
          | nil =>
            have en : elimL (i + 1) ((r0 :: rs').map clearedL) = (rowsW, rowsD) := by
              rw [next]
              unfold stepL
              show (match leadL i rowsW with | [] => (rowsW, rowsD) | p :: _ => (rowsW.map (wo p i), rowsD.map (wo p i) ++ [p])) = _
              rw [el]
            refine iteF ⟨W, Dn, xw, xd, _, _, _, _, rfl, sH.trans s6, Same.seq s6 hW, ?_, Same.seq s6 hDn, ?_⟩
            · rw [en]
              exact pW.mono fun _ _ h => h.same s6
            · rw [en]
              exact pD.mono fun _ _ h => h.same s6
          | cons hp0 pr0 =>
            rename_i y6 p acc7 ld'
            have en : elimL (i + 1) ((r0 :: rs').map clearedL) = (rowsW.map (wo p i), rowsD.map (wo p i) ++ [p]) := by
              rw [next]
              unfold stepL
              show (match leadL i rowsW with | [] => (rowsW, rowsD) | p :: _ => (rowsW.map (wo p i), rowsD.map (wo p i) ++ [p])) = _
              rw [el]
            have pin : p ∈ rowsW := (List.mem_filter.mp (show p ∈ leadL i rowsW by rw [el]; exact List.mem_cons_self)).1
            obtain ⟨⟨pa, rfl, hpa⟩, pn⟩ := id hp0
            obtain ⟨nW, nD, fnW, fnD⟩ := eok.state (i + 1) iw
            rw [en] at nW nD fnW fnD
            refine iteT ?_
            refine ⟨_, rfl, D6, _, _, _, rfl, rfl, SqL.of h6, atI_nat (j := 0) rfl, ?_⟩
            refine into_name ?_
            dsimp only
            have pW6 : Paired (RowN K H'') xw rowsW := pW.mono fun _ _ h => h.same s6
            have pD6 : Paired (RowN K H'') xd rowsD := pD.mono fun _ _ h => h.same s6
            refine into_set (comp_rows (f := wo p i) (R := RowN K H'') (fun R r => ⟨_, rfl, r⟩) (Same.seq s6 hW) pW6 (by rw [lW]; exact fW) (fun x r H0 Z hr0 hm s0 hz => ?_) (fun H7 D7 acc8 hD7 s7 hL7 p7 => ?_))
            · refine ⟨rfl, _, rfl, _, rfl, _, rfl, x, .ref pa, r, p, i, idx r i, idx p i, rfl, hr0.1.same s0, ⟨pa, rfl, Same.seq s0 hpa⟩, at_c (wW r hm).1, at_c (wW p pin).1, ?_, (wW r hm).2, (wW p pin).2, fun v' H8 s8 hv => hz _ _ s8 ⟨hv, full (n := 0) (nW _ (List.mem_map_of_mem hm)).1⟩⟩
              rw [(wW r hm).1]
              exact eok.wide
            · refine into_name ?_
              have g7 := s6.trans s7
              have lD := pD.length
              refine into_asg (into_op (comp_rows (f := wo p i) (R := RowN K H7) (fun R r => ⟨_, rfl, r⟩) (Same.seq g7 hDn) (pD.mono fun _ _ h => h.same g7) (by rw [lD]; exact fD) (fun x r H0 Z hr0 hm s0 hz => ?_) (fun H9 D9 acc10 hD9 s9 hL9 p9 => ?_)))
              · refine ⟨rfl, _, rfl, _, rfl, _, rfl, x, .ref pa, r, p, i, idx r i, idx p i, rfl, hr0.1.same s0, ⟨pa, rfl, Same.seq (s7.trans s0) hpa⟩, at_c (wD r hm).1, at_c (wW p pin).1, ?_, (wD r hm).2, (wW p pin).2, fun v' H8 s8 hv => hz _ _ s8 ⟨hv, full (n := 0) (nD _ (List.mem_append_left _ (List.mem_map_of_mem hm))).1⟩⟩
                rw [(wD r hm).1]
                exact eok.wide
              · refine ⟨_, rfl, by show 1 ≤ sizeLine; decide, fun l nl => ?_⟩
                have s10 := same_upd (o := .lst [V.ref pa]) nl
                have h10 : (upd H9 l (.lst [V.ref pa])) l = some (.lst [V.ref pa]) := upd_same
                generalize upd H9 l (.lst [V.ref pa]) = H10 at *
                refine ⟨D9, l, _, _, rfl, rfl, s10 _ _ hL9, h10, ?_, fun q nq => ?_⟩
                · have l9 := p9.length
                  rw [List.length_map] at l9
                  show acc10.length + 1 ≤ 16777216
                  omega
                have s11 := same_upd (o := .lst (acc10 ++ [V.ref pa])) nq
                have g11 := s10.trans s11
                have g9 := s9.trans g11
                refine ⟨D7, q, acc8, acc10 ++ [.ref pa], _, _, _, _, rfl, sH.trans (g7.trans g9), SqL.of (g9 _ _ hL7), ?_, SqL.of upd_same, ?_⟩
                · rw [en]
                  exact p7.mono fun _ _ h => h.same g9
                · rw [en]
                  exact (p9.mono fun _ _ h => h.same g11).snoc (hp0.same (s7.trans g9))
      · rintro σ' H' ⟨W, Dn, xw, xd, v2, v5, v6, v7, rfl, sH, hW, pW, hDn, pD⟩
        rw [Int.toNat_natCast] at pD
        obtain ⟨nW, nD, fnW, fnD⟩ := eok.state wd (Nat.le_refl _)
        have lD := pD.length
        dsimp only
        refine into_ret (into_cb (into_args1 (comp_pure (f := fun r : List Int => ledL (firstL r) r) (R := RowN K H') (R' := RatsAt K) (fun R r => ⟨_, rfl, r⟩) hDn pD (by rw [lD]; exact fnD) (fun s _ _ h => h.same s) (fun _ hD _ _ h => h.list hD)
          (fun x r H0 Z hr0 hm s0 hz => ?_) (fun H9 D9 acc10 hD9 s9 hL9 p9 => ?_))))
        · have nz := eok.led r hm
          have ef : (notNil r)[0]? = some (firstL r) := by
            cases q : (notNil r)[0]? with
            | none => exact absurd (by unfold firstL; rw [q]; rfl) nz
            | some z => unfold firstL; rw [q]; rfl
          refine ⟨rfl, _, rfl, x, r, firstL r, rfl, hr0.1.same s0, ?_, fun n hn => small_of_fit ((nD r hm).2 n hn), ef, fun v' H8 s8 hv => hz _ _ s8 hv⟩
          rw [(nD r hm).1]
          exact eok.wide
        · refine ⟨D9, acc10, rfl, .inl ⟨SqL.of hL9, fun l nl => ?_⟩⟩
          have s10 := same_upd (o := .tup acc10) nl
          exact k _ _ (sH.trans (s9.trans s10)) ⟨l, acc10, rfl, SqT.of upd_same, p9.mono fun _ _ h => h.same s10⟩
end
end Ct

/-! Sums of rationals; the nought of the module. -/
namespace Ct
open PySem PySem.Spec PyProof.Rows L2 TL
structure ZeroT (K : PySem.W.Frag) (mg : Str → Option Value) (z : Addr) : Prop where
  mgZ : mg "ZERO" = some (.ref z)
  sq : ∀ H : Hp, SqT K H z [.int 0, .int 1]
theorem ZeroT.at {K : PySem.W.Frag} {mg : Str → Option Value} {z : Addr} (O : ZeroT K mg z) (H : Hp) : RatAt K H (.ref z) 0 := ⟨z, rfl, O.sq H⟩
abbrev s_total : Stmt := top 20
abbrev N_total : List Str := ["numbers", "found", "number"]
theorem sc_total : FnScope N_total ["numbers"] (defScope s_total) := ⟨rfl, rfl, rfl, by decide +kernel, rfl, by decide +kernel, by decide +kernel⟩
abbrev s_first_place : Stmt := top 36
abbrev N_first_place : List Str := ["row", "place"]
theorem sc_first_place : FnScope N_first_place ["row"] (defScope s_first_place) := ⟨rfl, rfl, rfl, by decide +kernel, rfl, by decide +kernel, by decide +kernel⟩
abbrev s_solution : Stmt := top 37
abbrev N_solution : List Str := ["equations", "many", "found", "row", "place"]
theorem sc_solution : FnScope N_solution ["equations", "many"] (defScope s_solution) := ⟨rfl, rfl, rfl, by decide +kernel, rfl, by decide +kernel, by decide +kernel⟩
def sumL (rs : List Rat) : Rat := rs.foldl (· + ·) 0
def spTotal (K : PySem.W.Frag) : Sp := fun vs H Q _ => ∃ (v : V) (rs : List Rat), vs = [v] ∧ RatLAt K H v rs ∧ (∀ r ∈ rs, FitR 4400 r) ∧ (∀ i, FitR 4400 (sumL (rs.take i))) ∧ ∀ v' H', Same H H' → RatAt K H' v' (sumL rs) → Q v' H'
section
variable {P : Program} {w : World} {K : PySem.W.Frag} {mg : Str → Option Value} {base : Heap} {z : Addr}
theorem k_total (D : Lies K mg "total" s_total) (T : Plain mg) (O : ZeroT K mg z) (G_plus : Keeps P w K mg base 2 "plus" ["one", "other"] (spRat2 K fun r s => r + s)) : Keeps P w K mg base 3 "total" ["numbers"] (spTotal K) := by
  refine D.keeps sc_total (fun _ _ _ _ _ _ us hl => match us, hl with | [_], _ => rfl) (fun vs H Q E h => ?_) (fun f cdv A outer s H vs Q E hr h => ?_)
  · obtain ⟨v, rs, rfl, _⟩ := h
    rfl
  · obtain ⟨v, rs, rfl, ⟨a, xs, rfl, hS, pr⟩, fit, fl, k⟩ := h
    have ln := pr.length
    refine ⟨_, (pss_cons (ps_set (i := 1) sc_total.nd rfl (Or.inl rfl) (pe_glob (v := .ref z) rfl O.mgZ rfl))
      (pss_cons (ps_for PassesOwn.never rfl (pi_list (pv 0)) (pg_name (i := 2) sc_total.nd rfl (Or.inl rfl))
        (pss_one (ps_set (i := 1) sc_total.nd rfl (Or.inl rfl) (pe_go G_plus (hr.mono (by decide)) rfl (pa_cons (pv 1) (pa_cons (pv 2) pa_nil))))))
      (pss_one (ps_ret (pv 1))))), ?_⟩
    refine ⟨_, rfl, a, rfl, ⟨_, hS⟩, for_list (xs := xs) (fun i σ' H' => ∃ (vf : V) (v2 : Option V), σ' = [some (.ref a), some vf, v2] ∧ Same H H' ∧ RatAt K H' vf (sumL (rs.take i))) ⟨.ref z, _, rfl, Same.refl _, O.at H⟩ (fun i σ' H' _ ⟨_, _, _, s', _⟩ => Same.seq s' hS) ?_ ?_⟩
    · rintro i x σ' H' hx ⟨vf, v2, rfl, s', hv⟩
      obtain ⟨r, er, hr0⟩ := Paired.at pr hx
      have e : sumL (rs.take (i + 1)) = sumL (rs.take i) + r := by
        unfold sumL
        rw [take_next er, List.foldl_append]
        rfl
      refine ⟨_, rfl, _, rfl, vf, x, sumL (rs.take i), r, rfl, hv, hr0.same s', fl i, fit r (List.mem_of_getElem? er), fun v' H2 s2 hv2 => ⟨v', some x, rfl, s'.trans s2, ?_⟩⟩
      rw [e]
      exact hv2
    · rintro σ' H' ⟨vf, v2, rfl, s', hv⟩
      rw [ln, List.take_length] at hv
      exact ⟨_, rfl, k _ _ s' hv⟩
end
end Ct

/-! Where a row begins; what a set of equations tells. -/
namespace Ct
open PySem PySem.Spec PyProof.Rows L2 TL
def ratD (r : Rat) : PyData := .tuple [.int r.num, .int (r.den : Int)]
theorem RatAt.dp {K : PySem.W.Frag} {H : Hp} {v : V} {r : Rat} : RatAt K H v r → Dp K H v (ratD r) := fun ⟨t, e, h⟩ => e ▸ .tup h (.cons (.int _) (.cons (.int _) .nil))
theorem ratD_shaped (r : Rat) : SeqAt.shaped (ratD r) = true := rfl
theorem ratD_eqv (r s : Rat) : PyData.eqv (ratD r) (ratD s) = decide (r = s) := by
  have e : PyData.eqv (ratD r) (ratD s) = ((r.num == s.num) && (((r.den : Int) == (s.den : Int)) && true)) := rfl
  rw [e, Bool.and_true]
  by_cases h : r = s
  · subst h
    simp
  · rw [decide_eq_false h]
    by_cases hn : r.num = s.num
    · by_cases hd : r.den = s.den
      · exact absurd (Rat.ext hn hd) h
      · have : ((r.den : Int) == (s.den : Int)) = false := by simp; omega
        rw [this, Bool.and_false]
    · have : (r.num == s.num) = false := by simp [hn]
      rw [this, Bool.false_and]
def spFirst (K : PySem.W.Frag) : Sp := fun vs H Q _ => ∃ (v : V) (rs : List Rat) (j : Nat) (r : Rat), vs = [v] ∧ RatsAt K H v rs ∧ rs[j]? = some r ∧ r ≠ 0 ∧ (∀ m, m < j → rs[m]? = some 0) ∧ Q (.int j) H
section
variable {P : Program} {w : World} {K : PySem.W.Frag} {mg : Str → Option Value} {base : Heap} {z : Addr}
theorem k_first_place (D : Lies K mg "first_place" s_first_place) (T : Plain mg) (O : ZeroT K mg z) : Keeps P w K mg base 1 "first_place" ["row"] (spFirst K) := by
  refine D.keeps sc_first_place (fun _ _ _ _ _ _ us hl => match us, hl with | [_], _ => rfl) (fun vs H Q E h => ?_) (fun f cdv A outer s H vs Q E hr h => ?_)
  · obtain ⟨v, rs, j, r, rfl, _⟩ := h
    rfl
  · obtain ⟨v, rs, j, r, rfl, ⟨a, xs, rfl, hS, pr⟩, hj, hr0, hlow, k⟩ := h
    refine ⟨_, (pss_cons (ps_set (i := 1) sc_first_place.nd rfl (Or.inl rfl) pe_int)
      (pss_cons (ps_while PassesOwn.never (pt_cmpR (op_eqD hr.units) (pe_ix ix_tup (pv 0) (pv 1) (fun _ _ => rfl)) (pe_glob (v := .ref z) rfl O.mgZ rfl) (nomark _))
        (pss_one (ps_aug (i := 1) sc_first_place.nd rfl (Or.inl rfl) pe_int ip_add)))
      (pss_one (ps_ret (pv 1))))), ?_⟩
    refine into_set (into_name (into_seq (while_by (fun σ H' => ∃ m : Nat, σ = [some (.ref a), some (.int (m : Int))] ∧ H' = H ∧ m ≤ j) (fun σ _ => match σ with | [_, some (.int b)] => j - b.toNat | _ => 0) ⟨0, rfl, rfl, Nat.zero_le _⟩ ?_ ?_)))
    · rintro σ H1 ⟨m, rfl, rfl, hm⟩
      have lj := (List.getElem?_eq_some_iff.mp hj).1
      have lx := pr.length
      have lm : m < xs.length := by omega
      obtain ⟨x, hx⟩ : ∃ x, xs[m]? = some x := ⟨_, List.getElem?_eq_getElem lm⟩
      obtain ⟨q, hq, hxq⟩ := Paired.at pr hx
      refine ⟨_, rfl, _, rfl, a, _, _, _, rfl, rfl, hS, atI_nat hx, ratD q, ratD 0, hxq.dp, (O.at _).dp, ratD_shaped _, ratD_shaped _, _, rfl, ?_⟩
      rw [ratD_eqv]
      by_cases h0 : q = 0
      · have mj : m < j := by
          rcases Nat.lt_or_eq_of_le hm with h | h
          · exact h
          · subst h
            rw [hj] at hq
            exact absurd ((Option.some.inj hq).trans h0) hr0
        refine if_true_of' (decide_eq_true h0) ⟨_, rfl, _, _, rfl, rfl, ⟨m + 1, rfl, rfl, mj⟩, ?_⟩
        show j - ((m : Int) + 1).toNat < j - (m : Int).toNat
        omega
      · have mj : m = j := by
          rcases Nat.lt_or_eq_of_le hm with h | h
          · rw [hlow m h] at hq
            exact absurd (Option.some.inj hq).symm h0
          · exact h
        subst mj
        rw [decide_eq_false h0]
        exact iteF ⟨_, rfl, k⟩
    · intro σ H1 Q1 Q2 m h
      obtain ⟨v, h1, u, h2, p, i, ys, y, e1, e2, hs, ha, d, e, dd, de, sd, se, b, hb, q⟩ := h
      exact ⟨v, h1, u, h2, p, i, ys, y, e1, e2, hs, ha, d, e, dd, de, sd, se, b, hb, m _ _ q⟩
end
end Ct

/-! What a set of equations tells. -/
namespace Ct
open PySem PySem.Spec PyProof.Rows L2 TL
def placeOf (r : List Rat) : Nat := r.findIdx fun x => decide (x ≠ 0)
def lastOf (r : List Rat) : Rat := r.getLast?.getD 0
def solL (rows : List (List Rat)) (many : Nat) : List Rat := rows.foldl (fun f r => f.set (placeOf r) (lastOf r)) (List.replicate many 0)
theorem ixN_nat {n j : Nat} (h : j < n) : ixN n (j : Int) = some j := by
  unfold ixN
  simp
  exact h
theorem sol_len : ∀ (rows : List (List Rat)) (f : List Rat), (rows.foldl (fun f r => f.set (placeOf r) (lastOf r)) f).length = f.length
  | [], _ => rfl
  | r :: rs, f => by
    show (rs.foldl _ (f.set _ _)).length = _
    rw [sol_len rs, List.length_set]
theorem pair_set {α β : Type} {R : α → β → Prop} : ∀ {xs : List α} {ys : List β} (j : Nat) {x : α} {y : β}, Paired R xs ys → R x y → Paired R (xs.set j x) (ys.set j y)
  | _, _, _, _, _, .nil, _ => .nil
  | _, _, 0, _, _, .cons _ t, r => .cons r t
  | _, _, j + 1, _, _, .cons h t, r => .cons h (pair_set j t r)
theorem pair_rep {α β : Type} {R : α → β → Prop} {x : α} {y : β} (h : R x y) : ∀ n : Nat, Paired R (List.replicate n x) (List.replicate n y)
  | 0 => .nil
  | n + 1 => .cons h (pair_rep h n)
theorem flat_one {α : Type} (x : α) : ∀ n : Nat, (List.replicate n [x]).flatten = List.replicate n x
  | 0 => rfl
  | n + 1 => by
    show [x] ++ (List.replicate n [x]).flatten = x :: List.replicate n x
    rw [flat_one x n]
    rfl
theorem place_is {r : List Rat} (h : placeOf r < r.length) : ∃ q, r[placeOf r]? = some q ∧ q ≠ 0 ∧ ∀ m, m < placeOf r → r[m]? = some 0 := by
  refine ⟨r[placeOf r], List.getElem?_eq_getElem h, of_decide_eq_true (List.findIdx_getElem (p := fun x : Rat => decide (x ≠ 0)) (w := h)), fun m hm => ?_⟩
  have lm : m < r.length := Nat.lt_trans hm h
  have := List.not_of_lt_findIdx (p := fun x : Rat => decide (x ≠ 0)) hm
  rw [List.getElem?_eq_getElem lm]
  simp at this
  rw [this]
theorem paired_last {R : V → Rat → Prop} {xs : List V} {ys : List Rat} (h : Paired R xs ys) (ne : ys ≠ []) : ∃ x, atI xs (-1) = some x ∧ R x (lastOf ys) := by
  have l := h.length
  have nx : xs ≠ [] := fun z => by
    rw [z] at l
    exact ne (List.eq_nil_of_length_eq_zero l.symm)
  obtain ⟨xa, xb, rfl⟩ : ∃ (xa : List V) (xb : V), xs = xa ++ [xb] := by
    rcases List.eq_nil_or_concat xs with z | ⟨xa, xb, e⟩
    · exact absurd z nx
    · exact ⟨xa, xb, by rw [e, List.concat_eq_append]⟩
  have at_l : (xa ++ [xb])[xa.length]? = some xb := by simp
  obtain ⟨y, hy, r⟩ := Paired.at h at_l
  refine ⟨xb, atI_last xa xb, ?_⟩
  rw [List.length_append, List.length_singleton] at l
  have e : ys.length - 1 = xa.length := by omega
  unfold lastOf
  rw [List.getLast?_eq_getElem?, e, hy]
  exact r
/-- a row that begins below many -/
def BeginsIn (many : Nat) (r : List Rat) : Prop := placeOf r < many ∧ placeOf r < r.length
def spSolution (K : PySem.W.Frag) : Sp := fun vs H Q _ => ∃ (a : Addr) (xs : List V) (rs : List (List Rat)) (wd many : Nat), vs = [.ref a, .int many] ∧ SqL K H a xs ∧ Paired (RatLAt K H) xs rs ∧ (∀ r ∈ rs, ClearOk r) ∧ (rs = [] ∧ wd = 0 ∨ rs ≠ [] ∧ ElimOk wd (rs.map clearedL)) ∧ many < 1000000 ∧
  (∀ r ∈ plainOf (elimL wd (rs.map clearedL)).2, BeginsIn many r) ∧ ∀ p xf H', Same H H' → H p = none → H' p = some (.lst xf) → Paired (RatAt K H') xf (solL (plainOf (elimL wd (rs.map clearedL)).2) many) → Q (.ref p) H'
section
variable {P : Program} {w : World} {K : PySem.W.Frag} {mg : Str → Option Value} {base : Heap} {z : Addr}
theorem k_solution (D : Lies K mg "solution" s_solution) (T : Plain mg) (O : ZeroT K mg z) (G_plain_rows : Keeps P w K mg base 3 "plain_rows" ["rows"] (spPlain K)) (G_first_place : Keeps P w K mg base 1 "first_place" ["row"] (spFirst K)) :
    Keeps P w K mg base 4 "solution" ["equations", "many"] (spSolution K) := by
  refine D.keeps sc_solution (fun _ _ _ _ _ _ us hl => match us, hl with | [_, _], _ => rfl) (fun vs H Q E h => ?_) (fun f cdv A outer s H vs Q E hr h => ?_)
  · obtain ⟨a, xs, rs, wd, many, rfl, _⟩ := h
    rfl
  · obtain ⟨a, xs, rs, wd, many, rfl, hS, pr, cok, how, hm, beg, k⟩ := h
    refine ⟨_, (pss_cons (ps_set (i := 2) sc_solution.nd rfl (Or.inl rfl) (pe_op op_rep (pe_lst (pa_cons (pe_glob (v := .ref z) rfl O.mgZ rfl) pa_nil)) (pv 1)))
      (pss_cons (ps_for PassesOwn.never rfl (pi_tup (pe_go G_plain_rows (hr.mono (by decide)) rfl (pa_cons (pv 0) pa_nil))) (pg_name (i := 3) sc_solution.nd rfl (Or.inl rfl))
        (pss_cons (ps_set (i := 4) sc_solution.nd rfl (Or.inl rfl) (pe_go G_first_place (hr.mono (by decide)) rfl (pa_cons (pv 3) pa_nil)))
        (pss_cons (ps_if (pt_cmpR op_eq (pv 4) (pv 1) (nomark _))
          (pss_one (ps_ret pe_non))
          pss_nil)
        (pss_one (ps_asg (pe_ix ix_tup (pv 3) (pe_un un_neg pe_int) (fun _ _ => rfl)) (pg_sub (pv 2) (pv 4) set_list))))))
      (pss_one (ps_ret (pv 2))))), ?_⟩
    refine ⟨by show 1 ≤ sizeLine; decide, fun l nl => ?_⟩
    have s1 := same_upd (o := .lst [V.ref z]) nl
    refine ⟨_, rfl, l, (many : Int), [V.ref z], rfl, rfl, upd_same, by omega, by omega, by show 1 * (many : Int).toNat ≤ 16777216; omega, fun p np => ?_⟩
    rw [Int.toNat_natCast, flat_one]
    have s2 := same_upd (o := .lst (List.replicate many (V.ref z))) np
    have h2 : (upd (upd H l (.lst [V.ref z])) p (.lst (List.replicate many (V.ref z)))) p = some (.lst (List.replicate many (V.ref z))) := upd_same
    have s12 := s1.trans s2
    generalize upd (upd H l (.lst [V.ref z])) p (.lst (List.replicate many (V.ref z))) = H2 at *
    refine ⟨_, rfl, a, xs, rs, wd, rfl, Same.seq s12 hS, pr.mono fun _ _ h => h.same s12, cok, how, fun v' H3 s3 hv => ?_⟩
    obtain ⟨t, xr, rfl, hT, pT⟩ := hv
    have g3 := s12.trans s3
    have h3 := s3 _ _ h2
    have np3 : H p = none := s1.free np
    generalize plainOf (elimL wd (rs.map clearedL)).2 = rows at *
    refine ⟨t, rfl, ⟨_, hT⟩, for_tup (xs := xr) (fun i σ' H' => ∃ (xf : List V) (v3 v4 : Option V), σ' = [some (.ref a), some (.int (many : Int)), some (.ref p), v3, v4] ∧ H' p = some (.lst xf) ∧ Paired (RatAt K H') xf (solL (rows.take i) many) ∧ Same H H' ∧ SqT K H' t xr ∧ Paired (RatsAt K H') xr rows) ?_ ?_ ?_ ?_⟩
    · exact ⟨_, _, _, rfl, h3, pair_rep (O.at _) many, g3, hT, pT⟩
    · exact fun i σ' H' _ ⟨_, _, _, _, _, _, _, h, _⟩ => h
    · rintro i x σ' H' hx ⟨xf, v3, v4, rfl, hp, pf, sH, hT', pT'⟩
      obtain ⟨r, er, hr1⟩ := Paired.at pT' hx
      obtain ⟨b1, b2⟩ := beg r (List.mem_of_getElem? er)
      obtain ⟨c, xc, rfl, hc, pc⟩ := hr1
      have rne : r ≠ [] := fun z => by
        rw [z] at b2
        exact absurd b2 (Nat.not_lt_zero _)
      obtain ⟨xl, hxl, hl⟩ := paired_last pc rne
      obtain ⟨q, hq, hq0, hlow⟩ := place_is b2
      have lf := pf.length
      have ls : (solL (rows.take i) many).length = many := by
        unfold solL
        rw [sol_len, List.length_replicate]
      have e : solL (rows.take (i + 1)) many = (solL (rows.take i) many).set (placeOf r) (lastOf r) := by
        unfold solL
        rw [take_next er, List.foldl_append]
        rfl
      refine ⟨_, rfl, .ref c, r, placeOf r, q, rfl, ⟨c, xc, rfl, hc, pc⟩, hq, hq0, hlow, ?_⟩
      refine into_name ?_
      dsimp only
      refine into_if ⟨_, rfl, _, rfl, rfl, _, rfl, ?_⟩
      rw [decide_eq_false (show ¬ V.int ((placeOf r : Nat) : Int) = V.int ((many : Nat) : Int) from fun z => by have := V.int.inj z; omega)]
      refine iteF ?_
      dsimp only
      refine ⟨_, rfl, 1, rfl, c, _, _, xl, rfl, rfl, hc, hxl, _, rfl, _, rfl, p, xf, _, _, rfl, rfl, hp, ixN_nat (by omega), ?_⟩
      refine ⟨_, _, _, rfl, upd_same, ?_, ?_, SqT.list hp hT', pT'.mono fun _ _ h => h.list hp⟩
      · rw [e]
        exact pair_set _ (pf.mono fun _ _ h => h.list hp) (hl.list hp)
      · intro b y hb
        rw [upd_ne (ne_of_none hb np3)]
        exact sH _ _ hb
    · rintro σ' H' ⟨xf, v3, v4, rfl, hp, pf, sH, hT', pT'⟩
      rw [pT'.length, List.take_length] at pf
      exact ⟨_, rfl, k p xf _ sH np3 hp pf⟩
end
end Ct

/-! A set of texts: made by a comprehension, sorted. -/
namespace Ct
open PySem PySem.Spec PyProof.Rows L2 TL
/-- at a stands a set of just the texts of l, each once, whose table can be walked -/
def TxSet (P : Program) (w : World) (h : Heap) (a : Addr) (l : List Str) : Prop :=
  ∃ D : Froz.SD, h.get? a = some (Froz.sObj "set" D) ∧ Froz.TxOk P w D l ∧ l.Nodup ∧ Ris D.2.2.place.toList ∧ (w.params.followText "set-order" = true ∨ D.2.2.led = true)
/-- l with c in it -/
def addS (c : Str) (l : List Str) : List Str := if c ∈ l then l else c :: l
theorem addS_mem {c x : Str} {l : List Str} : x ∈ addS c l ↔ x = c ∨ x ∈ l := by
  unfold addS
  split
  · rename_i h
    exact ⟨.inr, fun z => z.elim (fun e => e ▸ h) id⟩
  · exact List.mem_cons
theorem addS_len (c : Str) (l : List Str) : (addS c l).length ≤ l.length + 1 := by
  unfold addS
  split
  · exact Nat.le_succ _
  · exact Nat.le_refl _
theorem tail_ris (ep : Nat) (es : Array (Int × Value)) (t : SetTable) (wd : Bool) (r : Ris t.place.toList) : Ris (Froz.tailTx ep es t wd).2.2.place.toList ∧ (Froz.tailTx ep es t wd).2.2.led = t.led := by
  unfold Froz.tailTx
  split
  · exact ⟨relayAll_ris _ _ _, relayAll_led _ _ _⟩
  · exact ⟨r, rfl⟩
theorem lay_ris (hs : Int) (v : Value) (D : Froz.SD) (r : Ris D.2.2.place.toList) : Ris (Froz.addTx hs v D).2.2.place.toList ∧ (Froz.addTx hs v D).2.2.led = D.2.2.led := by
  have r1 := layNew_ris D.2.2 D.1 hs v r
  have l1 := layNew_led D.2.2 D.1 hs v
  unfold Froz.addTx
  generalize layNew D.2.2 D.1 hs v = Z at r1 l1 ⊢
  have q : Ris (if Z.2.1.plain = true then { Z.2.1 with plain := false } else Z.2.1).place.toList ∧ (if Z.2.1.plain = true then { Z.2.1 with plain := false } else Z.2.1).led = D.2.2.led := by
    split
    · exact ⟨r1, l1⟩
    · exact ⟨r1, l1⟩
  have z := tail_ris D.2.1 Z.1 _ Z.2.2.1 q.1
  exact ⟨z.1, z.2.trans q.2⟩
theorem perm_sub {α : Type} [DecidableEq α] : ∀ (l m : List α), l.Nodup → (∀ x ∈ l, x ∈ m) → m.length ≤ l.length → m.Perm l
  | [], m, _, _, h => by
    rw [List.eq_nil_of_length_eq_zero (Nat.le_zero.mp h)]
  | x :: r, m, nd, sub, h => by
    obtain ⟨n1, n2⟩ := List.nodup_cons.mp nd
    have hx := sub x List.mem_cons_self
    refine (List.perm_cons_erase hx).trans ((perm_sub r (m.erase x) n2 (fun y hy => ?_) ?_).cons x)
    · exact (List.mem_erase_of_ne fun e : y = x => n1 (by rw [← e]; exact hy)).mpr (sub y (List.mem_cons_of_mem _ hy))
    · rw [List.length_erase_of_mem hx]
      rw [List.length_cons] at h
      omega
section
variable {P : Program} {w : World} {A : Around} {E : Value → Shared → Prop} {s : Shared} {a : Addr} {l : List Str}
theorem TxSet.at {h h' : Heap} (R : TxSet P w h a l) (k : ∀ o, h.get? a = some o → h'.get? a = some o) : TxSet P w h' a l := by
  obtain ⟨D, ho, r⟩ := R
  exact ⟨D, k _ ho, r⟩
theorem TxSet.once {h : Heap} (R : TxSet P w h a l) : l.Nodup := by
  obtain ⟨_, _, _, nd, _⟩ := R
  exact nd
theorem tx_hashed {k : Str} {u : Tok} {Q : Bool → Shared → Prop} (R : TxSet P w s.heap a l) (room : l.length + 1 < scanBound)
    (hQ : ∀ b h', Heap.SameBut a s.heap h' → TxSet P w h' a (addS k l) → Q b { s with heap := h' }) : wpAny (model P w) A (setAddHashed a (.str k u) (hashStr w k)) Q E s := by
  obtain ⟨D, ho, F, nd, r, hl⟩ := R
  by_cases hk : k ∈ l
  · have R2 : TxSet P w s.heap a (addS k l) := by
      unfold addS
      rw [if_pos hk]
      exact ⟨D, ho, F, nd, r, hl⟩
    obtain ⟨es, ep, t⟩ := D
    have dat : (Froz.sObj "set" (es, ep, t)).data = .set es ep t := rfl
    have size : es.size = l.length := F.sz
    obtain ⟨e, he, q⟩ := (F.mem k).mp hk
    have found : ∃ j, List.findIdx? (fun e => (strKind P w).is k e.2) es.toList = some j := by
      cases z : List.findIdx? (fun e => (strKind P w).is k e.2) es.toList with
      | some j => exact ⟨j, rfl⟩
      | none =>
        have y := List.findIdx?_eq_none_iff.mp z e he
        rw [q] at y
        cases y
    obtain ⟨j, hj⟩ := found
    unfold setAddHashed setAddHashedIn
    refine wpAny_holding (wpAny_bind (wpAny_setState_of ho dat F.fit ?_))
    dsimp only
    rw [byScan_of (knd := strKind P w) rfl (by show es.size < scanBound; omega) F.el]
    simp only [↓reduceIte]
    unfold setAddByScan
    refine wpAny_bind (wpAny_bind (wpAny_rule (wpAny_bind (wpAny_setScan_of (knd := strKind P w) (k := k) (Froz.is_str k u) ho dat F.fit F.el ?_))))
    rw [hj]
    exact wpAny_pure (wpAny_pure (hQ _ s.heap (Heap.SameBut.refl a s.heap) R2))
  · refine Froz.add_x ho F hk room ?_
    have r2 := lay_ris (hashStr w k) (.str k u) D r
    have he : (s.heap.update a fun _ => Froz.sObj "set" (Froz.addTx (hashStr w k) (.str k u) D)).get? a = some (Froz.sObj "set" (Froz.addTx (hashStr w k) (.str k u) D)) := Froz.get_upd _ ho rfl
    refine hQ _ _ (Heap.SameBut.update _ _ _) ⟨_, he, ?_⟩
    unfold addS
    rw [if_neg hk]
    exact ⟨Froz.add_ok u F, List.nodup_cons.mpr ⟨hk, nd⟩, r2.1, hl.imp id fun z => r2.2.trans z⟩
/-- found.add(k) -/
theorem tx_add {k : Str} {u : Tok} {Q : Value → Shared → Prop} (R : TxSet P w s.heap a l) (room : l.length + 1 < scanBound)
    (hQ : ∀ h', Heap.SameBut a s.heap h' → TxSet P w h' a (addS k l) → Q .none { s with heap := h', toks := s.toks + 1 }) : wpAny (model P w) A (call (.builtin "set.add") [.ref a, .str k u]) Q E s := by
  have ty : s.TypeIs (.ref a) "set" := by
    obtain ⟨D, ho, _⟩ := R
    exact ⟨_, ho, rfl⟩
  refine wpAny_call_entry F.slot_set_add ty F.entry_set_add ?_ (F.args_set_add_2 _ _)
  unfold Builtin.«set.add» Builtin.Frozenset.oneOther Builtin.Frozenset.addrOf setAdd
  simp only [List.isEmpty_nil, bind_assoc]
  refine wpAny_bind (wpAny_pure ?_)
  try dsimp only
  refine wpAny_bind (wpAny_pure ?_)
  try dsimp only
  refine wpAny_bind (wpAny_holding (wpAny_bind ((strKind P w).pyHash (Froz.is_str k u) ?_)))
  refine tx_hashed (s := { s with toks := s.toks + 1 }) R room fun b h' sb r => ?_
  exact wpAny_pure ⟨_, rfl, hQ h' sb r⟩
theorem tx_sorted {Q : Value → Shared → Prop} (R : TxSet P w s.heap a l) (hh : A.handled = none) (few : l.length < 64)
    (hQ : ∀ s' p (out : Array Value) (c : Nat) (ys : List Str), (∀ b o, s.heap.get? b = some o → s'.heap.get? b = some o) → s'.gens = s.gens → s'.os = s.os → s.heap.objs.size ≤ p →
      s'.heap.get? p = some (seqObj "list" out c) → StrsAre out.toList ys → ys.Perm l → sortedS ys = true → Q (.ref p) s') : wpAny (model P w) A (call (.builtin "sorted") [.ref a]) Q E s := by
  obtain ⟨D, ho, F, nd, r, hl⟩ := R
  obtain ⟨es, ep, t⟩ := D
  have size : es.size = l.length := F.sz
  refine Calls.call_function_entry kind_sorted plain_sorted entry_sorted (args_sorted1 _) ?_
  unfold Builtin.«sorted»
  refine wpAny_bind (m := checkCount "sorted" 1 1 _) (wpAny_pure (wpAny_bind (collect_set (A := A.in1) hh ⟨_, ho, rfl, rfl⟩ F.fit (by rw [size]; exact Nat.lt_trans few (by decide)) r hl fun s1 vs k1 hz g1 o1 pm => ?_)))
  have all : ∀ v ∈ vs, ∃ x y, v = Value.str x y := fun v hv => by
    obtain ⟨e, he, q⟩ := List.mem_map.mp (pm.mem_iff.mp hv)
    obtain ⟨⟨k, h1, _⟩, _⟩ := F.el e he
    have h1 : Value.isStrOf k e.2 = true := h1
    cases z : e.2 with
    | str x y => exact ⟨x, y, by rw [← q]; exact z⟩
    | _ => rw [z] at h1; cases h1
  have S := strsAre_map vs all
  have lv : vs.length = l.length := by
    rw [pm.length_eq, List.length_map, Array.length_toList]
    exact size
  -- the texts of the table are l's, in another sequence
  have perm : (vs.map strOf).Perm l := by
    have sub : ∀ x, x ∈ l → x ∈ vs.map strOf := fun x hx => by
      obtain ⟨e, he, q⟩ := (F.mem x).mp hx
      have q : Value.isStrOf x e.2 = true := q
      refine List.mem_map.mpr ⟨e.2, pm.mem_iff.mpr (List.mem_map_of_mem he), ?_⟩
      cases z : e.2 with
      | str y tk =>
        rw [z] at q
        have : y = x := by simpa [Value.isStrOf] using q
        rw [this]
        rfl
      | _ => rw [z] at q; cases q
    exact perm_sub l _ nd sub (by rw [List.length_map, lv]; exact Nat.le_refl _)
  refine wpAny_bind (wpAny_newList ?_ (by rw [lv, sizeLine_eq]; omega))
  have new : (s1.heap.push (seqObj "list" vs.toArray 0)).get? s1.heap.objs.size = some (seqObj "list" vs.toArray 0) := Heap.get?_push_size _ rfl
  refine wpAny_bind (wpAny_holding (wpAny_call_entry slot_list_sort ⟨_, new, rfl⟩ entry_list_sort (list_sort_treeKAny strKind_oneLt new S.keysOf (fun v₁ v₂ rest e => keyKind_strs (by rw [← e]; exact S)) (by rw [lv, sizeLine_eq]; omega)
    fun st' hp hs => ?_) (args_list_sort _)))
  obtain ⟨ys, h1, h2, h3⟩ := sorted_out_str S hp hs
  refine ⟨_, rfl, ?_⟩
  obtain ⟨c, hc⟩ := sortedHeap_at (vs := vs) (out := (arrOf st').map (·.2)) new
  refine wpAny_pure ⟨_, rfl, hQ _ s1.heap.objs.size _ c ys (fun b u e => ?_) g1 o1 hz hc h1 (h2.trans perm) h3⟩
  have q := k1 b u e
  have lt := Heap.lt_size q
  exact (sortedHeap_old (Nat.ne_of_lt lt) (by rw [size_push']; exact Nat.lt_succ_of_lt lt)).trans (Heap.get?_push_of_some _ q)
end
/-- the set of the texts l, as an object of the abstract heap -/
def TxO (P : Program) (w : World) (a : Addr) (l : List Str) : HO := .ext fun h => TxSet P w h a l
theorem txO_new {P : Program} {w : World} {H : Hp} {h : Heap} {a : Addr} {l : List Str} (R : TxSet P w h a l) : ObjOk P w H h a (TxO P w a l) := by
  have he : ∃ o, h.get? a = some o := by
    obtain ⟨D, ho, _⟩ := R
    exact ⟨_, ho⟩
  exact ⟨R, he, fun _ _ p k => TxSet.at p k⟩
section
variable {X : Cx}
theorem txO_get {pins : List (Addr × Obj)} {σ : L2.St} {H : Hp} {s : Shared} {a : Addr} {l : List Str} (I : Inv X pins σ H s) (ha : H a = some (TxO X.prog X.w a l)) : TxSet X.prog X.w s.heap a l := (I.hok a _ ha).1
theorem txO_add {pins : List (Addr × Obj)} {σ : L2.St} {H : Hp} {s : Shared} {E : Value → Shared → Prop} {D : Addr} {l : List Str} {y : Str} {u : Tok} {Q : Value → Shared → Prop} (I : Inv X pins σ H s) (hD : H D = some (TxO X.prog X.w D l)) (room : l.length + 1 < scanBound)
    (h : ∀ s', Inv X pins σ (upd H D (TxO X.prog X.w D (addS y l))) s' → Q .none s') : wpAny (model X.prog X.w) X.A (call (.builtin "set.add") [.ref D, .str y u]) Q E s := by
  refine tx_add (txO_get I hD) room fun h' sb new => h _ (I.write (e := D) (t' := s.toks + 1) (by rw [hD]; trivial) (.inl rfl) (fun b u hb hu => (sb.2 b hb).trans hu) ?_ (txO_new new))
  obtain ⟨D', ho, _⟩ := new
  exact ⟨_, ho⟩
/-- sorted(found), fewer than 64 texts -/
def rSortedTx (X : Cx) : List V → Hp → VK → Prop := fun vs H Q => ∃ (a : Addr) (l : List Str), vs = [V.ref a] ∧ H a = some (TxO X.prog X.w a l) ∧ l.length < 64 ∧
  ∀ (ys : List Str) (p : Addr), ys.Perm l → l.Nodup → sortedS ys = true → H p = none → Q (.ref p) (upd H p (.lst (ys.map V.str)))
theorem cr_sortedTx (calm : X.calm = true) : CallR X (.builtin "sorted") (rSortedTx X) := by
  intro pins s σ H vs us Q I r ⟨a, l, e, ha, few, q⟩
  subst e
  rw [Vals.ref1 r]
  have R := txO_get I ha
  refine tx_sorted R (I.ok.hd calm) few fun s' p out c ys k g o hp new ai pm so => ?_
  have none : H p = Option.none := I.hok.fresh hp
  have len : (ys.map V.str).length ≤ sizeLine := by rw [List.length_map, pm.length_eq, sizeLine_eq]; omega
  have J : Inv X pins σ (upd H p (.lst (ys.map V.str))) { s with heap := s'.heap, gens := s'.gens, drawn := s'.drawn, toks := s'.toks } :=
    I.call (ch := []) (Un.laid k hp none) (I.hok.laid k hp ⟨len, out.toList, c, vals_of_strs ai, new⟩) (by rw [g]; exact I.bare) (fun _ z => nomatch z)
  have same : s' = { s with heap := s'.heap, gens := s'.gens, drawn := s'.drawn, toks := s'.toks } := by
    cases s'
    cases s
    cases o
    rfl
  rw [same]
  exact ⟨.ref p, _, J, rfl, q ys p pm R.once so none⟩
/-- {elt for target in iter if ..}, elt a text: D the new set -/
def tScT (P : Program) (w : World) (wi : TI) (g : TG) (tt : TT) (te : TE) (vs : List Nat) : TE := fun σ H Q => wi σ H fun J H1 => ∀ D, H1 D = none → ∃ W : Nat → Nat → Hp → Prop, (∃ m, W 0 m (upd H1 D (TxO P w D []))) ∧ ∀ i m G, W i m G →
  (J.stop i G ∧ Q (.ref D) G) ∨ (J.go i G ∧ ∃ Nx : Hp → Prop, (∀ G', Nx G' → ∃ m', m' < m ∧ W (i + 1) m' G') ∧ ∀ x G', J.yld i G x G' → g x (wipe σ vs) G' fun σ2 H2 => wipe σ2 vs = wipe σ vs ∧ tt σ2 H2 fun b H3 =>
    if b = true then te σ2 H3 fun y H4 => ∃ (c : Str) (l : List Str), y = .str c ∧ H4 D = some (TxO P w D l) ∧ l.length + 1 < scanBound ∧ Nx (upd H4 D (TxO P w D (addS c l))) else Nx H3)
/-- an empty set -/
theorem tx_fresh {P : Program} {h : Heap} (w : World) : TxSet P w (h.push { cls := .type "set", dict := none, data := .set #[] 0 (.fresh 0 0 (!w.params.followText "set-order")) }) h.objs.size [] := by
  refine ⟨(#[], 0, .fresh 0 0 (!w.params.followText "set-order")), Heap.get?_push_size _ rfl, Froz.TxOk.nil rfl, List.nodup_nil, List.Pairwise.nil, ?_⟩
  show _ ∨ (!w.params.followText "set-order") = true
  cases w.params.followText "set-order"
  · exact .inr rfl
  · exact .inl rfl
theorem pe_scT {elt tg iter : Expr} {ifs : List Expr} {scope : Scope} {own : List (PySem.Str × Nat)} {pos : Pos} {wi : TI} {g : TG} {tt : TT} {te : TE} (hc : X.calm = true) (hN : X.N.Nodup) (hi : PI X tg iter wi) (ok : BlkOk X.N X.env.scope scope own)
    (hg : ∀ (s : Shared) (H : Hp) (C : Addr) (cl : List (PySem.Str × Addr)) (fp : List Addr), PG (X.blk s H scope (compEnvC scope cl C X.env) fp) tg g) (ht : ∀ (s : Shared) (H : Hp) (C : Addr) (cl : List (PySem.Str × Addr)) (fp : List Addr), PTs (X.blk s H scope (compEnvC scope cl C X.env) fp) ifs tt)
    (he : ∀ (s : Shared) (H : Hp) (C : Addr) (cl : List (PySem.Str × Addr)) (fp : List Addr), PE (X.blk s H scope (compEnvC scope cl C X.env) fp) elt te) (hs : ∀ x, foldedSetIterable iter X.env x = pure x := by intro _; rfl) :
    PE X (.SetComp elt [⟨tg, iter, ifs, 0⟩] scope pos) (tScT X.prog X.w wi g tt te (own.map (·.2))) := by
  constructor
  intro pins s σ H Q I h
  rw [PpSet.eval_SetComp]
  have free : ∀ y ∈ scope.names, y.2 = .free → ∃ c, X.env.cells.lookup y.1 = some c := fun y hy e => (ok.free y hy e).elim (fun k => I.ok.has _ (.inl k)) fun k => I.ok.has _ (.inr k)
  refine wpAny_comprehension_free rfl hs (closure_ok free) ok.kind (fun y hy e => by rw [ok.uniq y hy, e]) (thn (hi.run pins s σ H _ I h) fun _ s1 h1 => thn h1 fun _ s2 h2 => ?_)
  obtain ⟨it, fp, tn, J, H2, e0, I2, T, st2, f2, q⟩ := h2
  subst e0
  refine PpSet.newSet_ok (newEnv_comp ?_)
  generalize hD : s2.heap.objs.size = D
  obtain ⟨W, ⟨m0, w0⟩, turn⟩ := q D (I2.hok.fresh (Nat.le_of_eq hD))
  -- the set stands, empty
  generalize hT : TxO X.prog X.w D [] = T0 at w0
  have stay : ∀ b o, s2.heap.get? b = some o → (s2.heap.push { cls := .type "set", dict := none, data := .set #[] 0 (.fresh 0 0 (!X.w.params.followText "set-order")) }).get? b = some o := fun b o e => Heap.get?_push_of_some _ e
  have I3 : Inv X pins σ (upd H2 D T0) { s2 with heap := s2.heap.push { cls := .type "set", dict := none, data := .set #[] 0 (.fresh 0 0 (!X.w.params.followText "set-order")) } } := by
    refine I2.laid (t' := s2.toks) stay (Nat.le_of_eq hD) ?_
    rw [← hT, ← hD]
    exact txO_new (tx_fresh X.w)
  have room : ∀ b ∈ fp, b < s2.heap.objs.size := fun b hb => by
    obtain ⟨o, e, _⟩ := T.obj _ _ st2 b hb
    exact Heap.lt_size e
  have grow : ∀ b ∈ fp, b < (s2.heap.push { cls := .type "set", dict := none, data := .set #[] 0 (.fresh 0 0 (!X.w.params.followText "set-order")) }).objs.size := fun b hb => by
    rw [Heap.size_push]
    exact Nat.lt_succ_of_lt (room b hb)
  have st3 := T.keep _ _ _ st2 fun b _ o e => stay b o e
  generalize hs3 : ({ s2 with heap := s2.heap.push { cls := .type "set", dict := none, data := .set #[] 0 (.fresh 0 0 (!X.w.params.followText "set-order")) } } : Shared) = s3 at I3
  have h3 : s3.heap = s2.heap.push { cls := .type "set", dict := none, data := .set #[] 0 (.fresh 0 0 (!X.w.params.followText "set-order")) } := by rw [← hs3]
  rw [← h3] at st3 grow
  have f3 : ∀ b ∈ fp, FpOk X pins (upd H2 D T0) b ∧ b < s3.heap.objs.size := fun b hb =>
    ⟨⟨(upd_ne (by rw [← hD]; exact Nat.ne_of_lt (room b hb))).trans (f2 b hb).1, (f2 b hb).2⟩, grow b hb⟩
  generalize upd H2 D T0 = H3 at I3 f3 w0
  have I4 := block_start I3 ok hN f3
  generalize hcl : cellsFrom (s3.heap.objs.size + 1) scope.names (cloFrom X.env.cells scope.names []) = cl at I4
  have pg := hg s3 H3 s3.heap.objs.size cl fp
  have pt := ht s3 H3 s3.heap.objs.size cl fp
  have pe := he s3 H3 s3.heap.objs.size cl fp
  suffices main : codeAny (model X.prog X.w) X.A (.compStart (.SetComp elt [⟨tg, iter, ifs, 0⟩] scope pos) 0 (.ref it) (.ref D) (compEnvC scope cl s3.heap.objs.size X.env)) (compPost (model X.prog X.w) X.A X.xe none (fun v s' => ∃ x H', Inv X pins σ H' s' ∧ RelV x v ∧ Q x H') (.ref D) s3.heap.objs.size)
      { s3 with heap := pushCells (s3.heap.push { cls := .type "dict", data := .dict #[] }) scope.names } by
    exact main
  generalize hce : compEnvC scope cl s3.heap.objs.size X.env = ce at I4 pg pt pe ⊢
  have cL : ce.locals = s3.heap.objs.size := by rw [← hce]; rfl
  generalize hs4 : ({ s3 with heap := pushCells (s3.heap.push { cls := .type "dict", data := .dict #[] }) scope.names } : Shared) = s4 at I4 ⊢
  have st4 : tn 0 s4.heap := T.keep _ _ _ st3 fun b _ o e => by
    rw [← hs4]
    exact pushCells_keeps _ _ _ _ (Heap.get?_push_of_some _ e)
  -- what the walk holds stands apart
  have apart : ∀ {τ : L2.St} {H' : Hp} {s' : Shared}, Inv (X.blk s3 H3 scope ce fp) [] τ H' s' → (∀ b ∈ fp, H' b = none) → ∀ b ∈ fp, FpOk (X.blk s3 H3 scope ce fp) [] H' b := fun {τ H' s'} I' z b hb =>
    ⟨z b hb, (I'.ok.exf b hb).1, I'.ok.exfs b hb, .inl hb, fun x c e => (I'.ok.exf b hb).2 x c e, fun p hp => nomatch (show p ∈ ([] : List (Addr × Obj)) from by simpa using hp)⟩
  have loop : codeAny (model X.prog X.w) X.A (.compLoop (.SetComp elt [⟨tg, iter, ifs, 0⟩] scope pos) 0 (.ref it) (.ref D) ce) (compPost (model X.prog X.w) X.A X.xe none (fun v s' => ∃ x H', Inv X pins σ H' s' ∧ RelV x v ∧ Q x H') (.ref D) s3.heap.objs.size) s4 := by
    refine PpSet.compLoopS_any (fun n s' => ∃ i H', Inv (X.blk s3 H3 scope ce fp) [] (wipe σ (own.map (·.2))) H' s' ∧ tn i s'.heap ∧ (∀ b ∈ fp, H' b = none) ∧ W i n H') ?_ m0 ⟨0, H3, I4, st4, fun b hb => (f3 b hb).1.1, w0⟩
    rintro n s5 ⟨i, H5, I5, st5, n5, w5⟩
    rcases turn i n H5 w5 with ⟨stop, qq⟩ | ⟨go, Nx, hNx, step⟩
    · refine thnF (T.done (X.blk s3 H3 scope ce fp) rfl rfl rfl hc i [] s5 _ H5 (fun _ _ => False) I5 (apart I5 n5) st5 stop) fun r s6 ⟨hr, I6⟩ => ?_
      subst hr
      have I7 : Inv X pins σ H5 s6 := I3.call' (ch := fp) I6.os I6.base I6.hok I6.bare fun b hb => let z := (f3 b hb).1.2; ⟨z.2.2.1, z.1, z.2.2.2.1, z.2.2.2.2⟩
      have nC : H5 s3.heap.objs.size = none := cL ▸ I6.free
      obtain ⟨m, hn, _⟩ := I6.loc
      have hn : s6.heap.Ns ce.locals m := hn
      rw [cL] at hn
      refine ⟨m, hn, fun h'' sb => ?_⟩
      obtain ⟨z0, z1, z2, z3, z4, z5⟩ := I3.fpOk (Nat.le_refl _) nC
      exact ⟨.ref D, H5, I7.turned (t' := s6.toks) (fun b o hb e => (sb.2 b hb).trans e) z0 z1 z3 z4 z5, rfl, qq⟩
    · refine thnF (T.item (X.blk s3 H3 scope ce fp) rfl rfl rfl hc i [] s5 _ H5 (fun _ _ => False) I5 (apart I5 n5) st5 go) fun r s6 ⟨u, hr, h6⟩ => ?_
      subst hr
      refine thnF h6 fun _ s7 ⟨x, H7, I7, r7, y7, st7, n7⟩ => ?_
      refine thnF (pg.run _ s7 _ H7 x u _ (I7.pinned (apart I7 n7) (T.obj _ _ st7)) r7 (step x H7 y7)) fun _ s8 ⟨τ, H8, I8, hw8, q8⟩ => ?_
      have next : ∀ {s' : Shared} {H' : Hp}, Inv (X.blk s3 H3 scope ce fp) ([] ++ pinsAt fp s7.heap) τ H' s' → Nx H' → ∃ m, m < n ∧ ∃ i H', Inv (X.blk s3 H3 scope ce fp) [] (wipe σ (own.map (·.2))) H' s' ∧ tn i s'.heap ∧ (∀ b ∈ fp, H' b = none) ∧ W i m H' := fun {s' H'} I' nx => by
        obtain ⟨m', hm, w'⟩ := hNx H' nx
        have held : ∀ b ∈ fp, ∀ o, s7.heap.get? b = some o → s'.heap.get? b = some o ∧ H' b = none := fun b hb o e => by
          have z := I'.pin (b, o) (List.mem_append_right _ (List.mem_append_right _ (mem_pinsAt hb e)))
          exact ⟨z.1, z.2.1⟩
        refine ⟨m', hm, i + 1, H', (I'.unpinned (pins := [])).weak (by rw [← hw8, wipe_length]) (fun j v e => (wipe_some (hw8 ▸ e)).1), T.keep _ _ _ st7 fun b hb o e => (held b hb o e).1, fun b hb => ?_, w'⟩
        obtain ⟨o, e, _⟩ := T.obj _ _ st7 b hb
        exact (held b hb o e).2
      refine thnF (pt.run _ s8 τ H8 _ I8 q8) fun b s9 ⟨H9, I9, q9⟩ => ?_
      cases b with
      | false =>
        simp only [Bool.false_eq_true, if_false] at q9 ⊢
        exact next I9 q9
      | true =>
        simp only [if_true] at q9 ⊢
        refine thnF (pe.run _ s9 τ H9 _ I9 q9) fun z s10 ⟨yv, H10, I10, r10, cb, l0, ey, hD10, hz10, nx⟩ => ?_
        subst ey
        obtain ⟨tk, rfl⟩ : ∃ tk, z = Value.str cb tk := r10
        exact txO_add (X := X.blk s3 H3 scope ce fp) I10 hD10 hz10 fun s11 I11 => next I11 nx
  exact PpSet.codeAny_compStart_set loop (T.self X.A 0 _ _ _ st4 loop)
end
end Ct

/-! Numbers as texts: what the reader of fractions asks of them. -/
namespace Ct
open PySem PySem.Spec PyProof.Rows L2 TL
theorem numL_head {n : Nat} : n ≠ 0 → ∃ c r, numL n = c :: r ∧ c ≠ 48 := by
  induction n using Nat.strongRecOn with
  | _ n ih =>
    intro h
    by_cases h10 : n < 10
    · exact ⟨48 + n, [], numL_lt h10, by omega⟩
    · obtain ⟨c, r, e, hc⟩ := ih (n / 10) (by omega) (by omega)
      exact ⟨c, r ++ [48 + n % 10], by rw [numL_step (by omega), e]; rfl, hc⟩
theorem tl_numText (i : Int) : tl (numText i) = if i < 0 then 45 :: numL i.natAbs else numL i.natAbs := by
  unfold numText
  split
  · rename_i h
    obtain ⟨n, rfl⟩ : ∃ n : Nat, i = Int.negSucc n := ⟨i.natAbs - 1, by omega⟩
    have e : toString (Int.negSucc n) = "-" ++ toString (n + 1) := rfl
    rw [e, tl_ofString, String.toList_append, List.map_append, ← tl_ofString (toString (n + 1))]
    have q := tl_num (n + 1)
    have z : toString (((n + 1 : Nat)) : Int) = toString (n + 1) := rfl
    rw [z] at q
    rw [q]
    rfl
  · rename_i h
    obtain ⟨n, rfl⟩ := Int.eq_ofNat_of_zero_le (show 0 ≤ i by omega)
    exact tl_num n
/-- the digits alone -/
def dig (i : Int) : Str := ⟨(numL i.natAbs).toArray⟩
theorem tl_dig (i : Int) : tl (dig i) = numL i.natAbs := rfl
theorem tl_cut1 (z : Str) : tl (cutS z none (some 1)) = (tl z).take 1 := by
  unfold cutS
  rw [tl_mk]
  show ((tl z).drop 0).take (min 1 z.length - 0) = _
  rw [List.drop_zero, len_tl]
  cases tl z with
  | nil => rfl
  | cons c r =>
    have e : min 1 (c :: r).length - 0 = 1 := by simp
    rw [e]
theorem tl_cutR (z : Str) : tl (cutS z (some 1) none) = (tl z).drop 1 := by
  unfold cutS
  rw [tl_mk]
  show ((tl z).drop (min 1 z.length)).take (z.length - min 1 z.length) = _
  rw [len_tl]
  cases tl z with
  | nil => rfl
  | cons c r =>
    have e : min 1 (c :: r).length = 1 := by simp
    rw [e]
    simp
theorem minus_tl : tl ("-" : Str) = [45] := by decide +kernel
theorem zero_tl : tl ("0" : Str) = [48] := by decide +kernel
theorem digits_tl : tl ("0123456789" : Str) = [48, 49, 50, 51, 52, 53, 54, 55, 56, 57] := by decide +kernel
theorem letters_tl : tl ("abcdefghijklmnopqrstuvwxyz" : Str) = [97, 98, 99, 100, 101, 102, 103, 104, 105, 106, 107, 108, 109, 110, 111, 112, 113, 114, 115, 116, 117, 118, 119, 120, 121, 122] := by decide +kernel
theorem in_digits {c : Nat} (h : 48 ≤ c ∧ c ≤ 57) : decide (c ∈ tl ("0123456789" : Str)) = true := by
  rw [digits_tl]
  refine decide_eq_true ?_
  simp
  omega
theorem in_letters {c : Nat} (h : 97 ≤ c ∧ c ≤ 122) : decide (c ∈ tl ("abcdefghijklmnopqrstuvwxyz" : Str)) = true := by
  rw [letters_tl]
  refine decide_eq_true ?_
  simp
  omega
theorem num_digit {n c : Nat} (h : c ∈ numL n) : 48 ≤ c ∧ c ≤ 57 := numL_digits n c h
theorem num_neg {i : Int} (h : i < 0) : cutS (numText i) none (some 1) = "-" ∧ cutS (numText i) (some 1) none = dig i := by
  refine ⟨ext_tl ?_, ext_tl ?_⟩
  · rw [tl_cut1, tl_numText, if_pos h, minus_tl]
    rfl
  · rw [tl_cutR, tl_numText, if_pos h]
    rfl
theorem num_pos {i : Int} (h : ¬ i < 0) : cutS (numText i) none (some 1) ≠ "-" ∧ numText i = dig i := by
  refine ⟨fun z => ?_, ext_tl ?_⟩
  · have e := congrArg tl z
    rw [tl_cut1, tl_numText, if_neg h, minus_tl] at e
    cases q : numL i.natAbs with
    | nil => exact numL_ne _ q
    | cons c r =>
      rw [q] at e
      have hc : c = 45 := by simpa using e
      have := num_digit (n := i.natAbs) (c := c) (by rw [q]; exact List.mem_cons_self)
      omega
  · rw [tl_numText, if_neg h]
    rfl
/-- the first digit is no nought, but in 0 itself -/
theorem num_first (i : Int) : ∃ c r, numL i.natAbs = c :: r ∧ (c ≠ 48 ∨ i = 0) := by
  by_cases h : i = 0
  · subst h
    exact ⟨48, [], numL_lt (by decide), .inr rfl⟩
  · obtain ⟨c, r, e, hc⟩ := numL_head (n := i.natAbs) (by omega)
    exact ⟨c, r, e, .inl hc⟩
theorem big_pow {n : Nat} (h : n < 2 ^ 1000) : n < 10 ^ 302 := Nat.lt_trans h (by decide +kernel)
theorem numText_len {i : Int} (h : i.natAbs < 2 ^ 1000) : (numText i).length ≤ 303 := by
  have := numL_len (k := 302) (by decide) (big_pow h)
  rw [len_tl, tl_numText]
  split
  · rw [List.length_cons]; omega
  · omega
theorem num_read {i : Int} (h : i.natAbs < 2 ^ 1000) : PySem.intText? (numText i) = some i := by
  have l := numL_len (k := 302) (by decide) (big_pow h)
  have l2 := numText_len h
  by_cases hi : i < 0
  · have q := PySem.intText_neg (x := numText i) (cs := numL i.natAbs) (by have q2 := tl_numText i; rw [if_pos hi] at q2; exact q2) (numL_digits _) (numL_ne _) (by omega)
    rw [q, numL_val]
    congr 1
    omega
  · have e : numText i = Str.ofString (toString ((i.natAbs : Nat) : Int)) := by
      rw [show ((i.natAbs : Nat) : Int) = i by omega]
      rfl
    rw [e, int_num (by omega)]
    congr 1
    omega
theorem num_free {i : Int} {s : Nat} (h : s < 45 ∨ 57 < s ∨ s = 47) : s ∉ tl (numText i) := by
  rw [tl_numText]
  intro hm
  split at hm
  · rcases List.mem_cons.mp hm with q | q
    · omega
    · have := num_digit q
      omega
  · have := num_digit hm
    omega
end Ct

/-! enumerate(xs, start=k) over a list; a call by keywords alone. -/
namespace Ct
open PySem PySem.Spec PyProof.Rows L2 TL
def ItFrom (K : PySem.W.Frag) (k : Int) (a : Addr) : It where
  go := fun i H => ∃ xs x, SqL K H a xs ∧ xs[i]? = some x
  yld := fun i H v H' => ∃ T x, v = .ref T ∧ H T = none ∧ H' = upd H T (.tup [.int (k + (i : Nat)), x]) ∧
    ∀ xs, SqL K H a xs → xs[i]? = some x
  stop := fun i H => ∃ xs, SqL K H a xs ∧ xs.length ≤ i
theorem turn_from {P : Program} {w : World} {K : PySem.W.Frag} {elts : List Expr} {kk : Nat} {tpos : Pos} (k : Int) (a e it : Addr) :
    Turn P w K (.Tuple elts kk tpos) (ItFrom K k a) [e, it] e fun i h => (∃ o, IsEnum h e it (k + ((i : Nat) : Int)) o) ∧ h.IsListIter it a i ∧ e ≠ it ∧ e ≠ a ∧ a ≠ it where
  mem := List.mem_cons_self
  obj := by
    rintro i h ⟨⟨w0, hE⟩, ⟨w1, hI, _, hF⟩, _⟩ b hb
    rcases List.mem_cons.mp hb with rfl | hb
    · exact ⟨_, hE, fun v z => nomatch z⟩
    · obtain rfl := List.mem_singleton.mp hb
      exact ⟨w1, hI, fun v z => by rw [hF] at z; cases z⟩
  keep := by
    rintro i h h' ⟨⟨w0, hE⟩, hI, n1, n2, n3⟩ kp
    exact ⟨⟨w0, kp e List.mem_cons_self _ hE⟩, hI.at fun o z => kp it (List.mem_cons_of_mem _ List.mem_cons_self) o z, n1, n2, n3⟩
  item := by
    rintro X rfl rfl rfl hc i pins s σ H E I hf ⟨⟨w0, hE⟩, hI, n1, n2, n3⟩ ⟨xs, x, hxs, hxi⟩
    obtain ⟨zs, rz, pz, lz⟩ := I.list hxs
    obtain ⟨y, hy, ry⟩ := rz.get hxi
    have lt1 := Heap.lt_size hE
    have lt2 : it < s.heap.objs.size := by
      obtain ⟨_, z, _⟩ := hI
      exact Heap.lt_size z
    have Dl := Draws.list (prog := X.prog) (w := X.w) (A := X.A.in1) (I.ok.hd hc) it a n3 zs.toArray
    have hyi : i < zs.toArray.size := by
      have := (List.getElem?_eq_some_iff.mp hy).1
      simpa using this
    refine wpAny_pyNext_enum_itemC (i := i) Dl hE ⟨hI, pz.isList⟩ hyi n1 (by simp [n1, n2]) fun x2 h1 tk hx2 hO st1 hT hsz hk => ?_
    obtain rfl : y = x2 := by
      have e2 : zs[i]? = some x2 := by simpa using hx2
      rw [hy] at e2
      exact Option.some.inj e2
    refine ⟨_, rfl, wpAny_letOwnedTupleGo_enum (s := { s with heap := h1, toks := tk + 1 }) hO fun h2 hE2 sb => ?_⟩
    have hT2 := (sb.2 _ (Nat.ne_of_gt lt1)).trans hT
    have ob : ObjOk X.prog X.w (upd H s.heap.objs.size (.tup [.int (k + (i : Nat)), x])) h2 s.heap.objs.size (.tup [.int (k + (i : Nat)), x]) :=
      ⟨by show 2 ≤ sizeLine; decide, [.int (k + (i : Nat)) tk, y], .cons ⟨_, rfl⟩ (.cons ry .nil), ⟨_, hT2, rfl, _, rfl⟩⟩
    have J := I.turnedNew (t' := tk + 1) (ch := [e, it]) (fun b o hb q => (sb.2 b (fun z => hb (z ▸ List.mem_cons_self))).trans (hk b o (fun z => hb (z ▸ List.mem_cons_self)) (fun z => hb (by simp [z])) q)) hf (Nat.le_refl _) ob
    refine ⟨.ref s.heap.objs.size, _, J, rfl, ⟨_, x, rfl, I.hok.fresh (Nat.le_refl _), rfl, fun ys hys => by rw [I.list_inj hys hxs]; exact hxi⟩, ⟨⟨y, ?_⟩, st1.1.at fun o q => (sb.2 it (Ne.symm n1)).trans q, n1, n2, n3⟩, fun b hb => ?_⟩
    · rw [show (k + ((i + 1 : Nat) : Int)) = k + (i : Int) + 1 by omega]
      exact hE2
    · have hlt : b < s.heap.objs.size := by
        rcases List.mem_cons.mp hb with rfl | hb
        · exact lt1
        · obtain rfl := List.mem_singleton.mp hb
          exact lt2
      rw [upd_ne (Nat.ne_of_lt hlt)]
      exact (hf b hb).1
  done := by
    rintro X rfl rfl rfl hc i pins s σ H E I hf ⟨⟨w0, hE⟩, hI, n1, n2, n3⟩ ⟨xs, hxs, hle⟩
    obtain ⟨zs, rz, pz, lz⟩ := I.list hxs
    have hx : zs.toArray[i]? = none := by
      have := rz.length
      simp
      omega
    have De : Draws X.prog X.w X.A.in1 it [it, a] i (fun _ _ => False) (fun j h => j = i ∧ h.IsListIter it a i ∧ h.IsList a zs.toArray) :=
      { live := fun _ _ st => let ⟨o, ho, _⟩ := st.2.1; ⟨o, ho⟩
        frame := fun _ _ _ st kp => ⟨st.1, st.2.1.at fun o q => kp it (by simp) o q, st.2.2.at fun o q => kp a (by simp) o q⟩
        item := fun j _ _ _ hj st _ => absurd (st.1 ▸ hj) (Nat.lt_irrefl _)
        done := fun s2 Q2 E2 st hE2 => wpAny_nextOf_list_end (I.ok.hd hc) st.2.1 st.2.2 hx fun h2 y q1 q2 => hE2 h2 y q1 q2 }
    obtain ⟨f0, f1, f2, f3, f4, f5⟩ := hf it (by simp)
    exact wpAny_pyNext_enum_endD De hE ⟨rfl, hI, pz.isList⟩ fun h2 eb => ⟨rfl, I.turned (t' := s.toks) (fun b o hb q => eb b o hb q) f0 f1 f3 f4 f5⟩
  self := fun A i s Q E st h => let ⟨⟨_, z⟩, _⟩ := st; wpAny_pyIter_enum z h
/-- how a for over enumerate(e, start=k) is read -/
def iFrom (K : PySem.W.Frag) (k : Int) (ta : TA) : TI := fun σ H R => ta σ H fun vs H1 => ∃ a xs, vs = [.ref a] ∧ SqL K H1 a xs ∧ R (ItFrom K k a) H1
theorem pi_from {X : Cx} {e : Expr} {ta : TA} {p pos kp cp tpos : Pos} {elts : List Expr} {kk j : Nat} {k : Int} (hg : Gl X "enumerate") (hm : X.mg "enumerate" = none) (hk0 : -(2 ^ 63) ≤ k) (hk1 : k < 2 ^ 63) (ha : PA X [e] ta)
    (hs : starEach (e :: []) X.env = (false, eval e X.env) :: starEach [] X.env := by rfl)
    (hpl : ((backTo pos (starEach (e :: []) X.env)).any (·.1) || (backToKw pos (keywordEach [⟨some "start", .Constant (.int k) j cp, kp⟩] X.env)).any (·.1.isNone)) = false := by rfl) : PI X (.Tuple elts kk tpos) (.Call (.Name "enumerate" p) [e] [⟨some "start", .Constant (.int k) j cp, kp⟩] pos) (iFrom X.K k ta) := by
  refine ⟨fun pins s σ H R I h => ?_⟩
  refine wpAny_Call_Name_kw (ld_blt I hg hm boot_enumerate ?_)
  refine PySem.W.callWith_of (P := fun _ => True) hpl (fun _ _ => ⟨.machine, .inr (.inl rfl), fun _ _ _ _ _ z => wpAny_pure z⟩) (PyProof.Rows.evalArgs_kw2 rfl (thn (ha.run pos pins s σ H _ I h) fun us s1 ⟨vs, H1, I1, r1, q1⟩ => ?_) hs)
  obtain ⟨a, xs, rfl, hxs, q⟩ := q1
  refine thn ((pk_cons (nm := some "start") (kpos := kp) (pe_int (X := X) (i := k) (j := j) (pos := cp)) pk_nil).run pos pins s1 σ H1 (fun vs H2 => vs = [.int k] ∧ H2 = H1) I1 ⟨rfl, rfl⟩) fun ws s2 ⟨zs, H2, I2, rz, ez, eH⟩ => ⟨trivial, ?_⟩
  subst ez eH
  cases r1 with
  | cons ra rn =>
    cases rn
    cases ra
    cases rz with
    | cons rk rn2 =>
      cases rn2
      obtain ⟨t, rfl⟩ := rk
      obtain ⟨items, rv, pl, hz⟩ := I2.list hxs
      refine enum_begins_start (begins_list a items.toArray) pl.isList hk0 hk1 fun h1 hE hI hsz kp => wpAny_pyIter_enum hE ?_
      have I3 : Inv X pins σ H2 { s2 with heap := h1 } := I2.kept (t' := s2.toks) kp
      have lt : a < s2.heap.objs.size := by
        obtain ⟨_, z, _⟩ := pl.isList
        exact Heap.lt_size z
      refine ⟨s2.heap.objs.size + 1, [s2.heap.objs.size + 1, s2.heap.objs.size], _, _, H2, rfl, I3, turn_from k a (s2.heap.objs.size + 1) s2.heap.objs.size, ⟨⟨.none, ?_⟩, ⟨_, hI, rfl, rfl⟩, Nat.succ_ne_self _, Nat.ne_of_gt (Nat.lt_succ_of_lt lt), Nat.ne_of_lt lt⟩, fun b hb => ?_, q⟩
      · rw [show k + ((0 : Nat) : Int) = k by omega]
        exact hE
      have ge : s2.heap.objs.size ≤ b := by
        rcases List.mem_cons.mp hb with rfl | hb
        · exact Nat.le_add_right _ _
        · obtain rfl := List.mem_singleton.mp hb
          exact Nat.le_refl _
      exact I2.fpOk ge (I2.hok.fresh ge)
end Ct

/-! A text times an int; noughts ahead of digits. -/
namespace Ct
open PySem PySem.Spec PyProof.Rows L2 TL
theorem foldl_app {α : Type} : ∀ (ls : List (Array α)) (a : Array α), (ls.foldl (· ++ ·) a).toList = a.toList ++ (ls.map Array.toList).flatten
  | [], a => by simp
  | x :: ls, a => by
    rw [List.foldl_cons, foldl_app ls]
    simp
/-- the text's signs so many times -/
def repS (x : Str) (n : Int) : Str := ⟨(List.replicate n.toNat x.cps.toList).flatten.toArray⟩
def rRepS : R2 := fun x y H Q => ∃ (z : Str) (n : Int), x = .str z ∧ y = .int n ∧ -1000000 ≤ n ∧ n ≤ 1000 ∧ z.length ≤ 1000 ∧ Q (.str (repS z n)) H
theorem str_exL {x y : Str} (h : x.cps.toList = y.cps.toList) : x = y := by
  cases x
  cases y
  congr
  exact Array.toList_inj.mp h
theorem len_flat_rep {α : Type} (l : List α) : ∀ n : Nat, (List.replicate n l).flatten.length = n * l.length
  | 0 => by simp
  | n + 1 => by rw [List.replicate_succ, List.flatten_cons, List.length_append, len_flat_rep l n, Nat.succ_mul]; omega
variable {X : Cx}
theorem op_repS : OpR X (binaryOp .Mult) rRepS := by
  intro pins s σ H x y v u Q I rx ry h
  obtain ⟨z, n, rfl, rfl, h1, h2, h3, q⟩ := h
  obtain ⟨t, rfl⟩ := rx
  obtain ⟨t', rfl⟩ := ry
  have hm : z.length * n.toNat ≤ 1000 * 1000 := Nat.mul_le_mul h3 (by omega)
  have zl : z.length = z.cps.toList.length := by
    show z.cps.size = _
    rw [Array.length_toList]
  refine PySem.P.mul_str ?_ (fun g1 g2 => ?_) (fun g1 g2 => ?_) ?_
  · rw [decide_eq_false (by omega), decide_eq_false (by omega)]
    rfl
  · have : n ≤ 1000 := h2
    have p : 1000 ≤ (2 ^ 63 - 1) / n := by
      refine (Int.le_ediv_iff_mul_le (by omega)).mpr ?_
      omega
    omega
  · show decide (z.length * n.toNat > sizeLine) = false
    refine decide_eq_false ?_
    have : sizeLine = 16777216 := by decide
    omega
  · by_cases c1 : n < 1
    · rw [if_pos c1]
      have e : repS z n = Str.empty := str_exL (by
        show (List.replicate n.toNat z.cps.toList).flatten.toArray.toList = _
        rw [show n.toNat = 0 by omega]
        rfl)
      exact ⟨by decide, .str Str.empty, H, I.tok _, ⟨_, rfl⟩, e ▸ q⟩
    · rw [if_neg c1]
      cases c2 : (n == 1 || z.length == 0) with
      | true =>
        rw [if_pos rfl]
        have e : repS z n = z := str_exL (by
          show (List.replicate n.toNat z.cps.toList).flatten.toArray.toList = _
          rcases Bool.or_eq_true _ _ ▸ c2 with c | c
          · rw [show n.toNat = 1 by have := beq_iff_eq.mp c; omega]
            simp
          · have c := beq_iff_eq.mp c
            have e0 : z.cps.toList = [] := List.eq_nil_of_length_eq_zero (by omega)
            rw [e0]
            simp)
        exact ⟨.str z, H, I, ⟨_, rfl⟩, e ▸ q⟩
      | false =>
        rw [if_neg (by decide)]
        have e : (⟨(List.replicate n.toNat z.cps).foldl (· ++ ·) #[]⟩ : Str) = repS z n := str_exL (by
          show ((List.replicate n.toNat z.cps).foldl (· ++ ·) #[]).toList = (List.replicate n.toNat z.cps.toList).flatten.toArray.toList
          rw [foldl_app]
          simp)
        rw [e]
        refine ⟨?_, .str (repS z n), H, I.tok _, ⟨_, rfl⟩, q⟩
        show (List.replicate n.toNat z.cps.toList).flatten.toArray.size ≤ _
        rw [List.size_toArray, len_flat_rep, ← zl, Nat.mul_comm]
        exact Nat.le_trans hm (by decide)
/-! ### noughts ahead of digits -/
open PySem.NumText in
theorem val_acc : ∀ (b : List Nat) (n : Nat), b.foldl (fun acc c => acc * 10 + (c - 48)) n = n * 10 ^ b.length + digitsVal b
  | [], n => by simp [digitsVal]
  | c :: b, n => by
    unfold digitsVal
    rw [List.foldl_cons, List.foldl_cons, val_acc b, val_acc b (0 * 10 + (c - 48)), List.length_cons, Nat.pow_succ]
    generalize digitsVal b = y
    grind
open PySem.NumText in
theorem val_app (a b : List Nat) : digitsVal (a ++ b) = digitsVal a * 10 ^ b.length + digitsVal b := by
  unfold digitsVal
  rw [List.foldl_append, val_acc]
  rfl
open PySem.NumText in
theorem val_noughts : ∀ k : Nat, digitsVal (List.replicate k 48) = 0
  | 0 => rfl
  | k + 1 => by
    rw [show k + 1 = 1 + k by omega, ← List.replicate_append_replicate, val_app, val_noughts k, show digitsVal (List.replicate 1 48) = 0 from rfl, Nat.zero_mul]
theorem take_more {α : Type} (l : List α) (a b : Nat) : l.take (a + b) = l.take a ++ (l.drop a).take b := List.take_add
open PySem.NumText in
theorem val_take {l : List Nat} {a b : Nat} (h : a + b ≤ l.length) : digitsVal (l.take (a + b)) = digitsVal (l.take a) * 10 ^ b + digitsVal ((l.drop a).take b) := by
  rw [take_more, val_app]
  have : ((l.drop a).take b).length = b := by
    rw [List.length_take, List.length_drop]
    omega
  rw [this]
theorem cut_mid {z : Str} {a b : Nat} (h : a ≤ b) (hb : b ≤ z.length) : tl (cutS z (some (a : Int)) (some (b : Int))) = ((tl z).drop a).take (b - a) := by
  unfold cutS
  rw [tl_mk, HT.sIx_nat, HT.sIx_nat, Nat.min_eq_left (Nat.le_trans h hb), Nat.min_eq_left hb]
theorem rg18 : ∀ m : Nat, m < 20 → Builtin.Range.small 0 ((18 * m : Nat) : Int) 18 = true ∧ Builtin.Range.rangeSize 0 ((18 * m : Nat) : Int) 18 = m := by decide +kernel
end Ct

namespace Ct
open PySem PySem.Spec PyProof.Rows L2 TL
abbrev s_is_integer : Stmt := top 13
abbrev N_is_integer : List Str := ["value"]
theorem sc_is_integer : FnScope N_is_integer ["value"] (defScope s_is_integer) := ⟨rfl, rfl, rfl, by decide +kernel, rfl, by decide +kernel, by decide +kernel⟩
abbrev s_is_fraction : Stmt := top 14
abbrev N_is_fraction : List Str := ["value", "top", "bottom"]
theorem sc_is_fraction : FnScope N_is_fraction ["value"] (defScope s_is_fraction) := ⟨rfl, rfl, rfl, by decide +kernel, rfl, by decide +kernel, by decide +kernel⟩
abbrev s_is_above_nought : Stmt := top 15
abbrev N_is_above_nought : List Str := ["value"]
theorem sc_is_above_nought : FnScope N_is_above_nought ["value"] (defScope s_is_above_nought) := ⟨rfl, rfl, rfl, by decide +kernel, rfl, by decide +kernel, by decide +kernel⟩
abbrev s_read_fraction : Stmt := top 21
abbrev N_read_fraction : List Str := ["word", "top", "stroke", "bottom", "number"]
theorem sc_read_fraction : FnScope N_read_fraction ["word"] (defScope s_read_fraction) := ⟨rfl, rfl, rfl, by decide +kernel, rfl, by decide +kernel, by decide +kernel⟩
abbrev s_is_integer_text : Stmt := top 22
abbrev N_is_integer_text : List Str := ["word", "digits", "sign"]
theorem sc_is_integer_text : FnScope N_is_integer_text ["word"] (defScope s_is_integer_text) := ⟨rfl, rfl, rfl, by decide +kernel, rfl, by decide +kernel, by decide +kernel⟩
abbrev s_read_integer : Stmt := top 23
abbrev N_read_integer : List Str := ["word", "digits", "padded", "number", "start"]
theorem sc_read_integer : FnScope N_read_integer ["word"] (defScope s_read_integer) := ⟨rfl, rfl, rfl, by decide +kernel, rfl, by decide +kernel, by decide +kernel⟩
abbrev s_is_name : Stmt := top 28
abbrev N_is_name : List Str := ["value", "sign"]
theorem sc_is_name : FnScope N_is_name ["value"] (defScope s_is_name) := ⟨rfl, rfl, rfl, by decide +kernel, rfl, by decide +kernel, by decide +kernel⟩
abbrev s_names_of : Stmt := top 29
abbrev N_names_of : List Str := ["told", "entry"]
theorem sc_names_of : FnScope N_names_of ["told"] (defScope s_names_of) := ⟨rfl, rfl, rfl, by decide +kernel, rfl, by decide +kernel, by decide +kernel⟩
abbrev s_is_another : Stmt := top 75
abbrev N_is_another : List Str := ["name", "told", "most"]
theorem sc_is_another : FnScope N_is_another ["name", "told", "most"] (defScope s_is_another) := ⟨rfl, rfl, rfl, by decide +kernel, rfl, by decide +kernel, by decide +kernel⟩
abbrev s_is_junction : Stmt := top 76
abbrev N_is_junction : List Str := ["word"]
theorem sc_is_junction : FnScope N_is_junction ["word"] (defScope s_is_junction) := ⟨rfl, rfl, rfl, by decide +kernel, rfl, by decide +kernel, by decide +kernel⟩
def spIsInt : Sp := fun vs H Q _ => ∃ i : Int, vs = [.int i] ∧ Q (.bl true) H
def spIsFr (K : PySem.W.Frag) : Sp := fun vs H Q _ => ∃ (t : Addr) (f : Int × Int), vs = [.ref t] ∧ SqT K H t [.int f.1, .int f.2] ∧ 0 < f.2 ∧ Int.gcd f.1 f.2 = 1 ∧ Q (.bl true) H
def spIsSize (K : PySem.W.Frag) : Sp := fun vs H Q _ => ∃ (t : Addr) (f : Int × Int), vs = [.ref t] ∧ SqT K H t [.int f.1, .int f.2] ∧ 0 < f.2 ∧ Int.gcd f.1 f.2 = 1 ∧ 0 < f.1 ∧ Q (.bl true) H
def spTextOf (K : PySem.W.Frag) : Sp := fun vs H Q _ => ∃ (t : Addr) (f : Int × Int), vs = [.ref t] ∧ SqT K H t [.int f.1, .int f.2] ∧ f.1.natAbs < 2 ^ 1000 ∧ f.2.natAbs < 2 ^ 1000 ∧ Q (.str (fracText f)) H
def spIsNum : Sp := fun vs H Q _ => ∃ i : Int, vs = [.str (numText i)] ∧ i.natAbs < 2 ^ 1000 ∧ ∀ H', Same H H' → Q (.bl true) H'
def spReadI : Sp := fun vs H Q _ => ∃ i : Int, vs = [.str (numText i)] ∧ i.natAbs < 2 ^ 1000 ∧ Q (.int i) H
def spRead (K : PySem.W.Frag) : Sp := fun vs H Q _ => ∃ f : Int × Int, vs = [.str (fracText f)] ∧ FrOk f ∧ ∀ t H', Same H H' → H' t = some (.tup [.int f.1, .int f.2]) → Q (.ref t) H'
def spIsName : Sp := fun vs H Q _ => ∃ x : Str, vs = [.str x] ∧ Name x ∧ ∀ H', Same H H' → Q (.bl true) H'
def spNames (K : PySem.W.Frag) : Sp := fun vs H Q _ => ∃ (a : Addr) (us : List V) (xs : List Str), vs = [.ref a] ∧ SqL K H a us ∧ Paired (HeadAt K H) us xs ∧ xs.length < 1000000 ∧
  ∀ l H', Same H H' → H l = none → H' l = some (.lst (xs.map V.str)) → Q (.ref l) H'
def spNamesT (K : PySem.W.Frag) : Sp := fun vs H Q _ => ∃ (a : Addr) (us : List V) (xs : List Str), vs = [.ref a] ∧ SqT K H a us ∧ Paired (HeadAt K H) us xs ∧ xs.length < 1000000 ∧
  ∀ l H', Same H H' → H l = none → H' l = some (.lst (xs.map V.str)) → Q (.ref l) H'
def spAnother (K : PySem.W.Frag) : Sp := fun vs H Q _ => ∃ (x : Str) (a : Addr) (us : List V) (xs : List Str) (m : Int), vs = [.str x, .ref a, .int m] ∧ Name x ∧ SqL K H a us ∧ Paired (HeadAt K H) us xs ∧ (xs.length : Int) < m ∧ m ≤ 10 ∧ x ∉ xs ∧
  ∀ H', Same H H' → Q (.bl true) H'
def spJunc : Sp := fun vs H Q _ => ∃ x : Str, vs = [.str x] ∧ Junc x ∧ ∀ H', Same H H' → Q (.bl true) H'
theorem tyx_tup {K : PySem.W.Frag} {H : Hp} {t : Addr} {xs : List V} (h : SqT K H t xs) : TyX K H (.ref t) (.type "tuple") := by
  rcases h with (h | ⟨o, h⟩) | ⟨o, its, n, h, c, _⟩
  · exact .base (.tup h)
  · exact .fTuple h
  · exact .kTuple h c
theorem pull_false {c : Bool} {A B : Prop} (hc : c = false) (h : B) : if c = true then A else B := by
  subst hc
  exact iteF h
section
variable {P : Program} {w : World} {K : PySem.W.Frag} {mg : Str → Option Value} {base : Heap}
theorem k_is_integer (D : Lies K mg "is_integer" s_is_integer) (T : Plain mg) : Keeps P w K mg base 1 "is_integer" ["value"] spIsInt := by
  refine D.keeps sc_is_integer (fun _ _ _ _ _ _ us hl => match us, hl with | [_], _ => rfl) (fun vs H Q E h => ?_) (fun f cdv A outer s H vs Q E hr h => ?_)
  · obtain ⟨i, rfl, _⟩ := h
    rfl
  · obtain ⟨i, rfl, k⟩ := h
    refine ⟨_, (pss_one (ps_ret (pe_and (pe_callB call_isi (by rfl) T.n_isinstance b_isinstance (pa_cons (pv 0) (pa_cons (pe_bltn (v := .ty "int") (by rfl) T.n_int b_int rfl) pa_nil))) (pe_one (pe_not (pe_callB call_isi (by rfl) T.n_isinstance b_isinstance (pa_cons (pv 0) (pa_cons (pe_bltn (v := .ty "bool") (by rfl) T.n_bool b_bool rfl) pa_nil)))))))), ?_⟩
    refine ⟨_, rfl, _, _, _, _, true, rfl, .ty _, .base (.int i), kit_ty (by decide +kernel), true, rfl, iteT ?_⟩
    exact ⟨_, rfl, _, _, _, _, false, rfl, .ty _, .base (.int i), kit_ty (by decide +kernel), false, rfl, k⟩
theorem k_is_fraction (D : Lies K mg "is_fraction" s_is_fraction) (T : Plain mg) (G_is_integer : Keeps P w K mg base 1 "is_integer" ["value"] spIsInt) : Keeps P w K mg base 2 "is_fraction" ["value"] (spIsFr K) := by
  refine D.keeps sc_is_fraction (fun _ _ _ _ _ _ us hl => match us, hl with | [_], _ => rfl) (fun vs H Q E h => ?_) (fun f cdv A outer s H vs Q E hr h => ?_)
  · obtain ⟨t, f, rfl, _⟩ := h
    rfl
  · obtain ⟨t, ⟨a, b⟩, rfl, ht, h0, h1, k⟩ := h
    refine ⟨_, (pss_cons (ps_if (PW.pt (pw_or (pt_not (pt_val (pe_callB call_isi (by rfl) T.n_isinstance b_isinstance (pa_cons (pv 0) (pa_cons (pe_bltn (v := .ty "tuple") (by rfl) T.n_tuple b_tuple rfl) pa_nil))))) (pw_or1 (pt_cmpR op_ne (pe_callB call_len_seq (by rfl) T.n_len b_len (pa_cons (pv 0) pa_nil)) pe_int (nomark _)))))
        (pss_one (ps_ret pe_bl))
        pss_nil)
      (pss_cons (ps_asg (pv 0) (pg_tup rfl (pgs_cons (pg_name (i := 1) sc_is_fraction.nd rfl (Or.inl rfl)) (pgs_cons (pg_name (i := 2) sc_is_fraction.nd rfl (Or.inl rfl)) pgs_nil))))
      (pss_cons (ps_if (PW.pt (pw_or (pt_not (pt_val (pe_go G_is_integer (hr.mono (by decide)) rfl (pa_cons (pv 1) pa_nil)))) (pw_or1 (pt_not (pt_val (pe_go G_is_integer (hr.mono (by decide)) rfl (pa_cons (pv 2) pa_nil)))))))
        (pss_one (ps_ret pe_bl))
        pss_nil)
      (pss_one (ps_ret (pe_and (pe_cmpR op_gt (pv 2) pe_int (nomark _)) (pe_one (pe_cmpR op_eq (pe_callBfun cr_gcd rfl T.gcd (pa_cons (pv 1) (pa_cons (pv 2) pa_nil))) pe_int (nomark _))))))))), ?_⟩
    refine ⟨_, rfl, _, _, _, _, true, rfl, .ty _, tyx_tup ht, kit_ty (by decide +kernel), true, rfl, pull_false rfl ⟨_, rfl, t, _, rfl, .inr ht, rfl, false, by rw [show decide (V.int (([V.int a, V.int b].length : Nat) : Int) = V.int 2) = true from decide_eq_true rfl]; rfl, iteF ?_⟩⟩
    refine ⟨_, rfl, t, _, rfl, ht, rfl, _, _, rfl, _, _, rfl, ⟨rfl, ?_⟩⟩
    refine ⟨_, rfl, a, rfl, true, rfl, pull_false rfl ⟨_, rfl, b, rfl, true, rfl, iteF ?_⟩⟩
    refine ⟨_, rfl, _, _, rfl, rfl, _, rfl, if_true_of' (decide_eq_true h0) ?_⟩
    refine ⟨_, rfl, _, rfl, a, b, rfl, rfl, ?_⟩
    have e : (V.int ((Nat.gcd a.natAbs b.natAbs : Nat) : Int)) = V.int 1 := by
      have : Nat.gcd a.natAbs b.natAbs = 1 := h1
      rw [this]
      rfl
    show Q (.bl (decide (V.int ((Nat.gcd a.natAbs b.natAbs : Nat) : Int) = V.int 1))) H
    rw [decide_eq_true e]
    exact k
theorem k_is_above_nought (D : Lies K mg "is_above_nought" s_is_above_nought) (T : Plain mg) (G_is_fraction : Keeps P w K mg base 2 "is_fraction" ["value"] (spIsFr K)) : Keeps P w K mg base 3 "is_above_nought" ["value"] (spIsSize K) := by
  refine D.keeps sc_is_above_nought (fun _ _ _ _ _ _ us hl => match us, hl with | [_], _ => rfl) (fun vs H Q E h => ?_) (fun f cdv A outer s H vs Q E hr h => ?_)
  · obtain ⟨t, f, rfl, _⟩ := h
    rfl
  · obtain ⟨t, f, rfl, ht, h0, h1, h2, k⟩ := h
    refine ⟨_, (pss_one (ps_ret (pe_and (pe_go G_is_fraction (hr.mono (by decide)) rfl (pa_cons (pv 0) pa_nil)) (pe_one (pe_cmpR op_gt (pe_ix ix_tup (pv 0) pe_int (fun _ _ => rfl)) pe_int (nomark _)))))), ?_⟩
    refine ⟨_, rfl, t, f, rfl, ht, h0, h1, true, rfl, iteT ⟨_, rfl, t, _, _, _, rfl, rfl, ht, rfl, _, _, rfl, rfl, ?_⟩⟩
    show Q (.bl (decide (0 < f.1))) H
    rw [decide_eq_true h2]
    exact k
theorem k_is_integer_text (D : Lies K mg "_is_integer_text" s_is_integer_text) (T : Plain mg) : Keeps P w K mg base 1 "_is_integer_text" ["word"] spIsNum := by
  refine D.keeps sc_is_integer_text (fun _ _ _ _ _ _ us hl => match us, hl with | [_], _ => rfl) (fun vs H Q E h => ?_) (fun f cdv A outer s H vs Q E hr h => ?_)
  · obtain ⟨i, rfl, _⟩ := h
    rfl
  · obtain ⟨i, rfl, hi, k⟩ := h
    have l1 := numText_len hi
    have lz : (numText i).length ≤ sizeLine := Nat.le_trans l1 (by decide)
    obtain ⟨c, r, ec, hc⟩ := num_first i
    refine ⟨_, (Evl.pss_cut (ps_set (i := 1) sc_is_integer_text.nd rfl (Or.inl rfl) (pe_ifExp (pt_cmpR op_eq (pe_slice sl_str (pv 0) po_none (po_some pe_int)) pe_str (nomark _)) (pe_slice sl_str (pv 0) (po_some pe_int) po_none) (pv 0)))
      (pss_cons (ps_if (PW.pt (pw_or (pt_cmpR op_eq (pv 1) pe_str (nomark _)) (pw_or1 (pt_not (pt_val (pe_callB (cr_all rfl) (by rfl) T.n_all b_all (pa_cons (pe_lc (own := [("sign", 2)]) (g := gName 2) (tt := tYes) rfl sc_is_integer_text.nd (pi_str (pv 1)) (blkOk_by (N := N_is_integer_text) (sc := defScope s_is_integer_text) (by decide +kernel)) (fun _ _ _ _ _ => pg_name (i := 2) sc_is_integer_text.nd rfl (Or.inl rfl)) (fun _ _ _ _ _ => pts_nil) (fun _ _ _ _ _ => by exact (pe_cmpR op_in_sign (pv 2) (pe_cs T.c_DIGITS rfl) (by rfl)))) pa_nil)))))))
        (pss_one (ps_ret pe_bl))
        pss_nil)
      (pss_one (ps_ret (pe_or (pe_cmpR op_ne (pe_ix ix_str (pv 1) pe_int (fun _ _ => rfl)) pe_str (nomark _)) (pe_one (pe_cmpR op_eq (pv 0) pe_str (nomark _)))))))), ?_⟩
    have ld : (dig i).length ≤ 302 := by
      rw [len_tl, tl_dig]
      exact numL_len (by decide) (big_pow hi)
    have ne : dig i ≠ "" := fun z => by
      have := congrArg tl z
      rw [tl_dig, ec] at this
      cases this
    refine ⟨fun σ' H' => σ' = [some (.str (numText i)), some (.str (dig i)), none] ∧ H' = H, ?_, ?_⟩
    · refine ⟨_, rfl, (1 : Int), rfl, _, rfl, lz, rfl, _, rfl, ite2 (fun h0 => ?_) (fun h0 => ?_)⟩
      · have e0 := V.str.inj (of_decide_eq_true h0)
        by_cases hn : i < 0
        · refine ⟨_, rfl, (1 : Int), rfl, _, rfl, lz, ?_⟩
          refine ⟨?_, rfl⟩
          rw [(num_neg hn).2]
          rfl
        · exact absurd e0 (num_pos hn).1
      · have e0 : cutS (numText i) none (some 1) ≠ "-" := fun z => h0 (decide_eq_true (by rw [z]))
        by_cases hn : i < 0
        · exact absurd (num_neg hn).1 e0
        · refine ⟨_, rfl, ?_, rfl⟩
          have e3 := (num_pos hn).2
          show [some (V.str (numText i)), some (V.str (numText i)), none] = [some (V.str (numText i)), some (V.str (dig i)), none]
          rw [← e3]
    · rintro σ' H' ⟨rfl, rfl⟩
      refine ⟨_, rfl, rfl, _, rfl, pull_false (decide_eq_false fun z => ne (V.str.inj z)) ?_⟩
      refine into_not (into_b (into_cb (into_args1 (comp_str (g := fun c => .bl (decide (c ∈ tl ("0123456789" : Str)))) (fun R q => ⟨_, rfl, q⟩) (Nat.lt_of_le_of_lt ld (by decide)) (fun _ => rfl) (fun c hc H Z hz => ⟨_, rfl, c, _, rfl, rfl, hz⟩) fun D hD => ?_))))
      refine ⟨D, (tl (dig i)).map fun c => decide (c ∈ tl ("0123456789" : Str)), rfl, SqL.of (by rw [List.map_map]; exact upd_same), ?_⟩
      have all : ((tl (dig i)).map fun c => decide (c ∈ tl ("0123456789" : Str))).all id = true := by
        rw [List.all_map]
        exact List.all_eq_true.mpr fun x hx => in_digits (num_digit hx)
      rw [all]
      refine ⟨true, rfl, iteF ?_⟩
      refine ⟨_, rfl, _, (0 : Int), c, rfl, rfl, Nat.le_trans ld (by decide), ?_, ?_⟩
      · show atI (tl (dig i)) 0 = some c
        rw [tl_dig, ec]
        exact atI_nat (j := 0) rfl
      · refine ⟨rfl, ?_⟩
        rcases hc with hc | rfl
        · have e1 : (⟨#[c]⟩ : Str) ≠ "0" := fun z => hc (by
            have := congrArg tl z
            rw [zero_tl] at this
            simpa [tl] using this)
          have e2 : (!decide (V.str (⟨#[c]⟩ : Str) = V.str "0")) = true := by
            rw [decide_eq_false fun z => e1 (V.str.inj z)]
            rfl
          exact ⟨true, congrArg V.bl e2, iteT (k _ (same_upd hD))⟩
        · have e0 : c = 48 := by
            have z : numL (0 : Int).natAbs = [48] := numL_lt (by decide)
            rw [z] at ec
            exact (List.cons.inj ec).1.symm
          subst e0
          refine ⟨false, rfl, iteF ⟨_, rfl, rfl, ?_⟩⟩
          have e3 : numText 0 = "0" := ext_tl (by decide +kernel)
          show Q (.bl (decide (V.str (numText 0) = V.str "0"))) _
          rw [decide_eq_true (congrArg V.str e3)]
          exact k _ (same_upd hD)
theorem k_read_integer (D : Lies K mg "_read_integer" s_read_integer) (T : Plain mg) : Keeps P w K mg base 1 "_read_integer" ["word"] spReadI := by
  refine D.keeps sc_read_integer (fun _ _ _ _ _ _ us hl => match us, hl with | [_], _ => rfl) (fun vs H Q E h => ?_) (fun f cdv A outer s H vs Q E hr h => ?_)
  · obtain ⟨i, rfl, _⟩ := h
    rfl
  · obtain ⟨i, rfl, hi, k⟩ := h
    have l1 := numText_len hi
    have lz : (numText i).length ≤ sizeLine := Nat.le_trans l1 (by decide)
    refine ⟨_, (Evl.pss_cut (ps_set (i := 1) sc_read_integer.nd rfl (Or.inl rfl) (pe_ifExp (pt_cmpR op_eq (pe_slice sl_str (pv 0) po_none (po_some pe_int)) pe_str (nomark _)) (pe_slice sl_str (pv 0) (po_some pe_int) po_none) (pv 0)))
      (pss_cons (ps_set (i := 2) sc_read_integer.nd rfl (Or.inl rfl) (pe_op op_add_str (pe_op op_repS pe_str (pe_op op_mod (pe_un un_neg (pe_callB call_len_str (by rfl) T.n_len b_len (pa_cons (pv 1) pa_nil))) (pe_ci T.c_PIECE rfl))) (pv 1)))
      (pss_cons (ps_set (i := 3) sc_read_integer.nd rfl (Or.inl rfl) pe_int)
      (pss_cons (ps_for PassesOwn.never rfl (pi_range3 rfl T.n_range (pa_cons pe_int (pa_cons (pe_callB call_len_str (by rfl) T.n_len b_len (pa_cons (pv 2) pa_nil)) (pa_cons (pe_ci T.c_PIECE rfl) pa_nil)))) (pg_name (i := 4) sc_read_integer.nd rfl (Or.inl rfl))
        (pss_one (ps_set (i := 3) sc_read_integer.nd rfl (Or.inl rfl) (pe_op op_add (pe_op op_mul (pv 3) (pe_ci T.c_SHIFT rfl)) (pe_callTy call_int_str (by rfl) T.n_int b_int (pa_cons (pe_slice sl_str (pv 2) (po_some (pv 4)) (po_some (pe_op op_add (pv 4) (pe_ci T.c_PIECE rfl)))) pa_nil))))))
      (pss_one (ps_ret (pe_ifExp (pt_cmpR op_eq (pe_slice sl_str (pv 0) po_none (po_some pe_int)) pe_str (nomark _)) (pe_un un_neg (pv 3)) (pv 3)))))))), ?_⟩
    have ld : (dig i).length ≤ 302 := by
      rw [len_tl, tl_dig]
      exact numL_len (by decide) (big_pow hi)
    refine ⟨fun σ' H' => σ' = [some (.str (numText i)), some (.str (dig i)), none, none, none] ∧ H' = H, ?_, ?_⟩
    · refine ⟨_, rfl, (1 : Int), rfl, _, rfl, lz, rfl, _, rfl, ite2 (fun h0 => ?_) (fun h0 => ?_)⟩
      · have e0 := V.str.inj (of_decide_eq_true h0)
        by_cases hn : i < 0
        · refine ⟨_, rfl, (1 : Int), rfl, _, rfl, lz, ?_⟩
          refine ⟨?_, rfl⟩
          rw [(num_neg hn).2]
          rfl
        · exact absurd e0 (num_pos hn).1
      · have e0 : cutS (numText i) none (some 1) ≠ "-" := fun z => h0 (decide_eq_true (by rw [z]))
        by_cases hn : i < 0
        · exact absurd (num_neg hn).1 e0
        · refine ⟨_, rfl, ?_, rfl⟩
          have e3 := (num_pos hn).2
          show [some (V.str (numText i)), some (V.str (numText i)), none, none, none] = [some (V.str (numText i)), some (V.str (dig i)), none, none, none]
          rw [← e3]
    · rintro σ' H' ⟨rfl, rfl⟩
      have dl : (dig i).length = (numL i.natAbs).length := by rw [len_tl, tl_dig]
      have d0 : 0 < (numL i.natAbs).length := List.length_pos_iff.mpr (numL_ne _)
      generalize hL : (numL i.natAbs).length = L at *
      obtain ⟨kk, hkk⟩ : ∃ kk : Nat, ((-(L : Int)) % 18) = (kk : Int) := ⟨((-(L : Int)) % 18).toNat, by omega⟩
      have k18 : kk < 18 := by omega
      obtain ⟨m, hm⟩ : ∃ m : Nat, 18 * m = kk + L := ⟨(kk + L) / 18, by omega⟩
      have ezero : ("0" : Str).length = 1 := by decide +kernel
      refine ⟨_, rfl, dig i, rfl, Nat.le_trans ld (by decide), _, rfl, _, _, rfl, rfl, by show (0 : Int) < 18; decide, "0", (kk : Int), rfl, by show V.int (-((dig i).length : Int) % 18) = V.int (kk : Int); rw [dl, hkk], by omega, by omega, by rw [ezero]; decide, ?_⟩
      have tr : tl (repS "0" (kk : Int)) = List.replicate kk 48 := by
        show (List.replicate (kk : Int).toNat (tl ("0" : Str))).flatten.toArray.toList = _
        rw [zero_tl, Int.toNat_natCast]
        have : ∀ n : Nat, (List.replicate n ([48] : List Nat)).flatten = List.replicate n 48 := by
          intro n
          induction n with
          | zero => rfl
          | succ n ih => rw [List.replicate_succ, List.flatten_cons, ih]; rfl
        rw [this]
      have lr : (repS "0" (kk : Int)).length = kk := by rw [len_tl, tr, List.length_replicate]
      refine ⟨_, rfl, _, _, rfl, rfl, by rw [lr]; show kk + (dig i).length ≤ 16777216; omega, ?_⟩
      have tp : tl (repS "0" (kk : Int) ++ dig i) = List.replicate kk 48 ++ numL i.natAbs := by rw [tl_append, tr, tl_dig]
      have lp : (repS "0" (kk : Int) ++ dig i).length = 18 * m := by
        rw [len_app, lr, dl, hm]
      have dg : ∀ c ∈ tl (repS "0" (kk : Int) ++ dig i), 48 ≤ c ∧ c ≤ 57 := by
        rw [tp]
        intro c hc
        rcases List.mem_append.mp hc with hc | hc
        · rw [List.eq_of_mem_replicate hc]
          omega
        · exact num_digit hc
      have va : PySem.NumText.digitsVal (tl (repS "0" (kk : Int) ++ dig i)) = i.natAbs := by
        rw [tp, val_app, val_noughts, Nat.zero_mul, Nat.zero_add, numL_val]
      generalize repS "0" (kk : Int) ++ dig i = pad at *
      have m20 : m < 20 := by omega
      refine into_name ?_
      dsimp only
      refine into_set ?_
      refine into_name ?_
      refine ⟨_, rfl, pad, rfl, by rw [lp]; show 18 * m ≤ 16777216; omega, 0, ((18 * m : Nat) : Int), 18, m, by rw [lp], ⟨by decide, by decide, (rg18 m m20).1, (rg18 m m20).2⟩, for_rangeC (lo := 0) (c := 18) (n := m) (fun j σ' H2 => ∃ v4 : Option V, σ' = [some (.str (numText i)), some (.str (dig i)), some (.str pad), some (.int (PySem.NumText.digitsVal ((tl pad).take (18 * j)) : Nat)), v4] ∧ H2 = H') ⟨none, rfl, rfl⟩ ?_ ?_⟩
      · rintro j σ' H2 hj ⟨v4, rfl, rfl⟩
        have e0 : (0 : Int) + (j : Nat) * 18 = ((18 * j : Nat) : Int) := by omega
        refine into_name ?_
        dsimp only
        refine ⟨_, rfl, _, _, rfl, rfl, .inr ⟨by decide, by decide⟩, _, rfl, _, rfl, ((18 * j : Nat) : Int), by rw [← e0], _, rfl, _, _, rfl, rfl, ((18 * j + 18 : Nat) : Int), ?_, pad, rfl, by rw [lp]; show 18 * m ≤ 16777216; omega, ?_⟩
        · show V.int (0 + (j : Nat) * 18 + 18) = _
          congr 1
          omega
        have cut := cut_mid (z := pad) (a := 18 * j) (b := 18 * j + 18) (by omega) (by rw [lp]; omega)
        have piece : (((tl pad).drop (18 * j)).take 18).length = 18 := by
          rw [List.length_take, List.length_drop, ← len_tl, lp]
          omega
        rw [show 18 * j + 18 - 18 * j = 18 by omega] at cut
        have cl : (cutS pad (some ((18 * j : Nat) : Int)) (some ((18 * j + 18 : Nat) : Int))).length = 18 := by rw [len_tl, cut, piece]
        have rd : PySem.intText? (cutS pad (some ((18 * j : Nat) : Int)) (some ((18 * j + 18 : Nat) : Int))) = some ((PySem.NumText.digitsVal (((tl pad).drop (18 * j)).take 18) : Nat) : Int) := by
          have q := PySem.intText_digits (x := cutS pad (some ((18 * j : Nat) : Int)) (some ((18 * j + 18 : Nat) : Int))) (by
            intro c hc
            have hc : c ∈ tl (cutS pad (some ((18 * j : Nat) : Int)) (some ((18 * j + 18 : Nat) : Int))) := hc
            rw [cut] at hc
            exact dg c (List.mem_of_mem_drop (List.mem_of_mem_take hc))) (by
            intro z
            have z : tl (cutS pad (some ((18 * j : Nat) : Int)) (some ((18 * j + 18 : Nat) : Int))) = [] := z
            rw [cut] at z
            rw [z] at piece
            exact absurd piece (by decide)) (by rw [cl]; decide)
          rw [q]
          show some (((PySem.NumText.digitsVal (tl _) : Nat)) : Int) = _
          rw [cut]
        refine ⟨_, _, rfl, rd, by rw [cl]; decide, _, _, rfl, rfl, ?_⟩
        refine ⟨some (.int (0 + (j : Nat) * 18)), ?_, rfl⟩
        have vt := val_take (l := tl pad) (a := 18 * j) (b := 18) (by rw [← len_tl, lp]; omega)
        rw [show 18 * (j + 1) = 18 * j + 18 by omega, vt, Int.natCast_add, Int.natCast_mul]
        rfl
      · rintro σ' H2 ⟨v4, rfl, rfl⟩
        have full : (tl pad).take (18 * m) = tl pad := List.take_of_length_le (by rw [← len_tl, lp]; exact Nat.le_refl _)
        rw [full, va]
        refine ⟨_, rfl, (1 : Int), rfl, _, rfl, lz, rfl, _, rfl, ite2 (fun h0 => ?_) (fun h0 => ?_)⟩
        · have e0 := V.str.inj (of_decide_eq_true h0)
          by_cases hn : i < 0
          · refine ⟨_, rfl, _, rfl, ?_⟩
            have : (-((i.natAbs : Nat) : Int)) = i := by omega
            show Q (.int (-((i.natAbs : Nat) : Int))) _
            rw [this]
            exact k
          · exact absurd e0 (num_pos hn).1
        · have e0 : cutS (numText i) none (some 1) ≠ "-" := fun z => h0 (decide_eq_true (by rw [z]))
          by_cases hn : i < 0
          · exact absurd (num_neg hn).1 e0
          · refine ⟨_, rfl, ?_⟩
            have : (((i.natAbs : Nat) : Int)) = i := by omega
            show Q (.int ((i.natAbs : Nat) : Int)) _
            rw [this]
            exact k
theorem k_read_fraction (D : Lies K mg "read_fraction" s_read_fraction) (T : Plain mg) (G_read_integer : Keeps P w K mg base 1 "_read_integer" ["word"] spReadI) (G_is_integer_text : Keeps P w K mg base 1 "_is_integer_text" ["word"] spIsNum) (G_is_fraction : Keeps P w K mg base 2 "is_fraction" ["value"] (spIsFr K)) : Keeps P w K mg base 3 "read_fraction" ["word"] (spRead K) := by
  refine D.keeps sc_read_fraction (fun _ _ _ _ _ _ us hl => match us, hl with | [_], _ => rfl) (fun vs H Q E h => ?_) (fun f cdv A outer s H vs Q E hr h => ?_)
  · obtain ⟨f, rfl, _⟩ := h
    rfl
  · obtain ⟨⟨a, b⟩, rfl, ⟨hb, hg, sa, sb⟩, k⟩ := h
    have sl : tl ("/" : Str) = 47 :: [] := by decide +kernel
    have fr : (47 : Nat) ∉ tl (numText a) := num_free (.inr (.inr rfl))
    have la := numText_len sa
    have lb := numText_len sb
    have lw := frac_len (f := (a, b)) sa sb
    have ls : ("/" : Str).length = 1 := by decide +kernel
    refine ⟨_, (pss_cons (ps_asg (pe_partition (pv 0) pe_str) (pg_tup rfl (pgs_cons (pg_name (i := 1) sc_read_fraction.nd rfl (Or.inl rfl)) (pgs_cons (pg_name (i := 2) sc_read_fraction.nd rfl (Or.inl rfl)) (pgs_cons (pg_name (i := 3) sc_read_fraction.nd rfl (Or.inl rfl)) pgs_nil)))))
      (pss_cons (ps_if (pt_not (pt_val (pe_go G_is_integer_text (hr.mono (by decide)) rfl (pa_cons (pv 1) pa_nil))))
        (pss_one (ps_ret pe_non))
        pss_nil)
      (pss_cons (ps_if (pt_cmpR op_eq (pv 2) pe_str (nomark _))
        (pss_one (ps_ret (pe_tup (pa_cons (pe_go G_read_integer (hr.mono (by decide)) rfl (pa_cons (pv 1) pa_nil)) (pa_cons pe_int pa_nil)))))
        pss_nil)
      (pss_cons (ps_if (pt_not (pt_val (pe_go G_is_integer_text (hr.mono (by decide)) rfl (pa_cons (pv 3) pa_nil))))
        (pss_one (ps_ret pe_non))
        pss_nil)
      (pss_cons (ps_set (i := 4) sc_read_fraction.nd rfl (Or.inl rfl) (pe_tup (pa_cons (pe_go G_read_integer (hr.mono (by decide)) rfl (pa_cons (pv 1) pa_nil)) (pa_cons (pe_go G_read_integer (hr.mono (by decide)) rfl (pa_cons (pv 3) pa_nil)) pa_nil))))
      (pss_cons (ps_if (PW.pt (pw_and (pt_cmpR op_gt (pe_ix ix_tup (pv 4) pe_int (fun _ _ => rfl)) pe_int (nomark _)) (pw_and1 (pt_val (pe_go G_is_fraction (hr.mono (by decide)) rfl (pa_cons (pv 4) pa_nil))))))
        (pss_one (ps_ret (pv 4)))
        pss_nil)
      (pss_one (ps_ret pe_non)))))))), ?_⟩
    refine ⟨_, rfl, ⟨_, rfl⟩, _, _, rfl, rfl, by rw [ls]; rfl, Nat.le_trans lw (by decide), fun q nq => ?_⟩
    by_cases e : b = 1
    · subst e
      have ew : fracText (a, 1) = numText a := by unfold fracText; rw [if_pos rfl]
      rw [ew, partition_none sl fr]
      refine ⟨q, _, rfl, SqT.of upd_same, rfl, _, _, rfl, _, _, rfl, _, _, rfl, ⟨rfl, ?_⟩⟩
      refine ⟨_, rfl, a, rfl, sa, fun H1 s1 => ⟨true, rfl, iteF ?_⟩⟩
      refine ⟨_, rfl, rfl, _, rfl, if_true_of' (decide_eq_true rfl) ?_⟩
      refine ⟨_, rfl, a, rfl, sa, by show 2 ≤ sizeLine; decide, fun t nt => ?_⟩
      exact k t _ ((same_upd nq).trans (s1.trans (same_upd nt))) upd_same
    · have ew : fracText (a, b) = numText a ++ "/" ++ numText b := by unfold fracText; rw [if_neg e]
      rw [ew, partition_app sl fr]
      refine ⟨q, _, rfl, SqT.of upd_same, rfl, _, _, rfl, _, _, rfl, _, _, rfl, ⟨rfl, ?_⟩⟩
      refine ⟨_, rfl, a, rfl, sa, fun H1 s1 => ⟨true, rfl, iteF ?_⟩⟩
      refine ⟨_, rfl, rfl, _, rfl, pull_false (decide_eq_false fun z => ?_) ?_⟩
      · have := congrArg Str.length (V.str.inj z)
        rw [ls] at this
        cases this
      refine ⟨_, rfl, b, rfl, sb, fun H2 s2 => ⟨true, rfl, iteF ?_⟩⟩
      refine ⟨_, rfl, a, rfl, sa, _, rfl, b, rfl, sb, by show 2 ≤ sizeLine; decide, fun t nt => ?_⟩
      refine ⟨_, rfl, t, _, _, _, rfl, rfl, SqT.of upd_same, rfl, _, _, rfl, rfl, _, rfl, if_true_of' (decide_eq_true (show (1 : Int) < b by omega)) ?_⟩
      refine ⟨_, rfl, t, (a, b), rfl, SqT.of upd_same, hb, hg, true, rfl, iteT ?_⟩
      refine ⟨_, rfl, k t _ ((same_upd nq).trans (s1.trans (s2.trans (same_upd nt)))) upd_same⟩
theorem gnd_name {x : Str} (h : Name x) : V.str x ≠ V.str "gnd" := fun z => h.2.2.2 (V.str.inj z)
theorem k_is_name (D : Lies K mg "is_name" s_is_name) (T : Plain mg) : Keeps P w K mg base 1 "is_name" ["value"] spIsName := by
  refine D.keeps sc_is_name (fun _ _ _ _ _ _ us hl => match us, hl with | [_], _ => rfl) (fun vs H Q E h => ?_) (fun f cdv A outer s H vs Q E hr h => ?_)
  · obtain ⟨x, rfl, _⟩ := h
    rfl
  · obtain ⟨x, rfl, hx, k⟩ := h
    refine ⟨_, (pss_cons (ps_if (PW.pt (pw_or (pt_not (pt_val (pe_callB call_isi (by rfl) T.n_isinstance b_isinstance (pa_cons (pv 0) (pa_cons (pe_bltn (v := .ty "str") (by rfl) T.n_str b_str rfl) pa_nil))))) (pw_or1 (pt_cmpR op_eq (pv 0) (pe_cs T.c_GROUND rfl) (nomark _)))))
        (pss_one (ps_ret pe_bl))
        pss_nil)
      (pss_one (ps_ret (pe_and (pe_chain op_le op_le pe_int (pe_callB call_len_str (by rfl) T.n_len b_len (pa_cons (pv 0) pa_nil)) (pe_ci T.c_LONGEST_NAME rfl)) (pe_one (pe_callB (cr_all rfl) (by rfl) T.n_all b_all (pa_cons (pe_lc (own := [("sign", 1)]) (g := gName 1) (tt := tYes) rfl sc_is_name.nd (pi_str (pv 0)) (blkOk_by (N := N_is_name) (sc := defScope s_is_name) (by decide +kernel)) (fun _ _ _ _ _ => pg_name (i := 1) sc_is_name.nd rfl (Or.inl rfl)) (fun _ _ _ _ _ => pts_nil) (fun _ _ _ _ _ => by exact (pe_cmpR op_in_sign (pv 1) (pe_cs T.c_LETTERS rfl) (by rfl)))) pa_nil))))))), ?_⟩
    refine ⟨_, rfl, _, _, _, _, true, rfl, .ty _, .base (.str x), kit_ty (by decide +kernel), true, rfl, pull_false rfl ⟨_, rfl, rfl, _, rfl, pull_false (decide_eq_false (gnd_name hx)) ?_⟩⟩
    refine ⟨_, rfl, x, rfl, Nat.le_trans hx.2.1 (by decide), _, _, rfl, rfl, true, congrArg V.bl (decide_eq_true (by have := hx.1; omega)), iteT ⟨_, _, rfl, rfl, true, congrArg V.bl (decide_eq_true (by have := hx.2.1; omega)), iteT ?_⟩⟩
    refine into_cb (into_args1 (comp_str (g := fun c => .bl (decide (c ∈ tl ("abcdefghijklmnopqrstuvwxyz" : Str)))) (fun R q => ⟨_, rfl, q⟩) (Nat.lt_of_le_of_lt hx.2.1 (by decide)) (fun _ => rfl) (fun c hc H Z hz => ⟨_, rfl, c, _, rfl, rfl, hz⟩) fun D hD => ?_))
    refine ⟨D, (tl x).map fun c => decide (c ∈ tl ("abcdefghijklmnopqrstuvwxyz" : Str)), rfl, SqL.of (by rw [List.map_map]; exact upd_same), ?_⟩
    have all : ((tl x).map fun c => decide (c ∈ tl ("abcdefghijklmnopqrstuvwxyz" : Str))).all id = true := by
      rw [List.all_map]
      exact List.all_eq_true.mpr fun y hy => in_letters (hx.2.2.1 y hy)
    rw [all]
    exact k _ (same_upd hD)
theorem k_names_of (D : Lies K mg "names_of" s_names_of) (T : Plain mg) : Keeps P w K mg base 1 "names_of" ["told"] (spNames K) := by
  refine D.keeps sc_names_of (fun _ _ _ _ _ _ us hl => match us, hl with | [_], _ => rfl) (fun vs H Q E h => ?_) (fun f cdv A outer s H vs Q E hr h => ?_)
  · obtain ⟨a, us, xs, rfl, _⟩ := h
    rfl
  · obtain ⟨a, us, xs, rfl, hS, pr, hz, k⟩ := h
    refine ⟨_, (pss_one (ps_ret (pe_lc (own := [("entry", 1)]) (g := gName 1) (tt := tYes) rfl sc_names_of.nd (pi_list (pv 0)) (blkOk_by (N := N_names_of) (sc := defScope s_names_of) (by decide +kernel)) (fun _ _ _ _ _ => pg_name (i := 1) sc_names_of.nd rfl (Or.inl rfl)) (fun _ _ _ _ _ => pts_nil) (fun _ _ _ _ _ => by exact (pe_ix (ix_tupK (K := K) rfl) (pv 1) pe_int (fun _ _ => rfl)))))), ?_⟩
    refine into_ret (comp_pure (f := fun x : Str => x) (R := HeadAt K H) (R' := fun _ => StrV) (fun R r => ⟨_, rfl, r⟩) hS pr (by rw [pr.length]; exact hz) (fun _ _ _ h => h) (fun _ _ _ _ h => h) (fun v e H0 Z r he s0 hZ => ?_) (fun H2 D acc hD s2 hL hp => ?_))
    · obtain ⟨t, rst, rfl, ht⟩ := r
      exact ⟨rfl, _, rfl, t, _, _, _, rfl, rfl, SqT.same s0 ht, atI_nat (j := 0) rfl, hZ _ _ (Same.refl _) rfl⟩
    · rw [List.map_id'] at hp
      have e := strs_are hp
      subst e
      exact k D H2 s2 hD hL
theorem k_names_ofT (D : Lies K mg "names_of" s_names_of) (T : Plain mg) : Keeps P w K mg base 1 "names_of" ["told"] (spNamesT K) := by
  refine D.keeps sc_names_of (fun _ _ _ _ _ _ us hl => match us, hl with | [_], _ => rfl) (fun vs H Q E h => ?_) (fun f cdv A outer s H vs Q E hr h => ?_)
  · obtain ⟨a, us, xs, rfl, _⟩ := h
    rfl
  · obtain ⟨a, us, xs, rfl, hS, pr, hz, k⟩ := h
    refine ⟨_, (pss_one (ps_ret (pe_lc (own := [("entry", 1)]) (g := gName 1) (tt := tYes) rfl sc_names_of.nd (pi_tup (pv 0)) (blkOk_by (N := N_names_of) (sc := defScope s_names_of) (by decide +kernel)) (fun _ _ _ _ _ => pg_name (i := 1) sc_names_of.nd rfl (Or.inl rfl)) (fun _ _ _ _ _ => pts_nil) (fun _ _ _ _ _ => by exact (pe_ix (ix_tupK (K := K) rfl) (pv 1) pe_int (fun _ _ => rfl)))))), ?_⟩
    refine into_ret (comp_pureT (f := fun x : Str => x) (R := HeadAt K H) (R' := fun _ => StrV) (fun R r => ⟨_, rfl, r⟩) hS pr (by rw [pr.length]; exact hz) (fun _ _ _ h => h) (fun _ _ _ _ h => h) (fun v e H0 Z r he s0 hZ => ?_) (fun H2 D acc hD s2 hL hp => ?_))
    · obtain ⟨t, rst, rfl, ht⟩ := r
      exact ⟨rfl, _, rfl, t, _, _, _, rfl, rfl, SqT.same s0 ht, atI_nat (j := 0) rfl, hZ _ _ (Same.refl _) rfl⟩
    · rw [List.map_id'] at hp
      have e := strs_are hp
      subst e
      exact k D H2 s2 hD hL
theorem k_is_another (D : Lies K mg "_is_another" s_is_another) (T : Plain mg) (G_is_name : Keeps P w K mg base 1 "is_name" ["value"] spIsName) (G_names_of : Keeps P w K mg base 1 "names_of" ["told"] (spNames K)) :
    Keeps P w K mg base 2 "_is_another" ["name", "told", "most"] (spAnother K) := by
  refine D.keeps sc_is_another (fun _ _ _ _ _ _ us hl => match us, hl with | [_, _, _], _ => rfl) (fun vs H Q E h => ?_) (fun f cdv A outer s H vs Q E hr h => ?_)
  · obtain ⟨x, a, us, xs, m, rfl, _⟩ := h
    rfl
  · obtain ⟨x, a, us, xs, m, rfl, hx, hS, pr, hm, hm2, nx, k⟩ := h
    have lu := pr.length
    refine ⟨_, (pss_one (ps_ret (pe_and (pe_go G_is_name (hr.mono (by decide)) rfl (pa_cons (pv 0) pa_nil)) (pe_and (pe_cmpR op_lt (pe_callB call_len_seq (by rfl) T.n_len b_len (pa_cons (pv 1) pa_nil)) (pv 2) (nomark _)) (pe_one (pe_cmpR op_notIn_seq (pv 0) (pe_go G_names_of (hr.mono (by decide)) rfl (pa_cons (pv 1) pa_nil)) (by rfl))))))), ?_⟩
    refine ⟨_, rfl, x, rfl, hx, fun H1 s1 => ⟨true, rfl, iteT ?_⟩⟩
    refine ⟨_, rfl, a, _, rfl, .inl (Same.seq s1 hS), _, rfl, _, _, rfl, rfl, true, congrArg V.bl (decide_eq_true (by omega)), iteT ?_⟩
    refine ⟨_, rfl, _, rfl, a, us, xs, rfl, Same.seq s1 hS, pr.mono fun v c ⟨t, r, e, h⟩ => ⟨t, r, e, SqT.same s1 h⟩, by omega, fun l H2 s2 _ hl => ?_⟩
    refine ⟨l, _, rfl, .inl (SqL.of hl), rfl, strs_flat xs, ?_⟩
    have e : (if true = true then !inV (.str x) (xs.map V.str) else inV (.str x) (xs.map V.str)) = true := by
      rw [if_pos rfl, in_strs, decide_eq_false nx]
      rfl
    rw [e]
    exact k H2 (s1.trans s2)
theorem k_is_junction (D : Lies K mg "_is_junction" s_is_junction) (T : Plain mg) (G_is_name : Keeps P w K mg base 1 "is_name" ["value"] spIsName) : Keeps P w K mg base 2 "_is_junction" ["word"] spJunc := by
  refine D.keeps sc_is_junction (fun _ _ _ _ _ _ us hl => match us, hl with | [_], _ => rfl) (fun vs H Q E h => ?_) (fun f cdv A outer s H vs Q E hr h => ?_)
  · obtain ⟨x, rfl, _⟩ := h
    rfl
  · obtain ⟨x, rfl, hx, k⟩ := h
    refine ⟨_, (pss_one (ps_ret (pe_or (pe_cmpR op_eq (pv 0) (pe_cs T.c_GROUND rfl) (nomark _)) (pe_one (pe_go G_is_name (hr.mono (by decide)) rfl (pa_cons (pv 0) pa_nil)))))), ?_⟩
    rcases hx with rfl | hx
    · exact ⟨_, rfl, rfl, true, congrArg V.bl (decide_eq_true rfl), iteT (k _ (Same.refl _))⟩
    · exact ⟨_, rfl, rfl, false, congrArg V.bl (decide_eq_false (gnd_name hx)), iteF ⟨_, rfl, x, rfl, hx, fun H1 s1 => k _ s1⟩⟩
end
end Ct

namespace Ct
open PySem PySem.Spec PyProof.Rows L2 TL
abbrev s_takes_source : Stmt := top 71
abbrev N_takes_source : List Str := ["words", "sources", "parts", "name", "voltage"]
theorem sc_takes_source : FnScope N_takes_source ["words", "sources", "parts"] (defScope s_takes_source) := ⟨rfl, rfl, rfl, by decide +kernel, rfl, by decide +kernel, by decide +kernel⟩
abbrev s_takes_part : Stmt := top 72
abbrev N_takes_part : List Str := ["words", "parts", "joinings", "name", "size"]
theorem sc_takes_part : FnScope N_takes_part ["words", "parts", "joinings"] (defScope s_takes_part) := ⟨rfl, rfl, rfl, by decide +kernel, rfl, by decide +kernel, by decide +kernel⟩
abbrev s_takes_joining : Stmt := top 73
abbrev N_takes_joining : List Str := ["words", "parts", "joinings", "name"]
theorem sc_takes_joining : FnScope N_takes_joining ["words", "parts", "joinings"] (defScope s_takes_joining) := ⟨rfl, rfl, rfl, by decide +kernel, rfl, by decide +kernel, by decide +kernel⟩
abbrev s_takes_tie : Stmt := top 74
abbrev N_takes_tie : List Str := ["words", "parts", "joinings", "_", "part", "plus", "minus", "ties"]
theorem sc_takes_tie : FnScope N_takes_tie ["words", "parts", "joinings"] (defScope s_takes_tie) := ⟨rfl, rfl, rfl, by decide +kernel, rfl, by decide +kernel, by decide +kernel⟩
abbrev s_takes_line : Stmt := top 70
abbrev N_takes_line : List Str := ["words", "sources", "parts", "joinings"]
theorem sc_takes_line : FnScope N_takes_line ["words", "sources", "parts", "joinings"] (defScope s_takes_line) := ⟨rfl, rfl, rfl, by decide +kernel, rfl, by decide +kernel, by decide +kernel⟩
def txts (l : List Str) : List V := l.map V.str
def spTSrc (K : PySem.W.Frag) : Sp := fun vs H Q _ => ∃ (a s p j : Addr) (G : Hp) (o : Own) (e : Str × Int × Int), vs = [.ref a, .ref s, .ref p] ∧ Acc K G H s p j o ∧ SqL K G a (txts (Line.src e).words) ∧ Fits o (.src e) ∧
  ∀ G' H', Same G G' → Acc K G' H' s p j (o.add (.src e)) → Q (.bl true) H'
def spTPrt (K : PySem.W.Frag) : Sp := fun vs H Q _ => ∃ (a s p j : Addr) (G : Hp) (o : Own) (e : Str × Int × Int), vs = [.ref a, .ref p, .ref j] ∧ Acc K G H s p j o ∧ SqL K G a (txts (Line.prt e).words) ∧ Fits o (.prt e) ∧
  ∀ G' H', Same G G' → Acc K G' H' s p j (o.add (.prt e)) → Q (.bl true) H'
def spTJoi (K : PySem.W.Frag) : Sp := fun vs H Q _ => ∃ (a s p j : Addr) (G : Hp) (o : Own) (x : Str), vs = [.ref a, .ref p, .ref j] ∧ Acc K G H s p j o ∧ SqL K G a (txts (Line.joi x).words) ∧ Fits o (.joi x) ∧
  ∀ G' H', Same G G' → Acc K G' H' s p j (o.add (.joi x)) → Q (.bl true) H'
def spTTie (K : PySem.W.Frag) : Sp := fun vs H Q _ => ∃ (a s p j : Addr) (G : Hp) (o : Own) (t : Str × Str × Str), vs = [.ref a, .ref p, .ref j] ∧ Acc K G H s p j o ∧ SqL K G a (txts (Line.tie t).words) ∧ Fits o (.tie t) ∧
  ∀ G' H', Same G G' → Acc K G' H' s p j (o.add (.tie t)) → Q (.bl true) H'
def spTLine (K : PySem.W.Frag) : Sp := fun vs H Q _ => ∃ (a s p j : Addr) (G : Hp) (o : Own) (l : Line), vs = [.ref a, .ref s, .ref p, .ref j] ∧ Acc K G H s p j o ∧ SqL K G a (txts l.words) ∧ Fits o l ∧
  ∀ G' H', Same G G' → Acc K G' H' s p j (o.add l) → Q (.bl true) H'
theorem heads_mono {K : PySem.W.Frag} {H H' : Hp} (s : Same H H') {us : List V} {xs : List Str} (h : Paired (HeadAt K H) us xs) : Paired (HeadAt K H') us xs := h.mono fun v c ⟨t, r, e, q⟩ => ⟨t, r, e, SqT.same s q⟩
theorem Paired.nil_of {α β : Type} {F : α → β → Prop} {xs : List α} (h : Paired F xs []) : xs = [] := by
  cases h
  rfl
section
variable {P : Program} {w : World} {K : PySem.W.Frag} {mg : Str → Option Value} {base : Heap}
theorem k_takes_source (D : Lies K mg "_takes_source" s_takes_source) (T : Plain mg) (G_read_fraction : Keeps P w K mg base 3 "read_fraction" ["word"] (spRead K)) (G_is_another : Keeps P w K mg base 2 "_is_another" ["name", "told", "most"] (spAnother K)) :
    Keeps P w K mg base 4 "_takes_source" ["words", "sources", "parts"] (spTSrc K) := by
  refine D.keeps sc_takes_source (fun _ _ _ _ _ _ us hl => match us, hl with | [_, _, _], _ => rfl) (fun vs H Q E h => ?_) (fun f cdv A outer s0 H vs Q E hr h => ?_)
  · obtain ⟨a, s, p, j, G, o, e, rfl, _⟩ := h
    rfl
  · obtain ⟨a, s, p, j, G, o, e, rfl, ac, hS, ⟨f1, f2, f3, f4, f5⟩, k⟩ := h
    have hS1 := Same.seq ac.sub hS
    refine ⟨_, (pss_cons (ps_par (i := 3) (j := 4) (by rfl) sc_takes_source.nd rfl rfl (by decide) rfl rfl (pa_cons (pe_ix ix_list (pv 0) pe_int (fun _ _ => rfl)) (pa_cons (pe_go G_read_fraction (hr.mono (by decide)) rfl (pa_cons (pe_ix ix_list (pv 0) pe_int (fun _ _ => rfl)) pa_nil)) pa_nil)) (by rfl))
      (pss_cons (ps_if (PW.pt (pw_or (pt_cmpR op_isN (pv 4) pe_non (nomark _)) (pw_or (pt_truth (pv 2) (by intro _; rfl)) (pw_or1 (pt_not (pt_val (pe_go G_is_another (hr.mono (by decide)) rfl (pa_cons (pv 3) (pa_cons (pv 1) (pa_cons (pe_ci T.c_MOST_SOURCES rfl) pa_nil))))))))))
        (pss_one (ps_ret pe_bl))
        pss_nil)
      (pss_cons (ps_expr (pe_bm PySem.F.plainAttrs_list PySem.F.slot_list_append PySem.F.type_list_append mt_append (pv 1) (pa_cons (pe_tup (pa_cons (pv 3) (pa_cons (pv 4) pa_nil))) pa_nil)))
      (pss_one (ps_ret pe_bl))))), ?_⟩
    refine ⟨_, rfl, a, _, _, _, rfl, rfl, hS1, atI_nat (j := 1) rfl, _, rfl, a, _, _, _, rfl, rfl, hS1, atI_nat (j := 2) rfl, e.2, rfl, f3, fun t H1 s1 ht => ⟨_, _, rfl, ?_⟩⟩
    obtain ⟨ac1, sg1⟩ := (ac.more s1).fix ht
    obtain ⟨v1, h1, r1⟩ := ac1.src
    obtain ⟨v2, h2, r2⟩ := ac1.prt
    rw [f1] at r2
    obtain rfl := Paired.nil_of r2
    refine ⟨_, rfl, rfl, _, rfl, pull_false (decide_eq_false fun z => by cases z) ⟨_, rfl, false, .inl ⟨_, SqL.of h2, rfl⟩, pull_false rfl ?_⟩⟩
    refine ⟨_, rfl, _, rfl, e.1, s, v1, o.sources.map (·.1), 4, rfl, f2, SqL.of h1, heads_mono ac1.sub (heads r1 fun v c h => HeadAt.ent h), by rw [List.length_map]; omega, by decide, f5, fun H2 s2 => ⟨true, rfl, iteF ?_⟩⟩
    have ac2 := ac1.more s2
    refine ⟨_, rfl, .inl ⟨rfl, _, SqL.of (s2 _ _ h1)⟩, _, rfl, _, rfl, by show 2 ≤ sizeLine; decide, fun t2 nt2 => ?_⟩
    obtain ⟨ac3, sg3⟩ := (ac2.more (same_upd nt2)).fix (t := t2) (xs := [V.str e.1, V.ref t]) upd_same
    have h3 := (same_upd (o := .tup [V.str e.1, V.ref t]) nt2) _ _ (s2 _ _ h1)
    refine ⟨s, v1, _, rfl, rfl, h3, ?_, ?_⟩
    · have := r1.length
      show v1.length < 16777216
      omega
    refine k _ _ (sg1.trans sg3) (ac3.addSrc h3 ⟨t2, _, rfl, SqT.of upd_same, t, rfl, SqT.of (sg3 _ _ upd_same)⟩)
theorem k_takes_part (D : Lies K mg "_takes_part" s_takes_part) (T : Plain mg) (G_read_fraction : Keeps P w K mg base 3 "read_fraction" ["word"] (spRead K)) (G_is_another : Keeps P w K mg base 2 "_is_another" ["name", "told", "most"] (spAnother K)) (G_is_above_nought : Keeps P w K mg base 3 "is_above_nought" ["value"] (spIsSize K)) :
    Keeps P w K mg base 4 "_takes_part" ["words", "parts", "joinings"] (spTPrt K) := by
  refine D.keeps sc_takes_part (fun _ _ _ _ _ _ us hl => match us, hl with | [_, _, _], _ => rfl) (fun vs H Q E h => ?_) (fun f cdv A outer s0 H vs Q E hr h => ?_)
  · obtain ⟨a, s, p, j, G, o, e, rfl, _⟩ := h
    rfl
  · obtain ⟨a, s, p, j, G, o, e, rfl, ac, hS, ⟨f1, f2, f3, f4, f5, f6⟩, k⟩ := h
    have hS1 := Same.seq ac.sub hS
    refine ⟨_, (pss_cons (ps_par (i := 3) (j := 4) (by rfl) sc_takes_part.nd rfl rfl (by decide) rfl rfl (pa_cons (pe_ix ix_list (pv 0) pe_int (fun _ _ => rfl)) (pa_cons (pe_go G_read_fraction (hr.mono (by decide)) rfl (pa_cons (pe_ix ix_list (pv 0) pe_int (fun _ _ => rfl)) pa_nil)) pa_nil)) (by rfl))
      (pss_cons (ps_if (PW.pt (pw_or (pt_not (pt_val (pe_go G_is_above_nought (hr.mono (by decide)) rfl (pa_cons (pv 4) pa_nil)))) (pw_or (pt_truth (pv 2) (by intro _; rfl)) (pw_or1 (pt_not (pt_val (pe_go G_is_another (hr.mono (by decide)) rfl (pa_cons (pv 3) (pa_cons (pv 1) (pa_cons (pe_ci T.c_MOST_PARTS rfl) pa_nil))))))))))
        (pss_one (ps_ret pe_bl))
        pss_nil)
      (pss_cons (ps_expr (pe_bm PySem.F.plainAttrs_list PySem.F.slot_list_append PySem.F.type_list_append mt_append (pv 1) (pa_cons (pe_tup (pa_cons (pv 3) (pa_cons (pv 4) pa_nil))) pa_nil)))
      (pss_one (ps_ret pe_bl))))), ?_⟩
    refine ⟨_, rfl, a, _, _, _, rfl, rfl, hS1, atI_nat (j := 1) rfl, _, rfl, a, _, _, _, rfl, rfl, hS1, atI_nat (j := 2) rfl, e.2, rfl, f3, fun t H1 s1 ht => ⟨_, _, rfl, ?_⟩⟩
    obtain ⟨ac1, sg1⟩ := (ac.more s1).fix ht
    obtain ⟨v2, h2, r2⟩ := ac1.prt
    obtain ⟨v3, h3, r3⟩ := ac1.joi
    have l3 := r3.len
    rw [f1] at l3
    obtain rfl : v3 = [] := List.eq_nil_of_length_eq_zero l3
    refine ⟨_, rfl, t, e.2, rfl, SqT.of ht, f3.1, f3.2.1, f4, true, rfl, pull_false rfl ⟨_, rfl, false, .inl ⟨_, SqL.of h3, rfl⟩, pull_false rfl ?_⟩⟩
    refine ⟨_, rfl, _, rfl, e.1, p, v2, o.parts.map (·.1), 8, rfl, f2, SqL.of h2, heads_mono ac1.sub (heads r2 fun v c h => HeadAt.ent h), by rw [List.length_map]; omega, by decide, f6, fun H2 s2 => ⟨true, rfl, iteF ?_⟩⟩
    have ac2 := ac1.more s2
    refine ⟨_, rfl, .inl ⟨rfl, _, SqL.of (s2 _ _ h2)⟩, _, rfl, _, rfl, by show 2 ≤ sizeLine; decide, fun t2 nt2 => ?_⟩
    obtain ⟨ac3, sg3⟩ := (ac2.more (same_upd nt2)).fix (t := t2) (xs := [V.str e.1, V.ref t]) upd_same
    have h3 := (same_upd (o := .tup [V.str e.1, V.ref t]) nt2) _ _ (s2 _ _ h2)
    refine ⟨p, v2, _, rfl, rfl, h3, ?_, ?_⟩
    · have := r2.length
      show v2.length < 16777216
      omega
    refine k _ _ (sg1.trans sg3) (ac3.addPrt h3 ⟨t2, _, rfl, SqT.of upd_same, t, rfl, SqT.of (sg3 _ _ upd_same)⟩)
theorem JacAt.heads {G H : Hp} {s p j : Addr} {vs : List V} {js : List (Str × List (Str × Str × Str))} (h : JacAt K G H s p j vs js) : Paired (HeadAt K G) vs (js.map (·.1)) := by
  cases h with
  | nil => exact .nil
  | last front ht gl ls lp lj hl ties =>
    rw [List.map_append]
    exact (Ct.heads front fun v c h => HeadAt.joi h).snoc ⟨_, _, rfl, ht⟩
theorem k_takes_joining (D : Lies K mg "_takes_joining" s_takes_joining) (T : Plain mg) (G_is_another : Keeps P w K mg base 2 "_is_another" ["name", "told", "most"] (spAnother K)) : Keeps P w K mg base 3 "_takes_joining" ["words", "parts", "joinings"] (spTJoi K) := by
  refine D.keeps sc_takes_joining (fun _ _ _ _ _ _ us hl => match us, hl with | [_, _, _], _ => rfl) (fun vs H Q E h => ?_) (fun f cdv A outer s0 H vs Q E hr h => ?_)
  · obtain ⟨a, s, p, j, G, o, x, rfl, _⟩ := h
    rfl
  · obtain ⟨a, s, p, j, G, o, x, rfl, ac, hS, ⟨f1, f2, f3, f4⟩, k⟩ := h
    have hS1 := Same.seq ac.sub hS
    refine ⟨_, (pss_cons (ps_set (i := 3) sc_takes_joining.nd rfl (Or.inl rfl) (pe_ix ix_list (pv 0) pe_int (fun _ _ => rfl)))
      (pss_cons (ps_if (PW.pt (pw_or (pt_not (pt_truth (pv 1) (by intro _; rfl))) (pw_or1 (pt_not (pt_val (pe_go G_is_another (hr.mono (by decide)) rfl (pa_cons (pv 3) (pa_cons (pv 2) (pa_cons (pe_ci T.c_MOST_JOININGS rfl) pa_nil)))))))))
        (pss_one (ps_ret pe_bl))
        pss_nil)
      (pss_cons (ps_expr (pe_bm PySem.F.plainAttrs_list PySem.F.slot_list_append PySem.F.type_list_append mt_append (pv 2) (pa_cons (pe_tup (pa_cons (pv 3) (pa_cons (pe_lst pa_nil) pa_nil))) pa_nil)))
      (pss_one (ps_ret pe_bl))))), ?_⟩
    obtain ⟨v2, h2, r2⟩ := ac.prt
    obtain ⟨v3, h3, r3⟩ := ac.joi
    have e2 : (!v2.isEmpty) = true := by
      have l := r2.length
      cases v2 with
      | nil => exact absurd (List.eq_nil_of_length_eq_zero l.symm) f1
      | cons _ _ => rfl
    refine ⟨_, rfl, a, _, _, _, rfl, rfl, hS1, atI_nat (j := 1) rfl, ?_⟩
    refine ⟨_, rfl, true, .inl ⟨_, SqL.of h2, e2.symm⟩, pull_false rfl ?_⟩
    refine ⟨_, rfl, _, rfl, x, j, v3, o.joinings.map (·.1), 6, rfl, f2, SqL.of h3, heads_mono ac.sub r3.heads, by rw [List.length_map]; omega, by decide, f4, fun H2 s2 => ⟨true, rfl, iteF ?_⟩⟩
    have ac2 := ac.more s2
    refine ⟨_, rfl, .inl ⟨rfl, _, SqL.of (s2 _ _ h3)⟩, _, rfl, Nat.zero_le _, fun l nl => ⟨by show 2 ≤ sizeLine; decide, fun t nt => ?_⟩⟩
    obtain ⟨G', sg, ac3⟩ := ac2.addJoi (x := x) (s2 _ _ h3) nl nt
    refine ⟨j, v3, _, rfl, rfl, (same_upd nt) _ _ ((same_upd nl) _ _ (s2 _ _ h3)), ?_, k G' _ sg ac3⟩
    have := r3.len
    show v3.length < 16777216
    omega
theorem k_takes_tie (D : Lies K mg "_takes_tie" s_takes_tie) (T : Plain mg) (G_names_of : Keeps P w K mg base 1 "names_of" ["told"] (spNames K)) (G_is_junction : Keeps P w K mg base 2 "_is_junction" ["word"] spJunc) : Keeps P w K mg base 3 "_takes_tie" ["words", "parts", "joinings"] (spTTie K) := by
  refine D.keeps sc_takes_tie (fun _ _ _ _ _ _ us hl => match us, hl with | [_, _, _], _ => rfl) (fun vs H Q E h => ?_) (fun f cdv A outer s0 H vs Q E hr h => ?_)
  · obtain ⟨a, s, p, j, G, o, x, rfl, _⟩ := h
    rfl
  · obtain ⟨a, s, p, j, G, o, t, rfl, ac, hS, ⟨fr, x, ts, f1, f2, f3, f4, f5, f6, f7⟩, k⟩ := h
    have hS1 := Same.seq ac.sub hS
    refine ⟨_, (pss_cons (ps_asg (pv 0) (pg_lst rfl (pgs_cons (pg_name (i := 3) sc_takes_tie.nd rfl (Or.inl rfl)) (pgs_cons (pg_name (i := 4) sc_takes_tie.nd rfl (Or.inl rfl)) (pgs_cons (pg_name (i := 5) sc_takes_tie.nd rfl (Or.inl rfl)) (pgs_cons (pg_name (i := 6) sc_takes_tie.nd rfl (Or.inl rfl)) pgs_nil))))))
      (pss_cons (ps_if (PW.pt (pw_or (pt_not (pt_truth (pv 2) (by intro _; rfl))) (pw_or1 (pt_cmpR op_notIn_seq (pv 4) (pe_go G_names_of (hr.mono (by decide)) rfl (pa_cons (pv 1) pa_nil)) (by rfl)))))
        (pss_one (ps_ret pe_bl))
        pss_nil)
      (pss_cons (ps_set (i := 7) sc_takes_tie.nd rfl (Or.inl rfl) (pe_ix ix_tup (pe_ix ix_list (pv 2) (pe_un un_neg pe_int) (fun _ _ => rfl)) pe_int (fun _ _ => rfl)))
      (pss_cons (ps_if (PW.pt (pw_or (pt_cmpR op_in_seq (pv 4) (pe_go G_names_of (hr.mono (by decide)) rfl (pa_cons (pv 7) pa_nil)) (by rfl)) (pw_or (pt_not (pt_val (pe_go G_is_junction (hr.mono (by decide)) rfl (pa_cons (pv 5) pa_nil)))) (pw_or1 (pt_not (pt_val (pe_go G_is_junction (hr.mono (by decide)) rfl (pa_cons (pv 6) pa_nil))))))))
        (pss_one (ps_ret pe_bl))
        pss_nil)
      (pss_cons (ps_expr (pe_bm PySem.F.plainAttrs_list PySem.F.slot_list_append PySem.F.type_list_append mt_append (pv 7) (pa_cons (pe_tup (pa_cons (pv 4) (pa_cons (pv 5) (pa_cons (pv 6) pa_nil)))) pa_nil)))
      (pss_one (ps_ret pe_bl))))))), ?_⟩
    obtain ⟨v2, h2, r2⟩ := ac.prt
    obtain ⟨v3, h3, r3⟩ := ac.joi
    rw [f1] at r3
    generalize ejs : fr ++ [(x, ts)] = js at r3
    cases r3 with
    | nil => exact absurd ejs (by simp)
    | last front ht gl ls lp lj hl ties =>
      rename_i vF fr0 t0 l x0 ts0 tv
      obtain ⟨rfl, e2⟩ := List.append_inj' ejs.symm rfl
      obtain ⟨rfl, rfl⟩ := Prod.mk.inj (List.cons.inj e2).1
      refine ⟨_, rfl, a, _, rfl, hS1, rfl, _, _, rfl, _, _, rfl, _, _, rfl, _, _, rfl, ⟨rfl, ?_⟩⟩
      refine ⟨_, rfl, true, .inl ⟨_, SqL.of h3, by simp⟩, pull_false rfl ?_⟩
      refine ⟨_, rfl, _, rfl, p, v2, o.parts.map (·.1), rfl, SqL.of h2, heads_mono ac.sub (heads r2 fun v c h => HeadAt.ent h), by rw [List.length_map]; omega, fun q1 H1 s1 _ hq1 => ?_⟩
      refine ⟨q1, _, rfl, .inl (SqL.of hq1), rfl, strs_flat _, false, congrArg V.bl ?_, iteF ?_⟩
      · rw [if_pos rfl, in_strs, decide_eq_true f4]
        rfl
      have ac1 := ac.more s1
      refine ⟨_, rfl, _, rfl, j, _, _, _, rfl, rfl, SqL.of (s1 _ _ h3), atI_last _ _, t0, _, _, _, rfl, rfl, SqT.same ac1.sub ht, atI_nat (j := 1) rfl, ?_⟩
      refine ⟨_, rfl, _, rfl, l, tv, ts0.map (·.1), rfl, SqL.of (s1 _ _ hl), heads_mono ac1.sub (heads ties fun v c h => HeadAt.tie h), by rw [List.length_map]; omega, fun q2 H2 s2 _ hq2 => ?_⟩
      refine ⟨q2, _, rfl, .inl (SqL.of hq2), rfl, strs_flat _, false, congrArg V.bl ?_, pull_false rfl ?_⟩
      · rw [if_neg Bool.false_ne_true, in_strs, decide_eq_false f5]
      refine ⟨_, rfl, _, rfl, f6, fun H3 s3 => ⟨true, rfl, pull_false rfl ?_⟩⟩
      refine ⟨_, rfl, _, rfl, f7, fun H4 s4 => ⟨true, rfl, iteF ?_⟩⟩
      have s14 := s1.trans (s2.trans (s3.trans s4))
      refine ⟨_, rfl, .inl ⟨rfl, _, SqL.of (s14 _ _ hl)⟩, _, rfl, _, rfl, _, rfl, by show 3 ≤ sizeLine; decide, fun t2 nt2 => ?_⟩
      have s15 := s14.trans (same_upd (o := .tup [V.str t.1, V.str t.2.1, V.str t.2.2]) nt2)
      obtain ⟨ac3, sg3⟩ := (ac.more s15).fix (t := t2) (xs := [V.str t.1, V.str t.2.1, V.str t.2.2]) upd_same
      have gl2 : (upd G t2 (.tup [V.str t.1, V.str t.2.1, V.str t.2.2])) l = none := by
        rw [upd_ne (ne_of_none (s14 _ _ hl) nt2)]
        exact gl
      refine ⟨l, tv, _, rfl, rfl, s15 _ _ hl, ?_, ?_⟩
      · have := ties.length
        show tv.length < 16777216
        omega
      exact k _ _ sg3 (ac3.addTie f1 (s15 _ _ h3) (front.mono fun v c h => h.same sg3) (SqT.same sg3 ht) gl2 ls lp lj (s15 _ _ hl) (ties.mono fun v c h => h.same sg3) ⟨t2, rfl, SqT.of upd_same⟩)
end
end Ct

/-! A circuit's lines: read one behind the other they tell the circuit again. -/
namespace Ct
open PySem PySem.Spec PyProof.Rows L2 TL
def Line.text (l : Line) : Str := Txt.join " " l.words
def linesOf (o : Own) : List Line := o.sources.map Line.src ++ (o.parts.map Line.prt ++ o.joinings.flatMap fun j => Line.joi j.1 :: j.2.map Line.tie)
def emp : Own := ⟨[], [], []⟩
def FitsFrom : Own → List Line → Prop
  | _, [] => True
  | o, l :: r => Fits o l ∧ FitsFrom (o.add l) r
theorem fits_app : ∀ (a b : List Line) (o : Own), FitsFrom o a → FitsFrom (a.foldl Own.add o) b → FitsFrom o (a ++ b)
  | [], _, _, _, h => h
  | l :: r, b, o, ⟨h1, h2⟩, h3 => ⟨h1, fits_app r b (o.add l) h2 h3⟩
/-! ### the texts -/
theorem join_two (a b : Str) : Txt.join " " [a, b] = a ++ " " ++ b := by
  rw [TL.join_eq]
  refine ext_tl ?_
  rw [tl_join]
  simp only [List.map_cons, List.map_nil, joinL, tl_append, List.append_assoc]
theorem join_three (a b c : Str) : Txt.join " " [a, b, c] = a ++ " " ++ b ++ " " ++ c := by
  rw [TL.join_eq]
  refine ext_tl ?_
  rw [tl_join]
  simp only [List.map_cons, List.map_nil, joinL, tl_append, List.append_assoc]
theorem join_four (a b c d : Str) : Txt.join " " [a, b, c, d] = a ++ " " ++ Txt.join " " [b, c, d] := by
  rw [join_three, TL.join_eq]
  refine ext_tl ?_
  rw [tl_join]
  simp only [List.map_cons, List.map_nil, joinL, tl_append, List.append_assoc]
theorem kw_src : ("source " : Str) = ("source" : Str) ++ " " := by decide +kernel
theorem kw_prt : ("part " : Str) = ("part" : Str) ++ " " := by decide +kernel
theorem kw_joi : ("joining " : Str) = ("joining" : Str) ++ " " := by decide +kernel
theorem kw_tie : ("tie " : Str) = ("tie" : Str) ++ " " := by decide +kernel
theorem rows_lines (o : Own) : rowsOf o = ("circuit" : Str) :: (linesOf o).map Line.text := by
  unfold rowsOf linesOf
  have e1 : (o.sources.map Line.src).map Line.text = o.sources.map (entLine "source ") := by
    rw [List.map_map]
    refine List.map_congr_left fun e _ => ?_
    show Txt.join " " ["source", e.1, fracText e.2] = _
    rw [join_three]
    unfold entLine
    rw [kw_src]
  have e2 : (o.parts.map Line.prt).map Line.text = o.parts.map (entLine "part ") := by
    rw [List.map_map]
    refine List.map_congr_left fun e _ => ?_
    show Txt.join " " ["part", e.1, fracText e.2] = _
    rw [join_three]
    unfold entLine
    rw [kw_prt]
  have e3 : (o.joinings.flatMap fun j => Line.joi j.1 :: j.2.map Line.tie).map Line.text = o.joinings.flatMap joiRows := by
    rw [List.map_flatMap]
    congr 1
    funext j
    unfold joiRows
    rw [List.map_cons, List.map_map]
    have a1 : Line.text (.joi j.1) = joiLine j.1 := by
      show Txt.join " " ["joining", j.1] = _
      rw [join_two]
      unfold joiLine
      rw [kw_joi]
    rw [a1]
    congr 1
    refine List.map_congr_left fun t _ => ?_
    show Txt.join " " ["tie", t.1, t.2.1, t.2.2] = _
    rw [join_four]
    unfold tieLine
    rw [kw_tie]
  rw [List.map_append, List.map_append, e1, e2, e3, List.append_assoc]
/-! ### read again -/
theorem fold_src (P : List (Str × Int × Int)) (J : List (Str × List (Str × Str × Str))) : ∀ (S S0 : List (Str × Int × Int)), (S.map Line.src).foldl Own.add ⟨S0, P, J⟩ = ⟨S0 ++ S, P, J⟩
  | [], S0 => by rw [List.append_nil]; rfl
  | e :: r, S0 => by
    show (r.map Line.src).foldl Own.add ⟨S0 ++ [e], P, J⟩ = _
    rw [fold_src P J r (S0 ++ [e]), List.append_assoc]
    rfl
theorem fold_prt (S : List (Str × Int × Int)) (J : List (Str × List (Str × Str × Str))) : ∀ (P P0 : List (Str × Int × Int)), (P.map Line.prt).foldl Own.add ⟨S, P0, J⟩ = ⟨S, P0 ++ P, J⟩
  | [], P0 => by rw [List.append_nil]; rfl
  | e :: r, P0 => by
    show (r.map Line.prt).foldl Own.add ⟨S, P0 ++ [e], J⟩ = _
    rw [fold_prt S J r (P0 ++ [e]), List.append_assoc]
    rfl
theorem fold_tie (S P : List (Str × Int × Int)) (J : List (Str × List (Str × Str × Str))) (x : Str) : ∀ (ts ts0 : List (Str × Str × Str)), (ts.map Line.tie).foldl Own.add ⟨S, P, J ++ [(x, ts0)]⟩ = ⟨S, P, J ++ [(x, ts0 ++ ts)]⟩
  | [], ts0 => by rw [List.append_nil]; rfl
  | t :: r, ts0 => by
    show (r.map Line.tie).foldl Own.add ⟨S, P, addTie t (J ++ [(x, ts0)])⟩ = _
    rw [addTie_last, fold_tie S P J x r (ts0 ++ [t]), List.append_assoc]
    rfl
theorem fold_joi (S P : List (Str × Int × Int)) : ∀ (J J0 : List (Str × List (Str × Str × Str))), (J.flatMap fun j => Line.joi j.1 :: j.2.map Line.tie).foldl Own.add ⟨S, P, J0⟩ = ⟨S, P, J0 ++ J⟩
  | [], J0 => by rw [List.append_nil]; rfl
  | (x, ts) :: r, J0 => by
    rw [List.flatMap_cons, List.foldl_append]
    show (r.flatMap fun j => Line.joi j.1 :: j.2.map Line.tie).foldl Own.add ((ts.map Line.tie).foldl Own.add ⟨S, P, J0 ++ [(x, [])]⟩) = _
    rw [fold_tie S P J0 x ts [], List.nil_append, fold_joi S P r (J0 ++ [(x, ts)]), List.append_assoc]
    rfl
theorem fold_lines (o : Own) : (linesOf o).foldl Own.add emp = o := by
  unfold linesOf emp
  rw [List.foldl_append, fold_src, List.foldl_append, List.nil_append, fold_prt, List.nil_append, fold_joi, List.nil_append]
theorem notin_of {α : Type} {a : List α} {x : α} {r : List α} (h : (a ++ x :: r).Nodup) : x ∉ a := fun hx => by
  have := (List.nodup_append.mp h).2.2 x hx x List.mem_cons_self
  exact this rfl
theorem fits_src : ∀ (S S0 : List (Str × Int × Int)), S0.length + S.length ≤ 4 → ((S0 ++ S).map (·.1)).Nodup → (∀ e ∈ S, Name e.1 ∧ FrOk e.2) → FitsFrom ⟨S0, [], []⟩ (S.map Line.src)
  | [], _, _, _, _ => trivial
  | e :: r, S0, hl, nd, ok => by
    have q := ok e List.mem_cons_self
    rw [List.length_cons] at hl
    refine ⟨⟨rfl, q.1, q.2, by show S0.length < 4; omega, ?_⟩, ?_⟩
    · rw [List.map_append, List.map_cons] at nd
      exact notin_of nd
    · exact fits_src r (S0 ++ [e]) (by rw [List.length_append, List.length_singleton]; omega) (by rw [List.append_assoc]; exact nd) fun z hz => ok z (List.mem_cons_of_mem _ hz)
theorem fits_prt (S : List (Str × Int × Int)) : ∀ (P P0 : List (Str × Int × Int)), P0.length + P.length ≤ 8 → ((P0 ++ P).map (·.1)).Nodup → (∀ e ∈ P, Name e.1 ∧ FrOk e.2 ∧ 0 < e.2.1) → FitsFrom ⟨S, P0, []⟩ (P.map Line.prt)
  | [], _, _, _, _ => trivial
  | e :: r, P0, hl, nd, ok => by
    have q := ok e List.mem_cons_self
    rw [List.length_cons] at hl
    refine ⟨⟨rfl, q.1, q.2.1, q.2.2, by show P0.length < 8; omega, ?_⟩, ?_⟩
    · rw [List.map_append, List.map_cons] at nd
      exact notin_of nd
    · exact fits_prt S r (P0 ++ [e]) (by rw [List.length_append, List.length_singleton]; omega) (by rw [List.append_assoc]; exact nd) fun z hz => ok z (List.mem_cons_of_mem _ hz)
theorem fits_tie (S P : List (Str × Int × Int)) (hP : P.length ≤ 8) (J : List (Str × List (Str × Str × Str))) (x : Str) : ∀ (ts ts0 : List (Str × Str × Str)), ts0.length + ts.length ≤ 8 → ((ts0 ++ ts).map (·.1)).Nodup →
    (∀ t ∈ ts, t.1 ∈ P.map (·.1) ∧ Junc t.2.1 ∧ Junc t.2.2) → FitsFrom ⟨S, P, J ++ [(x, ts0)]⟩ (ts.map Line.tie)
  | [], _, _, _, _ => trivial
  | t :: r, ts0, hl, nd, ok => by
    have q := ok t List.mem_cons_self
    rw [List.length_cons] at hl
    refine ⟨⟨J, x, ts0, rfl, hP, by omega, q.1, ?_, q.2.1, q.2.2⟩, ?_⟩
    · rw [List.map_append, List.map_cons] at nd
      exact notin_of nd
    · show FitsFrom ⟨S, P, addTie t (J ++ [(x, ts0)])⟩ _
      rw [addTie_last]
      exact fits_tie S P hP J x r (ts0 ++ [t]) (by rw [List.length_append, List.length_singleton]; omega) (by rw [List.append_assoc]; exact nd) fun z hz => ok z (List.mem_cons_of_mem _ hz)
theorem fits_joi (S P : List (Str × Int × Int)) (hP : P.length ≤ 8) (hP1 : P ≠ []) : ∀ (J J0 : List (Str × List (Str × Str × Str))), J0.length + J.length ≤ 6 → ((J0 ++ J).map (·.1)).Nodup → (∀ j ∈ J, JoiOk (P.map (·.1)) j) →
    FitsFrom ⟨S, P, J0⟩ (J.flatMap fun j => Line.joi j.1 :: j.2.map Line.tie)
  | [], _, _, _, _ => trivial
  | (x, ts) :: r, J0, hl, nd, ok => by
    have q := ok (x, ts) List.mem_cons_self
    rw [List.length_cons] at hl
    rw [List.flatMap_cons]
    refine fits_app _ _ _ ⟨⟨hP1, q.name, by show J0.length < 6; omega, ?_⟩, ?_⟩ ?_
    · rw [List.map_append, List.map_cons] at nd
      exact notin_of nd
    · exact fits_tie S P hP J0 x ts [] (by have h8 : ts.length ≤ 8 := q.few; rw [List.length_nil]; omega) q.once q.tie
    · show FitsFrom ((ts.map Line.tie).foldl Own.add ⟨S, P, J0 ++ [(x, [])]⟩) _
      rw [fold_tie S P J0 x ts [], List.nil_append]
      exact fits_joi S P hP hP1 r (J0 ++ [(x, ts)]) (by rw [List.length_append, List.length_singleton]; omega) (by rw [List.append_assoc]; exact nd) fun z hz => ok z (List.mem_cons_of_mem _ hz)
theorem fits_lines {o : Own} (ok : OwnOk o) : FitsFrom emp (linesOf o) := by
  unfold linesOf emp
  refine fits_app _ _ _ (fits_src o.sources [] (by rw [List.length_nil]; have := ok.s_few; omega) ok.s_once ok.src) ?_
  rw [fold_src, List.nil_append]
  refine fits_app _ _ _ (fits_prt o.sources o.parts [] (by rw [List.length_nil]; have := ok.p_few; omega) ok.p_once ok.prt) ?_
  rw [fold_prt, List.nil_append]
  refine fits_joi o.sources o.parts ok.p_few (fun z => ?_) o.joinings [] (by rw [List.length_nil]; have := ok.j_few; omega) ok.j_once ok.joi
  have := ok.p_some
  rw [z] at this
  exact absurd this (by decide)
/-! ### words without blanks, lines without line feeds -/
theorem name_free {x : Str} (h : Name x) {s : Nat} (hs : s < 97) : s ∉ tl x := fun hm => by
  have := h.2.2.1 s hm
  omega
theorem junc_free {x : Str} (h : Junc x) {s : Nat} (hs : s < 97) : s ∉ tl x := by
  rcases h with rfl | h
  · rw [show tl ("gnd" : Str) = [103, 110, 100] by decide +kernel]
    simp
    omega
  · exact name_free h hs
theorem frac_free {f : Int × Int} {s : Nat} (h : s < 45) : s ∉ tl (fracText f) := by
  unfold fracText
  split
  · exact num_free (.inl h)
  · rw [tl_append, tl_append]
    simp only [List.mem_append, not_or]
    refine ⟨⟨num_free (.inl h), ?_⟩, num_free (.inl h)⟩
    rw [show tl ("/" : Str) = [47] by decide +kernel]
    simp
    omega
theorem word_free {o : Own} {l : Line} (h : Fits o l) (hp : ∀ e ∈ o.parts, Name e.1) {s : Nat} (hs : s < 45) : ∀ x ∈ l.words, s ∉ tl x := by
  have k : ∀ x : Str, (tl x).all (fun c => decide (97 ≤ c)) = true → s ∉ tl x := fun x hx hm => by
    have := List.all_eq_true.mp hx s hm
    have := of_decide_eq_true this
    omega
  cases l with
  | src e =>
    obtain ⟨_, h2, _⟩ := h
    intro x hx
    simp only [Line.words, List.mem_cons, List.not_mem_nil, or_false] at hx
    rcases hx with rfl | rfl | rfl
    · exact k _ (by decide +kernel)
    · exact name_free h2 (by omega)
    · exact frac_free hs
  | prt e =>
    obtain ⟨_, h2, _⟩ := h
    intro x hx
    simp only [Line.words, List.mem_cons, List.not_mem_nil, or_false] at hx
    rcases hx with rfl | rfl | rfl
    · exact k _ (by decide +kernel)
    · exact name_free h2 (by omega)
    · exact frac_free hs
  | joi y =>
    obtain ⟨_, h2, _⟩ := h
    intro x hx
    simp only [Line.words, List.mem_cons, List.not_mem_nil, or_false] at hx
    rcases hx with rfl | rfl
    · exact k _ (by decide +kernel)
    · exact name_free h2 (by omega)
  | tie t =>
    obtain ⟨_, _, _, _, _, _, h2, _, h3, h4⟩ := h
    obtain ⟨e, he, ee⟩ := List.mem_map.mp h2
    intro x hx
    simp only [Line.words, List.mem_cons, List.not_mem_nil, or_false] at hx
    rcases hx with rfl | rfl | rfl | rfl
    · exact k _ (by decide +kernel)
    · exact ee ▸ name_free (hp e he) (by omega)
    · exact junc_free h3 (by omega)
    · exact junc_free h4 (by omega)
theorem blank_tl : tl (" " : Str) = 32 :: [] := by decide +kernel
theorem feed_tl : tl ("\n" : Str) = 10 :: [] := by decide +kernel
theorem words_ne (l : Line) : l.words ≠ [] := by cases l <;> exact fun z => nomatch z
theorem line_split {o : Own} {l : Line} (h : Fits o l) (hp : ∀ e ∈ o.parts, Name e.1) : Txt.split l.text " " = l.words := by
  unfold Line.text
  exact split_join blank_tl (by decide +kernel) (words_ne l) (word_free h hp (by decide))
theorem join_mem {S : List Nat} {c : Nat} : ∀ {ps : List (List Nat)}, c ∈ joinL S ps → c ∈ S ∨ ∃ p ∈ ps, c ∈ p
  | [], h => nomatch h
  | [p], h => .inr ⟨p, List.mem_cons_self, h⟩
  | p :: q :: r, h => by
    simp only [joinL, List.mem_append] at h
    rcases h with h | h | h
    · exact .inr ⟨p, List.mem_cons_self, h⟩
    · exact .inl h
    · rcases join_mem (ps := q :: r) h with h | ⟨z, hz, hc⟩
      · exact .inl h
      · exact .inr ⟨z, List.mem_cons_of_mem _ hz, hc⟩
theorem text_free {o : Own} {l : Line} (h : Fits o l) (hp : ∀ e ∈ o.parts, Name e.1) : 10 ∉ tl l.text := by
  unfold Line.text
  rw [TL.join_eq, tl_join]
  intro hm
  rcases join_mem hm with hm | ⟨p, hp2, hm⟩
  · rw [blank_tl] at hm
    simp at hm
  · obtain ⟨x, hx, rfl⟩ := List.mem_map.mp hp2
    exact word_free h hp (by decide) x hx hm
def PartsOk (o : Own) : Prop := ∀ e ∈ o.parts, Name e.1
theorem parts_add {o : Own} {l : Line} (h : Fits o l) (hp : PartsOk o) : PartsOk (o.add l) := by
  cases l with
  | prt e =>
    intro z hz
    have hz : z ∈ o.parts ++ [e] := hz
    rcases List.mem_append.mp hz with hz | hz
    · exact hp z hz
    · rw [List.mem_singleton] at hz
      exact hz ▸ h.2.1
  | src e => exact hp
  | joi x => exact hp
  | tie t => exact hp
theorem all_free : ∀ {ls : List Line} {o : Own}, FitsFrom o ls → PartsOk o → ∀ l ∈ ls, 10 ∉ tl l.text
  | [], _, _, _, _, h => nomatch h
  | l :: r, o, ⟨h1, h2⟩, hp, z, hz => by
    rcases List.mem_cons.mp hz with rfl | hz
    · exact text_free h1 hp
    · exact all_free h2 (parts_add h1 hp) z hz
theorem rows_free {o : Own} (ok : OwnOk o) : ∀ y ∈ rowsOf o, 10 ∉ tl y := by
  rw [rows_lines]
  intro y hy
  rcases List.mem_cons.mp hy with rfl | hy
  · decide +kernel
  · obtain ⟨l, hl, rfl⟩ := List.mem_map.mp hy
    exact all_free (fits_lines ok) (fun e he => nomatch he) l hl
theorem text_split {o : Own} (ok : OwnOk o) : Txt.split (textOf o) "\n" = rowsOf o := by
  unfold textOf
  exact split_join feed_tl (by decide +kernel) (by rw [rows_lines]; exact fun z => nomatch z) (rows_free ok)
end Ct

namespace Ct
open PySem PySem.Spec PyProof.Rows L2 TL
abbrev s_read_lines : Stmt := top 69
abbrev N_read_lines : List Str := ["lines", "sources", "parts", "joinings", "number", "line"]
theorem sc_read_lines : FnScope N_read_lines ["lines"] (defScope s_read_lines) := ⟨rfl, rfl, rfl, by decide +kernel, rfl, by decide +kernel, by decide +kernel⟩
/-- all lines are taken: three lists -/
def spReadLines (K : PySem.W.Frag) : Sp := fun vs H Q _ => ∃ (a : Addr) (ls : List Line), vs = [.ref a] ∧ SqL K H a (txts (("circuit" : Str) :: ls.map Line.text)) ∧ FitsFrom emp ls ∧ ls.length ≤ 100 ∧ (∀ l ∈ ls, l.text.length ≤ 4000) ∧ (ls.foldl Own.add emp).joinings ≠ [] ∧
  ∀ (t s p j : Addr) (G' H' : Hp), Same H G' → Acc K G' H' s p j (ls.foldl Own.add emp) → H' t = some (.tup [.ref s, .ref p, .ref j]) → Q (.ref t) H'
theorem walk_from {K : PySem.W.Frag} {k : Int} {a : Addr} {xs : List V} : Walk (ItFrom K k a) xs.length (fun H => SqL K H a xs) (fun i H v H' => ∃ T x, v = .ref T ∧ H T = none ∧ H' = upd H T (.tup [.int (k + (i : Nat)), x]) ∧ xs[i]? = some x) := by
  refine ⟨fun i _ hi q => ⟨xs, xs[i], q, by simp [hi]⟩, fun _ q => ⟨xs, q, Nat.le_refl _⟩, fun i H v H' _ q y => ?_⟩
  obtain ⟨T, x, h1, h2, h3, h4⟩ := y
  exact ⟨T, x, h1, h2, h3, h4 xs q⟩
theorem sp_len1 : (" " : Str).length = 1 := by decide +kernel
theorem ws_1 : ¬ ("part" : Str) = "source" := by decide +kernel
theorem ws_2 : ¬ ("joining" : Str) = "source" := by decide +kernel
theorem ws_3 : ¬ ("tie" : Str) = "source" := by decide +kernel
theorem ws_4 : ¬ ("joining" : Str) = "part" := by decide +kernel
theorem ws_5 : ¬ ("tie" : Str) = "part" := by decide +kernel
theorem ws_6 : ¬ ("tie" : Str) = "joining" := by decide +kernel
theorem st_ne {x y : Str} (h : ¬ x = y) : decide (V.str x = V.str y) = false := decide_eq_false fun z => h (V.str.inj z)
section
variable {P : Program} {w : World} {K : PySem.W.Frag} {mg : Str → Option Value} {base : Heap}
theorem k_takes_line (D : Lies K mg "_takes_line" s_takes_line) (T : Plain mg) (G_takes_source : Keeps P w K mg base 4 "_takes_source" ["words", "sources", "parts"] (spTSrc K)) (G_takes_part : Keeps P w K mg base 4 "_takes_part" ["words", "parts", "joinings"] (spTPrt K))
    (G_takes_joining : Keeps P w K mg base 3 "_takes_joining" ["words", "parts", "joinings"] (spTJoi K)) (G_takes_tie : Keeps P w K mg base 3 "_takes_tie" ["words", "parts", "joinings"] (spTTie K)) : Keeps P w K mg base 5 "_takes_line" ["words", "sources", "parts", "joinings"] (spTLine K) := by
  refine D.keeps sc_takes_line (fun _ _ _ _ _ _ us hl => match us, hl with | [_, _, _, _], _ => rfl) (fun vs H Q E h => ?_) (fun f cdv A outer s0 H vs Q E hr h => ?_)
  · obtain ⟨a, s, p, j, G, o, x, rfl, _⟩ := h
    rfl
  · obtain ⟨a, s, p, j, G, o, l, rfl, ac, hS, hf, k⟩ := h
    have hS1 := Same.seq ac.sub hS
    refine ⟨_, (pss_cons (ps_if (PW.pt (pw_and (pt_cmpR op_eq (pe_ix ix_list (pv 0) pe_int (fun _ _ => rfl)) pe_str (nomark _)) (pw_and1 (pt_cmpR op_eq (pe_callB call_len_seq (by rfl) T.n_len b_len (pa_cons (pv 0) pa_nil)) pe_int (nomark _)))))
        (pss_one (ps_ret (pe_go G_takes_source (hr.mono (by decide)) rfl (pa_cons (pv 0) (pa_cons (pv 1) (pa_cons (pv 2) pa_nil))))))
        pss_nil)
      (pss_cons (ps_if (PW.pt (pw_and (pt_cmpR op_eq (pe_ix ix_list (pv 0) pe_int (fun _ _ => rfl)) pe_str (nomark _)) (pw_and1 (pt_cmpR op_eq (pe_callB call_len_seq (by rfl) T.n_len b_len (pa_cons (pv 0) pa_nil)) pe_int (nomark _)))))
        (pss_one (ps_ret (pe_go G_takes_part (hr.mono (by decide)) rfl (pa_cons (pv 0) (pa_cons (pv 2) (pa_cons (pv 3) pa_nil))))))
        pss_nil)
      (pss_cons (ps_if (PW.pt (pw_and (pt_cmpR op_eq (pe_ix ix_list (pv 0) pe_int (fun _ _ => rfl)) pe_str (nomark _)) (pw_and1 (pt_cmpR op_eq (pe_callB call_len_seq (by rfl) T.n_len b_len (pa_cons (pv 0) pa_nil)) pe_int (nomark _)))))
        (pss_one (ps_ret (pe_go G_takes_joining (hr.mono (by decide)) rfl (pa_cons (pv 0) (pa_cons (pv 2) (pa_cons (pv 3) pa_nil))))))
        pss_nil)
      (pss_cons (ps_if (PW.pt (pw_and (pt_cmpR op_eq (pe_ix ix_list (pv 0) pe_int (fun _ _ => rfl)) pe_str (nomark _)) (pw_and1 (pt_cmpR op_eq (pe_callB call_len_seq (by rfl) T.n_len b_len (pa_cons (pv 0) pa_nil)) pe_int (nomark _)))))
        (pss_one (ps_ret (pe_go G_takes_tie (hr.mono (by decide)) rfl (pa_cons (pv 0) (pa_cons (pv 2) (pa_cons (pv 3) pa_nil))))))
        pss_nil)
      (pss_one (ps_ret pe_bl)))))), ?_⟩
    cases l with
    | src e =>
      refine ⟨_, rfl, a, _, _, _, rfl, rfl, hS1, atI_nat (j := 0) rfl, rfl, _, rfl, if_true_of' (decide_eq_true rfl) ⟨_, rfl, a, _, rfl, .inl hS1, rfl, _, rfl, if_true_of' (decide_eq_true rfl) ?_⟩⟩
      exact ⟨_, rfl, _, rfl, _, rfl, a, s, p, j, G, o, e, rfl, ac, hS, hf, k⟩
    | prt e =>
      refine ⟨_, rfl, a, _, _, _, rfl, rfl, hS1, atI_nat (j := 0) rfl, rfl, _, rfl, pull_false (st_ne ws_1) (iteF ?_)⟩
      refine ⟨_, rfl, a, _, _, _, rfl, rfl, hS1, atI_nat (j := 0) rfl, rfl, _, rfl, if_true_of' (decide_eq_true rfl) ⟨_, rfl, a, _, rfl, .inl hS1, rfl, _, rfl, if_true_of' (decide_eq_true rfl) ?_⟩⟩
      exact ⟨_, rfl, _, rfl, _, rfl, a, s, p, j, G, o, e, rfl, ac, hS, hf, k⟩
    | joi x =>
      refine ⟨_, rfl, a, _, _, _, rfl, rfl, hS1, atI_nat (j := 0) rfl, rfl, _, rfl, pull_false (st_ne ws_2) (iteF ?_)⟩
      refine ⟨_, rfl, a, _, _, _, rfl, rfl, hS1, atI_nat (j := 0) rfl, rfl, _, rfl, pull_false (st_ne ws_4) (iteF ?_)⟩
      refine ⟨_, rfl, a, _, _, _, rfl, rfl, hS1, atI_nat (j := 0) rfl, rfl, _, rfl, if_true_of' (decide_eq_true rfl) ⟨_, rfl, a, _, rfl, .inl hS1, rfl, _, rfl, if_true_of' (decide_eq_true rfl) ?_⟩⟩
      exact ⟨_, rfl, _, rfl, _, rfl, a, s, p, j, G, o, x, rfl, ac, hS, hf, k⟩
    | tie t =>
      refine ⟨_, rfl, a, _, _, _, rfl, rfl, hS1, atI_nat (j := 0) rfl, rfl, _, rfl, pull_false (st_ne ws_3) (iteF ?_)⟩
      refine ⟨_, rfl, a, _, _, _, rfl, rfl, hS1, atI_nat (j := 0) rfl, rfl, _, rfl, pull_false (st_ne ws_5) (iteF ?_)⟩
      refine ⟨_, rfl, a, _, _, _, rfl, rfl, hS1, atI_nat (j := 0) rfl, rfl, _, rfl, pull_false (st_ne ws_6) (iteF ?_)⟩
      refine ⟨_, rfl, a, _, _, _, rfl, rfl, hS1, atI_nat (j := 0) rfl, rfl, _, rfl, if_true_of' (decide_eq_true rfl) ⟨_, rfl, a, _, rfl, .inl hS1, rfl, _, rfl, if_true_of' (decide_eq_true rfl) ?_⟩⟩
      exact ⟨_, rfl, _, rfl, _, rfl, a, s, p, j, G, o, t, rfl, ac, hS, hf, k⟩
theorem fits_at : ∀ {ls : List Line} {o : Own} {i : Nat} {l : Line}, FitsFrom o ls → PartsOk o → ls[i]? = some l → Fits ((ls.take i).foldl Own.add o) l ∧ PartsOk ((ls.take i).foldl Own.add o)
  | [], _, _, _, _, _, h => by simp at h
  | x :: r, o, 0, l, ⟨h1, _⟩, hp, h => by
    simp at h
    subst h
    exact ⟨h1, hp⟩
  | x :: r, o, i + 1, l, ⟨h1, h2⟩, hp, h => by
    show Fits ((r.take i).foldl Own.add (o.add x)) l ∧ PartsOk ((r.take i).foldl Own.add (o.add x))
    exact fits_at h2 (parts_add h1 hp) (by simpa using h)
theorem k_read_lines (D : Lies K mg "_read_lines" s_read_lines) (T : Plain mg) (G_takes_line : Keeps P w K mg base 5 "_takes_line" ["words", "sources", "parts", "joinings"] (spTLine K)) : Keeps P w K mg base 6 "_read_lines" ["lines"] (spReadLines K) := by
  refine D.keeps sc_read_lines (fun _ _ _ _ _ _ us hl => match us, hl with | [_], _ => rfl) (fun vs H Q E h => ?_) (fun f cdv A outer s0 H vs Q E hr h => ?_)
  · obtain ⟨a, ls, rfl, _⟩ := h
    rfl
  · obtain ⟨a, ls, rfl, hS, hf, hn, hsh, hj, k⟩ := h
    refine ⟨_, (pss_cons (ps_par3 (i := 1) (j := 2) (l := 3) (by rfl) sc_read_lines.nd rfl rfl rfl (by decide) (by decide) (by decide) rfl rfl rfl (pa_cons (pe_lst pa_nil) (pa_cons (pe_lst pa_nil) (pa_cons (pe_lst pa_nil) pa_nil))) (by rfl))
      (pss_cons (ps_if (pt_cmpR op_ne (pe_ix ix_list (pv 0) pe_int (fun _ _ => rfl)) pe_str (nomark _))
        (pss_one (ps_never))
        pss_nil)
      (pss_cons (ps_for PassesOwn.never rfl (pi_from rfl T.n_enumerate (by decide) (by decide) (pa_cons (pe_slice sl_list (pv 0) (po_some pe_int) po_none) pa_nil)) (pg_tup rfl (pgs_cons (pg_name (i := 4) sc_read_lines.nd rfl (Or.inl rfl)) (pgs_cons (pg_name (i := 5) sc_read_lines.nd rfl (Or.inl rfl)) pgs_nil)))
        (pss_one (ps_if (pt_not (pt_val (pe_go G_takes_line (hr.mono (by decide)) rfl (pa_cons (pe_split (pv 5) pe_str) (pa_cons (pv 1) (pa_cons (pv 2) (pa_cons (pv 3) pa_nil)))))))
          (pss_one (ps_never))
          pss_nil)))
      (pss_cons (ps_if (pt_not (pt_truth (pv 3) (by intro _; rfl)))
        (pss_one (ps_never))
        pss_nil)
      (pss_one (ps_ret (pe_tup (pa_cons (pv 1) (pa_cons (pv 2) (pa_cons (pv 3) pa_nil)))))))))), ?_⟩
    refine ⟨Nat.zero_le _, fun s ns => ⟨Nat.zero_le _, fun p np => ⟨Nat.zero_le _, fun j nj => ⟨_, _, _, rfl, ?_⟩⟩⟩⟩
    have sp : s ≠ p := ne_of_none upd_same np
    have pj : p ≠ j := ne_of_none upd_same nj
    have sj : s ≠ j := ne_of_none ((upd_ne sp).trans upd_same) nj
    have h1 : Same H (upd (upd (upd H s (.lst [])) p (.lst [])) j (.lst [])) := (same_upd ns).trans ((same_upd np).trans (same_upd nj))
    have hp : H p = none := by rw [upd_ne sp.symm] at np; exact np
    have hj0 : H j = none := by rw [upd_ne pj.symm, upd_ne sj.symm] at nj; exact nj
    have ac : Acc K H (upd (upd (upd H s (.lst [])) p (.lst [])) j (.lst [])) s p j emp :=
      ⟨h1, ns, hp, hj0, sp, sj, pj, ⟨[], by rw [upd_ne sj, upd_ne sp]; exact upd_same, .nil⟩, ⟨[], by rw [upd_ne pj]; exact upd_same, .nil⟩, ⟨[], upd_same, .nil⟩⟩
    generalize upd (upd (upd H s (.lst [])) p (.lst [])) j (.lst []) = H1 at *
    refine ⟨_, rfl, a, _, _, _, rfl, rfl, Same.seq h1 hS, atI_nat (j := 0) rfl, rfl, _, rfl, pull_false (by rw [decide_eq_true rfl]; rfl) ?_⟩
    refine ⟨_, rfl, (1 : Int), rfl, a, _, rfl, Same.seq h1 hS, fun q nq => ⟨q, _, rfl, SqL.of upd_same, ?_⟩⟩
    have ecut : cutV (txts (("circuit" : Str) :: ls.map Line.text)) (some 1) none = txts (ls.map Line.text) := by
      unfold cutV txts
      rw [List.map_cons]
      have e1 : HT.sIx ((V.str "circuit") :: (ls.map Line.text).map V.str).length 0 (some 1) = 1 := by
        show min 1 (((ls.map Line.text).map V.str).length + 1) = 1
        omega
      rw [e1]
      show ((ls.map Line.text).map V.str).take _ = _
      refine List.take_of_length_le ?_
      show _ ≤ ((ls.map Line.text).map V.str).length + 1 - 1
      omega
    rw [ecut]
    obtain ⟨ac1, sg1⟩ := ac.fixL (t := q) (xs := txts (ls.map Line.text)) nq
    refine for_it (walk_from (xs := txts (ls.map Line.text))) (fun i σ H' => ∃ (v4 v5 : Option V) (Gi : Hp), σ = [some (.ref a), some (.ref s), some (.ref p), some (.ref j), v4, v5] ∧ Same (upd H q (.lst (txts (ls.map Line.text)))) Gi ∧ Acc K Gi H' s p j ((ls.take i).foldl Own.add emp))
      ⟨none, none, _, rfl, Same.refl _, ac1⟩ (fun i σ H' _ ⟨_, _, Gi, _, sg, aci⟩ => SqL.of (aci.sub _ _ (sg _ _ upd_same))) ?_ ?_
    · rintro i x σ H2 H3 hi ⟨v4, v5, Gi, rfl, sg, aci⟩ ⟨t, y, rfl, nt, rfl, hy⟩
      obtain ⟨l, hl, rfl⟩ : ∃ l, ls[i]? = some l ∧ y = V.str l.text := by
        unfold txts at hy
        rw [List.map_map, List.getElem?_map] at hy
        cases e : ls[i]? with
        | none => rw [e] at hy; cases hy
        | some l => rw [e] at hy; exact ⟨l, rfl, (Option.some.inj hy).symm⟩
      obtain ⟨hfit, hpo⟩ := fits_at hf (fun e he => nomatch he) hl
      have aci2 := aci.more (same_upd (o := .tup [.int (2 + (i : Nat)), V.str l.text]) nt)
      refine ⟨t, _, rfl, SqT.of upd_same, rfl, _, _, rfl, _, _, rfl, ⟨rfl, ?_⟩⟩
      refine ⟨_, rfl, ⟨_, rfl⟩, _, _, rfl, rfl, by rw [sp_len1]; rfl, ?_, fun b nb => ?_⟩
      · have := hsh l (List.mem_of_getElem? hl)
        show l.text.length + 2 ≤ 16777216
        omega
      rw [line_split hfit hpo]
      obtain ⟨ac3, sg3⟩ := aci2.fixL (t := b) (xs := txts l.words) nb
      refine ⟨_, rfl, _, rfl, _, rfl, b, s, p, j, _, _, l, rfl, ac3, SqL.of upd_same, hfit, fun G' H' s4 ac4 => ⟨true, rfl, iteF ?_⟩⟩
      refine ⟨_, _, G', rfl, sg.trans (sg3.trans s4), ?_⟩
      rw [take_snoc hl, List.foldl_append]
      exact ac4
    · rintro σ H2 ⟨v4, v5, Gi, rfl, sg, aci⟩
      have e1 : (ls.take (txts (ls.map Line.text)).length) = ls := by
        unfold txts
        rw [List.length_map, List.length_map, List.take_length]
      rw [e1] at aci
      obtain ⟨v3, h3, r3⟩ := aci.joi
      have e2 : (!v3.isEmpty) = true := by
        have l := r3.len
        cases v3 with
        | nil => exact absurd (List.eq_nil_of_length_eq_zero l.symm) hj
        | cons _ _ => rfl
      refine ⟨_, rfl, true, .inl ⟨_, SqL.of h3, e2.symm⟩, iteF ?_⟩
      refine ⟨_, rfl, _, rfl, _, rfl, by show 3 ≤ sizeLine; decide, fun t nt => ?_⟩
      exact k t s p j Gi _ ((same_upd (by cases e : H q with | none => rfl | some z => rw [h1 _ _ e] at nq; cases nq)).trans sg) (aci.more (same_upd nt)) upd_same
end
end Ct

namespace Ct
open PySem PySem.Spec PyProof.Rows L2 TL
abbrev s_l_pot : Stmt := top 78
abbrev N_l_pot : List Str := ["script", "place", "cell", "own", "small"]
theorem sc_l_pot : FnScope N_l_pot ["script", "place"] (defScope s_l_pot) := ⟨rfl, rfl, rfl, by decide +kernel, rfl, by decide +kernel, by decide +kernel⟩
abbrev s_l_cells : Stmt := top 81
abbrev N_l_cells : List Str := ["script", "most"]
theorem sc_l_cells : FnScope N_l_cells ["script", "most"] (defScope s_l_cells) := ⟨rfl, rfl, rfl, by decide +kernel, rfl, by decide +kernel, by decide +kernel⟩
abbrev s_l_frac_common : Stmt := top 82
abbrev N_l_frac_common : List Str := ["one", "other"]
theorem sc_l_frac_common : FnScope N_l_frac_common ["one", "other"] (defScope s_l_frac_common) := ⟨rfl, rfl, rfl, by decide +kernel, rfl, by decide +kernel, by decide +kernel⟩
abbrev s_l_frac : Stmt := top 83
abbrev N_l_frac : List Str := ["top", "bottom", "by"]
theorem sc_l_frac : FnScope N_l_frac ["top", "bottom"] (defScope s_l_frac) := ⟨rfl, rfl, rfl, by decide +kernel, rfl, by decide +kernel, by decide +kernel⟩
abbrev s_l_frac_text : Stmt := top 88
abbrev N_l_frac_text : List Str := ["one"]
theorem sc_l_frac_text : FnScope N_l_frac_text ["one"] (defScope s_l_frac_text) := ⟨rfl, rfl, rfl, by decide +kernel, rfl, by decide +kernel, by decide +kernel⟩
abbrev s_l_frac_size : Stmt := top 89
abbrev N_l_frac_size : List Str := ["pot"]
theorem sc_l_frac_size : FnScope N_l_frac_size ["pot"] (defScope s_l_frac_size) := ⟨rfl, rfl, rfl, by decide +kernel, rfl, by decide +kernel, by decide +kernel⟩
/-! ### the numbers -/
def ratio (a b : Int) : Int × Int := (a / (Int.gcd a b : Int), b / (Int.gcd a b : Int))


def spCommon : Sp := fun vs H Q _ => ∃ x y : Int, vs = [.int x, .int y] ∧ Q (.int (Int.gcd x y)) H
def spFrac : Sp := fun vs H Q _ => ∃ a b : Int, vs = [.int a, .int b] ∧ 0 < b ∧ b < 1000000 ∧ ∀ t, H t = none → Q (.ref t) (upd H t (.tup [.int (ratio a b).1, .int (ratio a b).2]))
def spFracText (K : PySem.W.Frag) : Sp := fun vs H Q _ => ∃ (t : Addr) (f : Int × Int), vs = [.ref t] ∧ SqT K H t [.int f.1, .int f.2] ∧ f.1.natAbs < 2 ^ 1000 ∧ f.2.natAbs < 2 ^ 1000 ∧ Q (.str (fracText f)) H
/-- a drawn fraction between low and high -/
def drawn (low high : Int) (f : Int × Int) : Prop := ∃ b d : Int, (b = 1 ∨ b = 2 ∨ b = 3 ∨ b = 5) ∧ 0 ≤ d ∧ d ≤ (high - low) * b ∧ f = ratio (low * b + d) b
def spFracDrawn : Sp := fun vs H Q _ => ∃ (p : Addr) (G : Hp) (n : Nat) (low high : Int), vs = [.ref p, .int low, .int high] ∧ Beside p G H ∧ PotAt p H n ∧ n + 2 ≤ 1000000 ∧ -1000 ≤ low ∧ low ≤ high ∧ high ≤ 1000 ∧
  ∀ (f : Int × Int) (t : Addr) (G' H' : Hp), drawn low high f → Same G G' → Beside p G' H' → PotAt p H' (n + 2) → G' t = some (.tup [.int f.1, .int f.2]) → Q (.ref t) H'
theorem gcd_step (a b : Int) (ha : 0 ≤ a) (hb : 0 < b) : Int.gcd b (a % b) = Int.gcd a b := by
  rw [Int.gcd_comm a b]
  obtain ⟨x, rfl⟩ := Int.eq_ofNat_of_zero_le ha
  obtain ⟨y, rfl⟩ := Int.eq_ofNat_of_zero_le (Int.le_of_lt hb)
  show Nat.gcd y (((x : Int) % (y : Int)).natAbs) = Nat.gcd y x
  rw [← Int.natCast_emod, Int.natAbs_natCast, Nat.gcd_comm y, ← Nat.gcd_rec y x]
theorem gcd_abs (a b : Int) : Int.gcd (if a < 0 then -a else a) (if b < 0 then -b else b) = Int.gcd a b := by
  by_cases h : a < 0 <;> by_cases g : b < 0 <;> simp [h, g]
section
variable {P : Program} {w : World} {K : PySem.W.Frag} {mg : Str → Option Value} {base : Heap}
theorem k_common (D : Lies K mg "_law_frac_common" s_l_frac_common) (T : Plain mg) : Keeps P w K mg base 1 "_law_frac_common" ["one", "other"] spCommon := by
  refine D.keeps sc_l_frac_common (fun _ _ _ _ _ _ us hl => match us, hl with | [_, _], _ => rfl) (fun vs H Q E h => ?_) (fun f cdv A outer s H vs Q E hr h => ?_)
  · obtain ⟨x, y, rfl, _⟩ := h
    rfl
  · obtain ⟨x, y, rfl, k⟩ := h
    refine ⟨_, (pss_cons (ps_par (i := 0) (j := 1) (by rfl) sc_l_frac_common.nd rfl rfl (by decide) rfl rfl (pa_cons (pe_callB call_abs (by rfl) T.n_abs b_abs (pa_cons (pv 0) pa_nil)) (pa_cons (pe_callB call_abs (by rfl) T.n_abs b_abs (pa_cons (pv 1) pa_nil)) pa_nil)) (by rfl))
      (pss_cons (ps_while PassesOwn.never (pt_cmpR op_gt (pv 1) pe_int (nomark _))
        (pss_one (ps_par (i := 0) (j := 1) (by rfl) sc_l_frac_common.nd rfl rfl (by decide) rfl rfl (pa_cons (pv 1) (pa_cons (pe_op op_mod (pe_callTy call_int1 (by rfl) T.n_int b_int (pa_cons (pv 0) pa_nil)) (pv 1)) pa_nil)) (by rfl))))
      (pss_one (ps_ret (pv 0))))), ?_⟩
    refine ⟨_, rfl, _, rfl, _, rfl, _, rfl, _, _, rfl, while_by (fun σ H' => ∃ a b : Int, σ = [some (.int a), some (.int b)] ∧ H' = H ∧ 0 ≤ a ∧ 0 ≤ b ∧ Int.gcd a b = Int.gcd x y) (fun σ _ => match σ with | [_, some (.int b)] => b.toNat | _ => 0) ⟨_, _, rfl, rfl, by split <;> omega, by split <;> omega, gcd_abs x y⟩ ?_ ?_⟩
    · rintro σ H1 ⟨a, b, rfl, rfl, ha, hb, e⟩
      refine ⟨_, rfl, _, _, rfl, rfl, _, rfl, ?_⟩
      refine ite2 (fun h0 => ?_) (fun h0 => ?_)
      · have b0 : 0 < b := of_decide_eq_true h0
        refine ⟨_, rfl, _, rfl, .inl ⟨_, rfl, _, rfl, _, _, rfl, rfl, b0, _, _, rfl, ⟨_, _, rfl, rfl, hb, Int.emod_nonneg _ (by omega), (gcd_step a b ha b0).trans e⟩, ?_⟩⟩
        have := Int.emod_lt_of_pos a b0
        have := Int.emod_nonneg a (show b ≠ 0 by omega)
        show (a % b).toNat < b.toNat
        omega
      · have b0 : b = 0 := by
          have : ¬ 0 < b := fun z => h0 (decide_eq_true z)
          omega
        subst b0
        have ea : (Int.gcd x y : Int) = a := by rw [← e, Int.gcd_zero_right]; omega
        rw [ea] at k
        exact ⟨_, rfl, k⟩
    · exact fun σ H' Q1 Q2 m h => by
        obtain ⟨v, h1, i, j, h2, h3, c, h4, q⟩ := h
        exact ⟨v, h1, i, j, h2, h3, c, h4, m _ _ q⟩
theorem k_frac (D : Lies K mg "_law_frac" s_l_frac) (T : Plain mg) (G_l_frac_common : Keeps P w K mg base 1 "_law_frac_common" ["one", "other"] spCommon) : Keeps P w K mg base 2 "_law_frac" ["top", "bottom"] spFrac := by
  refine D.keeps sc_l_frac (fun _ _ _ _ _ _ us hl => match us, hl with | [_, _], _ => rfl) (fun vs H Q E h => ?_) (fun f cdv A outer s H vs Q E hr h => ?_)
  · obtain ⟨x, y, rfl, _⟩ := h
    rfl
  · obtain ⟨a, b, rfl, b0, b1, k⟩ := h
    have g0 : 0 < (Int.gcd a b : Int) := by have := Int.gcd_pos_of_ne_zero_right a (show b ≠ 0 by omega); omega
    have g1 : (Int.gcd a b : Int) ≤ b := Int.le_of_dvd b0 (Int.gcd_dvd_right a b)
    refine ⟨_, (pss_cons (ps_set (i := 2) sc_l_frac.nd rfl (Or.inl rfl) (pe_go G_l_frac_common (hr.mono (by decide)) rfl (pa_cons (pv 0) (pa_cons (pv 1) pa_nil))))
      (pss_cons (ps_set (i := 2) sc_l_frac.nd rfl (Or.inl rfl) (pe_ifExp (pt_cmpR op_gt (pv 1) pe_int (nomark _)) (pv 2) (pe_un un_neg (pv 2))))
      (pss_one (ps_ret (pe_tup (pa_cons (pe_op op_fdiv (pv 0) (pv 2)) (pa_cons (pe_op op_fdiv (pv 1) (pv 2)) pa_nil))))))), ?_⟩
    refine ⟨_, rfl, _, rfl, a, b, rfl, _, rfl, _, _, rfl, rfl, _, rfl, ?_⟩
    refine if_true_of' (decide_eq_true b0) ⟨_, rfl, _, rfl, _, rfl, _, _, rfl, rfl, ⟨g0, by omega⟩, _, rfl, _, rfl, _, _, rfl, rfl, ⟨g0, by omega⟩, by show 2 ≤ sizeLine; decide, fun t ht => k t ht⟩
theorem k_frac_text (D : Lies K mg "_law_frac_text" s_l_frac_text) (T : Plain mg) : Keeps P w K mg base 1 "_law_frac_text" ["one"] (spFracText K) := by
  refine D.keeps sc_l_frac_text (fun _ _ _ _ _ _ us hl => match us, hl with | [_], _ => rfl) (fun vs H Q E h => ?_) (fun f cdv A outer s H vs Q E hr h => ?_)
  · obtain ⟨t, f, rfl, _⟩ := h
    rfl
  · obtain ⟨t, ⟨a, b⟩, rfl, ht, ha, hb, k⟩ := h
    have la : a.natAbs.log2 < 1920 := log_of ha
    have lb : b.natAbs.log2 < 1920 := log_of hb
    refine ⟨_, (pss_one (ps_ret (pe_ifExp (pt_cmpR op_eq (pe_ix ix_tup (pv 0) pe_int (fun _ _ => rfl)) pe_int (nomark _)) (pe_callTy call_str_int (by rfl) T.n_str b_str (pa_cons (pe_callTy call_int1 (by rfl) T.n_int b_int (pa_cons (pe_ix ix_tup (pv 0) pe_int (fun _ _ => rfl)) pa_nil)) pa_nil)) (pe_op op_add_str (pe_op op_add_str (pe_callTy call_str_int (by rfl) T.n_str b_str (pa_cons (pe_callTy call_int1 (by rfl) T.n_int b_int (pa_cons (pe_ix ix_tup (pv 0) pe_int (fun _ _ => rfl)) pa_nil)) pa_nil)) pe_str) (pe_callTy call_str_int (by rfl) T.n_str b_str (pa_cons (pe_callTy call_int1 (by rfl) T.n_int b_int (pa_cons (pe_ix ix_tup (pv 0) pe_int (fun _ _ => rfl)) pa_nil)) pa_nil)))))), ?_⟩
    refine ⟨_, rfl, t, _, _, _, rfl, rfl, ht, rfl, rfl, _, rfl, ?_⟩
    refine ite2 (fun h0 => ?_) (fun h0 => ?_)
    · have e : b = 1 := V.int.inj (of_decide_eq_true h0)
      refine ⟨_, rfl, t, _, _, _, rfl, rfl, ht, rfl, .inl ⟨_, rfl, _, rfl, la, ?_⟩⟩
      rw [show fracText (a, b) = numText a by unfold fracText; rw [if_pos e]] at k
      exact k
    · have e : ¬ b = 1 := fun z => h0 (decide_eq_true (by rw [z]))
      have na : (numText a).length ≤ 1921 := int_text_len_1921 la
      have nb : (numText b).length ≤ 1921 := int_text_len_1921 lb
      have ns : ("/" : Str).length = 1 := by decide +kernel
      rw [show fracText (a, b) = numText a ++ "/" ++ numText b by unfold fracText; rw [if_neg e]] at k
      refine ⟨_, rfl, t, _, _, _, rfl, rfl, ht, rfl, .inl ⟨_, rfl, _, rfl, la, _, _, rfl, rfl, ?_, _, rfl, t, _, _, _, rfl, rfl, ht, rfl, .inl ⟨_, rfl, _, rfl, lb, _, _, rfl, rfl, ?_, k⟩⟩⟩
      · show (numText a).length + ("/" : Str).length ≤ 16777216
        omega
      · show (numText a ++ "/").length + (numText b).length ≤ 16777216
        rw [len_app]
        omega
end
end Ct

namespace Ct
open PySem PySem.Spec PyProof.Rows L2 TL
/-- the pot is made -/
def spPot (K : PySem.W.Frag) : Sp := fun vs H Q _ => ∃ (a : Addr) (ns : List Int) (j : Nat), vs = [.ref a, .int j] ∧ SqL K H a (ns.map V.int) ∧ j ≤ 10 ∧
  ∀ (p : Addr) (H' : Hp), H p = none → Beside p H H' → PotAt p H' 0 → Q (.ref p) H'
def spCells (K : PySem.W.Frag) : Sp := fun vs H Q _ => ∃ (a : Addr) (xs : List V) (m : Int), vs = [.ref a, .int m] ∧ SqL K H a xs ∧ 1 ≤ m ∧ m ≤ 3 ∧
  ∀ (c : Nat) (q : Addr), 1 ≤ c → c ≤ 3 → H q = none → Q (.ref q) (upd H q (.lst ((List.range c).map fun i => V.int (i : Nat))))
/-- one of the sizes -/
def spFracSize : Sp := fun vs H Q _ => ∃ (p : Addr) (G : Hp) (n : Nat), vs = [.ref p] ∧ Beside p G H ∧ PotAt p H n ∧ n + 1 ≤ 1000000 ∧
  ∀ (f : Int × Int) (t : Addr) (G' H' : Hp), f ∈ ([(1, 1), (2, 1), (1, 2), (3, 2), (2, 3), (3, 1), (1, 3), (5, 3), (4, 5)] : List (Int × Int)) → Same G G' → Beside p G' H' → PotAt p H' (n + 1) → G' t = some (.tup [.int f.1, .int f.2]) → Q (.ref t) H'
theorem bit_in (b : Bool) : (-(2 : Int) ^ 64 < if b = true then 1 else 0) ∧ (if b = true then (1 : Int) else 0) < 2 ^ 64 := by cases b <;> decide
theorem bit_nn (b : Bool) : (0 : Int) ≤ if b = true then 1 else 0 := by cases b <;> decide
section
variable {P : Program} {w : World} {K : PySem.W.Frag} {mg : Str → Option Value} {base : Heap}
theorem k_frac_size (D : Lies K mg "_law_frac_size" s_l_frac_size) (T : Plain mg) (G_l_of : Keeps P w K mg base 2 "_law_of" ["pot", "some"] (spOf K)) : Keeps P w K mg base 3 "_law_frac_size" ["pot"] spFracSize := by
  refine D.keeps sc_l_frac_size (fun _ _ _ _ _ _ us hl => match us, hl with | [_], _ => rfl) (fun vs H Q E h => ?_) (fun f cdv A outer s H vs Q E hr h => ?_)
  · obtain ⟨p, G, n, rfl, _⟩ := h
    rfl
  · obtain ⟨p, G, n, rfl, bs, ht, hn, k⟩ := h
    refine ⟨_, (pss_one (ps_ret (pe_go G_l_of (hr.mono (by decide)) rfl (pa_cons (pv 0) (pa_cons (pe_lst (pa_cons (pe_tup (pa_cons pe_int (pa_cons pe_int pa_nil))) (pa_cons (pe_tup (pa_cons pe_int (pa_cons pe_int pa_nil))) (pa_cons (pe_tup (pa_cons pe_int (pa_cons pe_int pa_nil))) (pa_cons (pe_tup (pa_cons pe_int (pa_cons pe_int pa_nil))) (pa_cons (pe_tup (pa_cons pe_int (pa_cons pe_int pa_nil))) (pa_cons (pe_tup (pa_cons pe_int (pa_cons pe_int pa_nil))) (pa_cons (pe_tup (pa_cons pe_int (pa_cons pe_int pa_nil))) (pa_cons (pe_tup (pa_cons pe_int (pa_cons pe_int pa_nil))) (pa_cons (pe_tup (pa_cons pe_int (pa_cons pe_int pa_nil))) pa_nil)))))))))) pa_nil))))), ?_⟩
    refine ⟨_, rfl, ?_⟩
    refine ⟨by show 2 ≤ sizeLine; decide, fun t1 n1 => ⟨by show 2 ≤ sizeLine; decide, fun t2 n2 => ⟨by show 2 ≤ sizeLine; decide, fun t3 n3 => ⟨by show 2 ≤ sizeLine; decide, fun t4 n4 => ⟨by show 2 ≤ sizeLine; decide, fun t5 n5 =>
      ⟨by show 2 ≤ sizeLine; decide, fun t6 n6 => ⟨by show 2 ≤ sizeLine; decide, fun t7 n7 => ⟨by show 2 ≤ sizeLine; decide, fun t8 n8 => ⟨by show 2 ≤ sizeLine; decide, fun t9 n9 => ⟨by show 9 ≤ sizeLine; decide, fun l nl => ?_⟩⟩⟩⟩⟩⟩⟩⟩⟩⟩
    obtain ⟨b1, s1, _⟩ := bs.new (o := .tup [.int 1, .int 1]) ht.some n1
    obtain ⟨b2, s2, _⟩ := b1.new (o := .tup [.int 2, .int 1]) (ht.new n1).some n2
    obtain ⟨b3, s3, _⟩ := b2.new (o := .tup [.int 1, .int 2]) ((ht.new n1).new n2).some n3
    obtain ⟨b4, s4, _⟩ := b3.new (o := .tup [.int 3, .int 2]) (((ht.new n1).new n2).new n3).some n4
    obtain ⟨b5, s5, _⟩ := b4.new (o := .tup [.int 2, .int 3]) ((((ht.new n1).new n2).new n3).new n4).some n5
    obtain ⟨b6, s6, _⟩ := b5.new (o := .tup [.int 3, .int 1]) (((((ht.new n1).new n2).new n3).new n4).new n5).some n6
    obtain ⟨b7, s7, _⟩ := b6.new (o := .tup [.int 1, .int 3]) ((((((ht.new n1).new n2).new n3).new n4).new n5).new n6).some n7
    obtain ⟨b8, s8, _⟩ := b7.new (o := .tup [.int 5, .int 3]) (((((((ht.new n1).new n2).new n3).new n4).new n5).new n6).new n7).some n8
    obtain ⟨b9, s9, _⟩ := b8.new (o := .tup [.int 4, .int 5]) ((((((((ht.new n1).new n2).new n3).new n4).new n5).new n6).new n7).new n8).some n9
    have ht9 := (((((((((ht.new (o := .tup [.int 1, .int 1]) n1).new (o := .tup [.int 2, .int 1]) n2).new (o := .tup [.int 1, .int 2]) n3).new (o := .tup [.int 3, .int 2]) n4).new (o := .tup [.int 2, .int 3]) n5).new (o := .tup [.int 3, .int 1]) n6).new (o := .tup [.int 1, .int 3]) n7).new (o := .tup [.int 5, .int 3]) n8).new (o := .tup [.int 4, .int 5]) n9)
    obtain ⟨b10, s10, _⟩ := b9.new (o := .lst [.ref t1, .ref t2, .ref t3, .ref t4, .ref t5, .ref t6, .ref t7, .ref t8, .ref t9]) ht9.some nl
    refine ⟨p, l, _, n, _, rfl, b10, ht9.new nl, hn, SqL.of upd_same, by show 0 < 9; decide, by show 9 < 1000000; decide, fun i v G2 H2 hv s11 b11 t11 => ?_⟩
    have hi : i < 9 := (List.getElem?_eq_some_iff.mp hv).1
    have z9 := s10.trans s11
    have z8 := s9.trans z9
    have z7 := s8.trans z8
    have z6 := s7.trans z7
    have z5 := s6.trans z6
    have z4 := s5.trans z5
    have z3 := s4.trans z4
    have z2 := s3.trans z3
    have z1 := s2.trans z2
    have z0 := s1.trans z1
    match i, hi, hv with
    | 0, _, e => exact (Option.some.inj e) ▸ k (1, 1) t1 G2 H2 (by decide) z0 b11 t11 (z1 _ _ upd_same)
    | 1, _, e => exact (Option.some.inj e) ▸ k (2, 1) t2 G2 H2 (by decide) z0 b11 t11 (z2 _ _ upd_same)
    | 2, _, e => exact (Option.some.inj e) ▸ k (1, 2) t3 G2 H2 (by decide) z0 b11 t11 (z3 _ _ upd_same)
    | 3, _, e => exact (Option.some.inj e) ▸ k (3, 2) t4 G2 H2 (by decide) z0 b11 t11 (z4 _ _ upd_same)
    | 4, _, e => exact (Option.some.inj e) ▸ k (2, 3) t5 G2 H2 (by decide) z0 b11 t11 (z5 _ _ upd_same)
    | 5, _, e => exact (Option.some.inj e) ▸ k (3, 1) t6 G2 H2 (by decide) z0 b11 t11 (z6 _ _ upd_same)
    | 6, _, e => exact (Option.some.inj e) ▸ k (1, 3) t7 G2 H2 (by decide) z0 b11 t11 (z7 _ _ upd_same)
    | 7, _, e => exact (Option.some.inj e) ▸ k (5, 3) t8 G2 H2 (by decide) z0 b11 t11 (z8 _ _ upd_same)
    | 8, _, e => exact (Option.some.inj e) ▸ k (4, 5) t9 G2 H2 (by decide) z0 b11 t11 (z9 _ _ upd_same)
theorem k_cells (D : Lies K mg "_law_cells" s_l_cells) (T : Plain mg) : Keeps P w K mg base 1 "_law_cells" ["script", "most"] (spCells K) := by
  refine D.keeps sc_l_cells (fun _ _ _ _ _ _ us hl => match us, hl with | [_, _], _ => rfl) (fun vs H Q E h => ?_) (fun f cdv A outer s H vs Q E hr h => ?_)
  · obtain ⟨a, xs, m, rfl, _⟩ := h
    rfl
  · obtain ⟨a, xs, m, rfl, hS, m1, m3, k⟩ := h
    refine ⟨_, (pss_one (ps_ret (pe_listRg rfl rfl T.n_list (prg_1 rfl T.n_range (pe_callB (call_max2 rfl) (by rfl) T.n_max b_max (pa_cons pe_int (pa_cons (pe_callB (call_min2 rfl) (by rfl) T.n_min b_min (pa_cons (pv 1) (pa_cons (pe_callB call_len_seq (by rfl) T.n_len b_len (pa_cons (pv 0) pa_nil)) pa_nil))) pa_nil))))))), ?_⟩
    refine ⟨_, rfl, _, rfl, a, _, rfl, .inl hS, _, _, rfl, _, _, rfl, _, rfl, ?_⟩
    generalize hz : (if (if (xs.length : Int) < m then (xs.length : Int) else m) > 1 then (if (xs.length : Int) < m then (xs.length : Int) else m) else 1) = z
    have h1 : 1 ≤ z ∧ z ≤ 3 := by
      subst hz
      split <;> split <;> omega
    refine ⟨RgOk.of_le (by decide) (by omega) (by decide) (by omega), fun q hq => ?_⟩
    obtain ⟨c, rfl⟩ := Int.eq_ofNat_of_zero_le (show 0 ≤ z by omega)
    have e : rgV 0 (c : Int) = (List.range c).map fun i => V.int (i : Nat) := by
      unfold rgV
      rw [show ((c : Int) - 0).toNat = c by omega]
      exact List.map_congr_left fun i _ => by rw [Int.zero_add]
    rw [e]
    exact k c q (by omega) (by omega) hq
theorem k_pot (D : Lies K mg "_law_pot" s_l_pot) (T : Plain mg) : Keeps P w K mg base 1 "_law_pot" ["script", "place"] (spPot K) := by
  refine D.keeps sc_l_pot (fun _ _ _ _ _ _ us hl => match us, hl with | [_, _], _ => rfl) (fun vs H Q E h => ?_) (fun f cdv A outer s H vs Q E hr h => ?_)
  · obtain ⟨a, ns, j, rfl, _⟩ := h
    rfl
  · obtain ⟨a, ns, j, rfl, hS, hj, k⟩ := h
    refine ⟨_, (Evl.pss_cut (ps_set (i := 2) sc_l_pot.nd rfl (Or.inl rfl) (pe_ifExp (pt_cmpR op_lt (pv 1) (pe_callB call_len_seq (by rfl) T.n_len b_len (pa_cons (pv 0) pa_nil)) (nomark _)) (pe_ix ix_list (pv 0) (pv 1) (fun _ _ => rfl)) (pe_op op_add (pe_op op_add (pe_op op_mod (pe_callB (cr_sum rfl) (by rfl) T.n_sum b_sum (pa_cons (pe_slice sl_list (pv 0) po_none (po_some pe_int)) pa_nil)) pe_int) (pe_op op_mul pe_int (pv 1))) pe_int)))
      (pss_cons (ps_set (i := 3) sc_l_pot.nd rfl (Or.inl rfl) (pe_op op_mul (pe_op op_mod (pe_callTy call_int1 (by rfl) T.n_int b_int (pa_cons (pe_callB call_abs (by rfl) T.n_abs b_abs (pa_cons (pv 2) pa_nil)) pa_nil)) (pe_op op_powW (pe_op op_pow pe_int pe_int) pe_int)) (pe_callTy call_int1 (by rfl) T.n_int b_int (pa_cons (pe_cmpR op_ge (pe_callB call_abs (by rfl) T.n_abs b_abs (pa_cons (pv 2) pa_nil)) (pe_op op_pow pe_int pe_int) (nomark _)) pa_nil))))
      (pss_cons (ps_set (i := 4) sc_l_pot.nd rfl (Or.inl rfl) (pe_op op_mod (pe_callTy call_int1 (by rfl) T.n_int b_int (pa_cons (pv 2) pa_nil)) pe_int))
      (pss_one (ps_ret (pe_lst (pa_cons (pv 3) (pa_cons (pe_op op_mod (pe_callTy call_int1 (by rfl) T.n_int b_int (pa_cons (pe_op op_add (pe_op op_add (pe_op op_mul (pv 4) pe_int) (pe_op op_mul (pe_op op_mul pe_int (pv 1)) (pv 1))) pe_int) pa_nil)) pe_int) (pa_cons pe_int pa_nil))))))))), ?_⟩
    refine ⟨fun σ' H' => ∃ c : Int, σ' = [some (.ref a), some (.int j), some (.int c), none, none] ∧ Same H H', ?_, ?_⟩
    · refine ⟨_, rfl, _, rfl, a, _, rfl, .inl hS, _, _, rfl, rfl, _, rfl, ?_⟩
      refine ite2 (fun h0 => ?_) (fun h0 => ?_)
      · have hj2 : j < ns.length := by
          have := of_decide_eq_true h0
          rw [List.length_map] at this
          omega
        exact ⟨_, rfl, _, rfl, a, _, _, V.int ns[j], rfl, rfl, hS, atI_nat (by simp [hj2]), ns[j], rfl, Same.refl H⟩
      · refine ⟨_, rfl, _, rfl, a, _, rfl, hS, fun q hq => ?_⟩
        refine ⟨q, _, rfl, SqL.of (upd_same.trans (by unfold cutV; rw [← List.map_drop, ← List.map_take])), ?_⟩
        exact ⟨_, _, rfl, rfl, (show (0 : Int) < 1000003 by decide), _, rfl, _, _, rfl, rfl, .inl ⟨by decide, by decide⟩, _, _, rfl, rfl, _, _, rfl, rfl, _, rfl, same_upd hq⟩
    · rintro σ1 H1 ⟨c, rfl, s1⟩
      refine ⟨_, rfl, _, rfl, .inl ⟨_, rfl, _, _, rfl, rfl, ⟨by decide, by decide, by decide⟩, _, _, rfl, rfl, ⟨by decide, by decide +kernel⟩, _, _, rfl, rfl, (show (0 : Int) < (10 ^ (60 : Int).toNat) ^ (5 : Int).toNat by decide +kernel), ?_⟩⟩
      refine ⟨_, rfl, _, rfl, _, _, rfl, rfl, ⟨by decide, by decide, by decide⟩, _, _, rfl, rfl, .inr ⟨_, rfl, _, _, rfl, rfl, .inr (bit_in _), ?_⟩⟩
      refine ⟨_, rfl, .inl ⟨_, rfl, _, _, rfl, rfl, (show (0 : Int) < 2305843009213693951 by decide), ?_⟩⟩
      have own0 : 0 ≤ ((if c < 0 then -c else c) % (10 ^ (60 : Int).toNat) ^ (5 : Int).toNat) * (if decide ((10 : Int) ^ (18 : Int).toNat ≤ if c < 0 then -c else c) = true then 1 else 0) := Int.mul_nonneg (Int.emod_nonneg _ (by decide +kernel)) (bit_nn _)
      have m0 := Int.emod_nonneg c (show (2305843009213693951 : Int) ≠ 0 by decide)
      have m1 := Int.emod_lt_of_pos c (show (0 : Int) < 2305843009213693951 by decide)
      refine ⟨_, rfl, _, rfl, _, _, rfl, rfl, .inl (by omega), _, rfl, _, _, rfl, rfl, .inl (by decide), _, rfl, _, _, rfl, rfl, .inl (by omega), _, _, rfl, rfl, _, _, rfl, rfl, .inl ⟨_, rfl, _, _, rfl, rfl, (show (0 : Int) < 2305843009213693921 by decide), by show 3 ≤ sizeLine; decide, fun p hp => ?_⟩⟩
      exact k p _ (s1.free hp) ⟨s1.free hp, s1.trans (same_upd hp)⟩ ⟨_, _, _, upd_same, own0, Int.emod_nonneg _ (by decide), Int.emod_lt_of_pos _ (by decide), by decide, by decide, by decide⟩
end
end Ct

namespace Ct
open PySem PySem.Spec PyProof.Rows L2 TL
abbrev s_l_circuit_text : Stmt := top 90
abbrev N_l_circuit_text : List Str := ["own", "rows", "name", "one", "ties", "tie"]
theorem sc_l_circuit_text : FnScope N_l_circuit_text ["own"] (defScope s_l_circuit_text) := ⟨rfl, rfl, rfl, by decide +kernel, rfl, by decide +kernel, by decide +kernel⟩
def spText (K : PySem.W.Frag) : Sp := fun vs H Q _ => ∃ (v : V) (o : Own), vs = [v] ∧ OwnAt K H v o ∧ OwnOk o ∧ ∀ H', Same H H' → Q (.str (textOf o)) H'
theorem sp_len : (" " : Str).length = 1 := by decide +kernel
theorem src_len : ("source " : Str).length = 7 := by decide +kernel
theorem prt_len : ("part " : Str).length = 5 := by decide +kernel
theorem joi_len : ("joining " : Str).length = 8 := by decide +kernel
theorem tie_len : ("tie " : Str).length = 4 := by decide +kernel
theorem nl_len : ("\n" : Str).length = 1 := by decide +kernel
theorem gnd_len : ("gnd" : Str).length = 3 := by decide +kernel
theorem junc_len {x : Str} (h : Junc x) : x.length ≤ 6 := by
  rcases h with rfl | h
  · rw [gnd_len]; decide
  · exact h.2.1
theorem tie_join {a b c : Str} (ha : a.length ≤ 6) (hb : b.length ≤ 6) (hc : c.length ≤ 6) : (([a, b, c] : List Str).map (·.length)).sum + ([a, b, c] : List Str).length * (" " : Str).length ≤ 30 := by
  rw [sp_len]
  simp
  omega
theorem join3_len {a b c : Str} (ha : a.length ≤ 6) (hb : b.length ≤ 6) (hc : c.length ≤ 6) : (Txt.join " " [a, b, c]).length ≤ 30 := by
  rw [TL.join_eq]
  have e : Str.join " " [a, b, c] = a ++ " " ++ (b ++ " " ++ c) := by
    refine ext_tl ?_
    rw [tl_join]
    simp only [List.map_cons, List.map_nil, joinL, tl_append, List.append_assoc]
  rw [e]
  simp only [len_app, sp_len]
  omega
theorem rows_few {o : Own} (ok : OwnOk o) : (rowsOf o).length ≤ 67 := by
  have few : (o.joinings.flatMap joiRows).length ≤ 54 := by
    refine Nat.le_trans (flat_len (B := 9) fun z hz => ?_) (Nat.mul_le_mul_right 9 ok.j_few)
    have := (ok.joi z hz).few
    unfold joiRows
    rw [List.length_cons, List.length_map]
    omega
  have a := ok.s_few
  have b := ok.p_few
  unfold rowsOf
  rw [List.length_cons, List.length_append, List.length_append, List.length_map, List.length_map]
  omega
theorem cir_len : ("circuit" : Str).length = 7 := by decide +kernel
theorem rows_short {o : Own} (ok : OwnOk o) : ∀ y ∈ rowsOf o, y.length ≤ 3900 := by
  intro y hy
  unfold rowsOf at hy
  rcases List.mem_cons.mp hy with rfl | hy
  · rw [cir_len]; decide
  rcases List.mem_append.mp hy with hy | hy
  · rcases List.mem_append.mp hy with hy | hy
    · obtain ⟨e, he, rfl⟩ := List.mem_map.mp hy
      exact (ent_len (by rw [src_len]; decide) (ok.src e he)).2
    · obtain ⟨e, he, rfl⟩ := List.mem_map.mp hy
      exact (ent_len (by rw [prt_len]; decide) ⟨(ok.prt e he).1, (ok.prt e he).2.1⟩).2
  · obtain ⟨j, hj, hy⟩ := List.mem_flatMap.mp hy
    have jo := ok.joi j hj
    unfold joiRows at hy
    rcases List.mem_cons.mp hy with rfl | hy
    · unfold joiLine
      rw [len_app, joi_len]
      have := jo.name.2.1
      omega
    · obtain ⟨t, ht, rfl⟩ := List.mem_map.mp hy
      have jt := jo.tie t ht
      have l1 : t.1.length ≤ 6 := by
        obtain ⟨y, hy, ey⟩ := List.mem_map.mp jt.1
        exact ey ▸ (ok.prt y hy).1.2.1
      have := join3_len l1 (junc_len jt.2.1) (junc_len jt.2.2)
      unfold tieLine
      rw [len_app, tie_len]
      omega
theorem rows_join {o : Own} (ok : OwnOk o) : ((rowsOf o).map (·.length)).sum + (rowsOf o).length * ("\n" : Str).length ≤ 16777216 := by
  have a := rows_few ok
  have b := sum_le (rows_short ok)
  rw [nl_len]
  have c : (rowsOf o).length * 3900 ≤ 67 * 3900 := Nat.mul_le_mul_right _ a
  omega
section
variable {P : Program} {w : World} {K : PySem.W.Frag} {mg : Str → Option Value} {base : Heap}
theorem k_circuit_text (D : Lies K mg "_law_circuit_text" s_l_circuit_text) (T : Plain mg) (G_l_frac_text : Keeps P w K mg base 1 "_law_frac_text" ["one"] (spFracText K)) : Keeps P w K mg base 2 "_law_circuit_text" ["own"] (spText K) := by
  refine D.keeps sc_l_circuit_text (fun _ _ _ _ _ _ us hl => match us, hl with | [_], _ => rfl) (fun vs H Q E h => ?_) (fun f cdv A outer s H vs Q E hr h => ?_)
  · obtain ⟨v, o, rfl, _⟩ := h
    rfl
  · obtain ⟨v, o, rfl, ⟨d, vS, vP, vJ, rfl, hd, ⟨aS, xS, rfl, hS, pS⟩, ⟨aP, xP, rfl, hP, pP⟩, ⟨aJ, xJ, rfl, hJ, pJ⟩⟩, ok, k⟩ := h
    refine ⟨_, (pss_cons (ps_setLc (i := 1) (own := [("name", 2), ("one", 3)]) (g := gTup K 2 (gCons (gName 2) (gCons (gName 3) gNil))) (tt := tYes) rfl sc_l_circuit_text.nd rfl rfl (sw_true rfl rfl rfl (by decide +kernel)) (pi_list (pe_dget (hu_of hr) (pv 0) pe_str (fun _ _ => rfl))) (blkOk_by (N := N_l_circuit_text) (sc := defScope s_l_circuit_text) (by decide +kernel)) (fun _ _ _ _ _ => pg_tup rfl (pgs_cons (pg_name (i := 2) sc_l_circuit_text.nd rfl (Or.inl rfl)) (pgs_cons (pg_name (i := 3) sc_l_circuit_text.nd rfl (Or.inl rfl)) pgs_nil))) (fun _ _ _ _ _ => pts_nil) (fun _ _ _ _ _ => by exact (pe_op op_add_str (pe_op op_add_str (pe_op op_add_str pe_str (pv 2)) pe_str) (pe_go G_l_frac_text (hr.mono (by decide)) rfl (pa_cons (pv 3) pa_nil)))))
      (pss_cons (ps_expr (pe_bm PySem.F.plainAttrs_list PySem.F.slot_list_extend PySem.F.type_list_extend mt_extend (pv 1) (pa_cons (pe_lc (own := [("name", 2), ("one", 3)]) (g := gTup K 2 (gCons (gName 2) (gCons (gName 3) gNil))) (tt := tYes) rfl sc_l_circuit_text.nd (pi_list (pe_dget (hu_of hr) (pv 0) pe_str (fun _ _ => rfl))) (blkOk_by (N := N_l_circuit_text) (sc := defScope s_l_circuit_text) (by decide +kernel)) (fun _ _ _ _ _ => pg_tup rfl (pgs_cons (pg_name (i := 2) sc_l_circuit_text.nd rfl (Or.inl rfl)) (pgs_cons (pg_name (i := 3) sc_l_circuit_text.nd rfl (Or.inl rfl)) pgs_nil))) (fun _ _ _ _ _ => pts_nil) (fun _ _ _ _ _ => by exact (pe_op op_add_str (pe_op op_add_str (pe_op op_add_str pe_str (pv 2)) pe_str) (pe_go G_l_frac_text (hr.mono (by decide)) rfl (pa_cons (pv 3) pa_nil))))) pa_nil)))
      (pss_cons (ps_for PassesOwn.never rfl (pi_list (pe_dget (hu_of hr) (pv 0) pe_str (fun _ _ => rfl))) (pg_tup rfl (pgs_cons (pg_name (i := 2) sc_l_circuit_text.nd rfl (Or.inl rfl)) (pgs_cons (pg_name (i := 4) sc_l_circuit_text.nd rfl (Or.inl rfl)) pgs_nil)))
        (pss_cons (ps_expr (pe_bm PySem.F.plainAttrs_list PySem.F.slot_list_append PySem.F.type_list_append mt_append (pv 1) (pa_cons (pe_op op_add_str pe_str (pv 2)) pa_nil)))
        (pss_one (ps_expr (pe_bm PySem.F.plainAttrs_list PySem.F.slot_list_extend PySem.F.type_list_extend mt_extend (pv 1) (pa_cons (pe_lc (own := [("tie", 5)]) (g := gName 5) (tt := tYes) rfl sc_l_circuit_text.nd (pi_list (pv 4)) (blkOk_by (N := N_l_circuit_text) (sc := defScope s_l_circuit_text) (by decide +kernel)) (fun _ _ _ _ _ => pg_name (i := 5) sc_l_circuit_text.nd rfl (Or.inl rfl)) (fun _ _ _ _ _ => pts_nil) (fun _ _ _ _ _ => by exact (pe_op op_add_str pe_str (pe_joinK (K := K) rfl pe_str (pe_listK (K := K) rfl rfl T.n_list (pa_cons (pv 5) pa_nil)))))) pa_nil))))))
      (pss_one (ps_ret (pe_joinK (K := K) rfl pe_str (pe_op op_cat (pe_lst (pa_cons pe_str pa_nil)) (pv 1)))))))), ?_⟩
    refine into_set (comp_pure (f := entLine "source ") (R := EntAt K H) (R' := fun _ => StrV) (fun R r => ⟨_, rfl, d, _, rfl, get_s hd, r⟩) hS pS ?_ (fun _ _ _ h => h) (fun _ _ _ _ h => h) (fun x e H0 Z r he s0 hz => ?_) (fun H2 D acc hD s2 hL hp => ?_))
    · rw [pS.length]
      exact Nat.lt_of_le_of_lt ok.s_few (by decide)
    · obtain ⟨t, u, rfl, ht, u', rfl, hu⟩ := r
      have hn := ok.src e he
      have l1 := ent_len (w := "source ") (by rw [src_len]; decide) hn
      refine ⟨t, _, rfl, SqT.same s0 ht, rfl, _, _, rfl, _, _, rfl, ⟨rfl, rfl, ?_⟩⟩
      refine ⟨_, rfl, _, _, rfl, rfl, ?_, _, _, rfl, rfl, ?_, _, rfl, u', e.2, rfl, SqT.same s0 hu, hn.2.2.2.1, hn.2.2.2.2, _, _, rfl, rfl, ?_, hz _ _ (Same.refl _) rfl⟩
      · rw [src_len]
        exact Nat.le_trans (Nat.add_le_add_left hn.1.2.1 7) (by decide)
      · have := l1.1
        rw [len_app] at this
        exact Nat.le_trans this (by decide)
      · have := l1.2
        unfold entLine at this
        rw [len_app] at this
        exact Nat.le_trans this (by decide)
    have eL := strs_are hp
    subst eL
    have dS : (V.ref d) = V.ref d := rfl
    refine into_drop ⟨_, rfl, .inl ⟨rfl, _, SqL.of hL⟩, into_args1 (comp_pure (f := entLine "part ") (R := EntAt K H) (R' := fun _ => StrV) (fun R r => ⟨_, rfl, d, _, rfl, get_p (s2 _ _ hd), r⟩) (Same.seq s2 hP) pP ?_ (fun _ _ _ h => h) (fun _ _ _ _ h => h) (fun x e H0 Z r he s0 hz => ?_) (fun H3 D3 acc hD3 s3 hL3 hp3 => ?_))⟩
    · rw [pP.length]
      exact Nat.lt_of_le_of_lt ok.p_few (by decide)
    · obtain ⟨t, u, rfl, ht, u', rfl, hu⟩ := r
      have hn := ok.prt e he
      have l1 := ent_len (w := "part ") (by rw [prt_len]; decide) ⟨hn.1, hn.2.1⟩
      refine ⟨t, _, rfl, SqT.same (s2.trans s0) ht, rfl, _, _, rfl, _, _, rfl, ⟨rfl, rfl, ?_⟩⟩
      refine ⟨_, rfl, _, _, rfl, rfl, ?_, _, _, rfl, rfl, ?_, _, rfl, u', e.2, rfl, SqT.same (s2.trans s0) hu, hn.2.1.2.2.1, hn.2.1.2.2.2, _, _, rfl, rfl, ?_, hz _ _ (Same.refl _) rfl⟩
      · rw [prt_len]
        exact Nat.le_trans (Nat.add_le_add_left hn.1.2.1 5) (by decide)
      · have := l1.1
        rw [len_app] at this
        exact Nat.le_trans this (by decide)
      · have := l1.2
        unfold entLine at this
        rw [len_app] at this
        exact Nat.le_trans this (by decide)
    have eL3 := strs_are hp3
    subst eL3
    have hLD := s3 _ _ hL
    have nDD : D ≠ D3 := fun z => by
      rw [z, hD3] at hL
      cases hL
    have r1 : (o.sources.map (entLine "source ")).length ≤ 4 := by rw [List.length_map]; exact ok.s_few
    have r2 : (o.parts.map (entLine "part ")).length ≤ 8 := by rw [List.length_map]; exact ok.p_few
    refine ⟨D, D3, _, _, rfl, rfl, hLD, hL3, ?_, ?_⟩
    · simp only [List.length_map] at r1 r2 ⊢
      show _ ≤ 16777216
      omega
    rw [← List.map_append]
    have s4 : Same H (upd H3 D (.lst ((o.sources.map (entLine "source ") ++ o.parts.map (entLine "part ")).map V.str))) := fun b z q => by
      rw [upd_ne (ne_of_none q hD)]
      exact s3 _ _ (s2 _ _ q)
    refine ⟨_, rfl, d, _, rfl, get_j (s4 _ _ hd), aJ, rfl, ⟨_, Same.seq s4 hJ⟩, for_list (xs := xJ) (fun i σ' H' => ∃ v2 v3 v4 v5 : Option V, σ' = [some (.ref d), some (.ref D), v2, v3, v4, v5] ∧
      H' D = some (.lst ((o.sources.map (entLine "source ") ++ o.parts.map (entLine "part ") ++ (o.joinings.take i).flatMap joiRows).map V.str)) ∧ Same H H')
      ⟨_, _, _, _, rfl, by rw [List.take_zero, List.flatMap_nil, List.append_nil]; exact upd_same, s4⟩ (fun i σ' H' _ ⟨_, _, _, _, _, _, s⟩ => Same.seq s hJ) ?_ ?_⟩
    · rintro i x σ' H' hx ⟨v2, v3, v4, v5, rfl, hLi, si⟩
      obtain ⟨e, he, t, l, rfl, ht, al, xl, rfl, hl, pl⟩ := Paired.at pJ hx
      have hj := ok.joi e (List.mem_of_getElem? he)
      have hi : i < 6 := Nat.lt_of_lt_of_le (List.getElem?_eq_some_iff.mp he).1 ok.j_few
      have few : ((o.joinings.take i).flatMap joiRows).length ≤ 54 := by
        refine Nat.le_trans (flat_len (B := 9) fun z hz => ?_) (Nat.mul_le_mul_right 9 (Nat.le_trans (List.length_take_le i _) (Nat.le_of_lt hi)))
        have := (ok.joi z (List.mem_of_mem_take hz)).few
        unfold joiRows
        rw [List.length_cons, List.length_map]
        omega
      have rs : (o.sources.map (entLine "source ") ++ o.parts.map (entLine "part ") ++ (o.joinings.take i).flatMap joiRows).length ≤ 66 := by
        rw [List.length_append, List.length_append]
        omega
      generalize hrows : o.sources.map (entLine "source ") ++ o.parts.map (entLine "part ") ++ (o.joinings.take i).flatMap joiRows = rows at hLi rs
      refine ⟨t, _, rfl, SqT.same si ht, rfl, _, _, rfl, _, _, rfl, ⟨rfl, ?_⟩⟩
      refine ⟨_, rfl, .inl ⟨rfl, _, SqL.of hLi⟩, _, rfl, _, _, rfl, rfl, ?_, D, _, _, rfl, rfl, hLi, ?_, ?_⟩
      · rw [joi_len]
        exact Nat.le_trans (Nat.add_le_add_left hj.name.2.1 8) (by decide)
      · rw [List.length_map]
        show rows.length < 16777216
        omega
      have s5 : Same H (upd H' D (.lst (rows.map V.str ++ [V.str ("joining " ++ e.1)]))) := fun b z q => by
        rw [upd_ne (ne_of_none q hD)]
        exact si _ _ q
      refine ⟨_, rfl, .inl ⟨rfl, _, SqL.of upd_same⟩, into_args1 (comp_pure (f := tieLine) (R := TieAt K H) (R' := fun _ => StrV) (fun R r => ⟨_, rfl, r⟩) (Same.seq s5 hl) pl ?_ (fun _ _ _ h => h) (fun _ _ _ _ h => h) (fun x e2 H0 Z r he2 s0 hz => ?_) (fun H6 D6 acc hD6 s6 hL6 hp6 => ?_))⟩
      · rw [pl.length]
        exact Nat.lt_of_le_of_lt hj.few (by decide)
      · obtain ⟨t2, rfl, ht2⟩ := r
        have jt := hj.tie e2 he2
        have l1 : e2.1.length ≤ 6 := by
          obtain ⟨y, hy, ey⟩ := List.mem_map.mp jt.1
          exact ey ▸ (ok.prt y hy).1.2.1
        have l2 := junc_len jt.2.1
        have l3 := junc_len jt.2.2
        refine ⟨rfl, ⟨_, rfl⟩, _, rfl, t2, _, rfl, .inr (SqT.same (s5.trans s0) ht2), fun q hq => ⟨_, q, [e2.1, e2.2.1, e2.2.2], rfl, rfl, .inl (SqL.of upd_same), Nat.le_trans (tie_join l1 l2 l3) (by decide), _, _, rfl, rfl, ?_, hz _ _ (same_upd hq) rfl⟩⟩
        rw [tie_len]
        exact Nat.le_trans (Nat.add_le_add_left (join3_len l1 l2 l3) 4) (by decide)
      have eL6 := strs_are hp6
      subst eL6
      refine ⟨D, D6, _, _, rfl, rfl, s6 _ _ upd_same, hL6, ?_, ?_⟩
      · rw [List.length_append, List.length_map, List.length_map, List.length_map, List.length_singleton]
        have := hj.few
        show rows.length + 1 + e.2.length ≤ 16777216
        omega
      refine ⟨_, _, _, _, rfl, ?_, fun b z q => ?_⟩
      · rw [upd_same, take_snoc he, List.flatMap_append, ← List.append_assoc, hrows, List.map_append, List.flatMap_singleton]
        unfold joiRows joiLine
        simp
      · rw [upd_ne (ne_of_none q hD)]
        exact s6 _ _ (s5 _ _ q)
    · rintro σ' H' ⟨v2, v3, v4, v5, rfl, hLi, si⟩
      rw [show o.joinings.take xJ.length = o.joinings by rw [pJ.length, List.take_length]] at hLi
      have few : (o.joinings.flatMap joiRows).length ≤ 54 := by
        refine Nat.le_trans (flat_len (B := 9) fun z hz => ?_) (Nat.mul_le_mul_right 9 ok.j_few)
        have := (ok.joi z hz).few
        unfold joiRows
        rw [List.length_cons, List.length_map]
        omega
      refine ⟨⟨_, rfl⟩, ⟨by show 1 ≤ sizeLine; decide, fun q hq => ⟨_, rfl, ?_⟩⟩⟩
      have nqD : q ≠ D := fun z => by rw [z, hLi] at hq; cases hq
      refine ⟨q, D, _, _, rfl, rfl, upd_same, (upd_ne nqD.symm).trans hLi, ?_, fun p hp => ?_⟩
      · rw [List.length_singleton, List.length_map, List.length_append, List.length_append]
        show 1 + _ ≤ 16777216
        omega
      refine ⟨_, p, rowsOf o, rfl, rfl, .inl (SqL.of ?_), ?_, k _ fun b z h => ?_⟩
      · rw [upd_same]
        rfl
      · exact rows_join ok
      · rw [upd_ne (ne_of_none (o := z) (by rw [upd_ne (ne_of_none (si _ _ h) hq)]; exact si _ _ h) hp), upd_ne (ne_of_none (si _ _ h) hq)]
        exact si _ _ h
end
end Ct

namespace Ct
open PySem PySem.Spec PyProof.Rows L2 TL
abbrev s_Circuit_init : Stmt := inClass (top 68) 0
abbrev N_Circuit_init : List Str := ["self", "text", "sources", "parts", "joinings", "name", "ties"]
theorem sc_Circuit_init : FnScope N_Circuit_init ["self", "text"] (defScope s_Circuit_init) := ⟨rfl, rfl, rfl, by decide +kernel, rfl, by decide +kernel, by decide +kernel⟩
structure ClassT (K : PySem.W.Frag) (mg : Str → Option Value) (C : Addr) : Prop where
  cl : Cls K C
  nT : NoAttr K C "text"
  nS : NoAttr K C "sources"
  nP : NoAttr K C "parts"
  nJ : NoAttr K C "joinings"
def spInit (K : PySem.W.Frag) (C : Addr) : Sp := fun vs H Q _ => ∃ (H0 : Hp) (x dx : Addr) (o : Own), vs = [.ref x, .str (textOf o)] ∧ Same H0 H ∧ H0 x = none ∧ H x = some (.ins C dx []) ∧ OwnOk o ∧ ∀ H', Same H0 H' → CircAt K C H' (.ref x) o → Q .non H'
theorem f_ts : ¬ ("text" : Str) = "sources" := by decide +kernel
theorem f_tp : ¬ ("text" : Str) = "parts" := by decide +kernel
theorem f_tj : ¬ ("text" : Str) = "joinings" := by decide +kernel
theorem f_st : ¬ ("sources" : Str) = "text" := by decide +kernel
theorem f_pt : ¬ ("parts" : Str) = "text" := by decide +kernel
theorem f_sp : ¬ ("sources" : Str) = "parts" := by decide +kernel
theorem f_sj : ¬ ("sources" : Str) = "joinings" := by decide +kernel
theorem f_pj : ¬ ("parts" : Str) = "joinings" := by decide +kernel
theorem put1 (a : V) : putF "text" a [] = ([("text", a)] : List (Str × V)) := rfl
theorem put2 (a b : V) : putF "sources" b (putF "text" a []) = ([("text", a), ("sources", b)] : List (Str × V)) := by
  rw [put1]
  show (if ("text" : Str) = "sources" then _ else _) = _
  rw [if_neg f_ts]
  rfl
theorem few2 (a b : V) : (putF "sources" b (putF "text" a [])).length < 1000 := by
  rw [put2]
  show 2 < 1000
  decide
theorem few3 (a b c : V) : (putF "parts" c (putF "sources" b (putF "text" a []))).length < 1000 := by
  rw [put2]
  show (if ("text" : Str) = "parts" then _ else (("text" : Str), a) :: (if ("sources" : Str) = "parts" then _ else _)).length < 1000
  rw [if_neg f_tp, if_neg f_sp]
  show 3 < 1000
  decide
theorem lines_few {o : Own} (ok : OwnOk o) : (linesOf o).length ≤ 100 := by
  have := rows_few ok
  rw [rows_lines, List.length_cons, List.length_map] at this
  omega
theorem line_short {o : Own} (ok : OwnOk o) : ∀ l ∈ linesOf o, l.text.length ≤ 4000 := fun l hl => by
  have := rows_short ok l.text (by rw [rows_lines]; exact List.mem_cons_of_mem _ (List.mem_map_of_mem hl))
  omega
theorem text_len {o : Own} (ok : OwnOk o) : (textOf o).length + 2 ≤ 16777216 := by
  unfold textOf
  rw [TL.join_eq]
  have key : ∀ (B : Nat) (ys : List Str), (∀ y ∈ ys, y.length ≤ B) → (Str.join "\n" ys).length ≤ ys.length * (B + 1) := by
    intro B ys
    induction ys with
    | nil =>
      intro _
      rw [len_tl, tl_join]
      exact Nat.zero_le _
    | cons y r ih =>
      intro h
      have h1 := h y List.mem_cons_self
      have h2 := ih fun z hz => h z (List.mem_cons_of_mem _ hz)
      rw [len_tl, tl_join] at h2 ⊢
      rw [List.length_cons, Nat.add_mul]
      cases r with
      | nil =>
        show (tl y).length ≤ _
        rw [← len_tl]
        omega
      | cons z q =>
        show (tl y ++ (tl ("\n" : Str) ++ joinL (tl ("\n" : Str)) ((z :: q).map tl))).length ≤ _
        rw [List.length_append, List.length_append, ← len_tl, ← len_tl, nl_len]
        omega
  have a := key 3900 (rowsOf o) (rows_short ok)
  have b := rows_few ok
  have c : (rowsOf o).length * (3900 + 1) ≤ 67 * 3901 := Nat.mul_le_mul b (by decide)
  omega
section
variable {P : Program} {w : World} {K : PySem.W.Frag} {mg : Str → Option Value} {base : Heap}
theorem k_init {f C : Addr} {fd : FuncData} (F : Fun K "__init__" "Circuit.__init__" s_Circuit_init f fd) (Z : ClassT K mg C) (T : Plain mg) (G_read_lines : Keeps P w K mg base 6 "_read_lines" ["lines"] (spReadLines K)) : FnOk P w K mg base CX0 7 f fd ["self", "text"] (spInit K C) := by
  refine F.ok sc_Circuit_init (fun vs H Q E h => ?_) (fun cdv A outer s0 H vs Q E hr h => ?_)
  · obtain ⟨H0, x, dx, o, rfl, _⟩ := h
    rfl
  · obtain ⟨H0, x, dx, o, rfl, s00, x0, hx, ok, k⟩ := h
    refine ⟨_, (pss_cons (ps_if (pt_not (pt_val (pe_callB call_isi (by rfl) T.n_isinstance b_isinstance (pa_cons (pv 1) (pa_cons (pe_bltn (v := .ty "str") (by rfl) T.n_str b_str rfl) pa_nil)))))
        (pss_one (ps_never))
        pss_nil)
      (pss_cons (ps_asg (pe_go G_read_lines (hr.mono (by decide)) rfl (pa_cons (pe_split (pv 1) pe_str) pa_nil)) (pg_tup rfl (pgs_cons (pg_name (i := 2) sc_Circuit_init.nd rfl (Or.inl rfl)) (pgs_cons (pg_name (i := 3) sc_Circuit_init.nd rfl (Or.inl rfl)) (pgs_cons (pg_name (i := 4) sc_Circuit_init.nd rfl (Or.inl rfl)) pgs_nil)))))
      (pss_cons (ps_fld (pv 0) (pv 1) rfl)
      (pss_cons (ps_fld (pv 0) (pe_callTy call_tuple_of (by rfl) T.n_tuple b_tuple (pa_cons (pv 2) pa_nil)) rfl)
      (pss_cons (ps_fld (pv 0) (pe_callTy call_tuple_of (by rfl) T.n_tuple b_tuple (pa_cons (pv 3) pa_nil)) rfl)
      (pss_one (ps_fld (pv 0) (pe_callTy call_tuple_of (by rfl) T.n_tuple b_tuple (pa_cons (pe_lc (own := [("name", 5), ("ties", 6)]) (g := gTup K 2 (gCons (gName 5) (gCons (gName 6) gNil))) (tt := tYes) rfl sc_Circuit_init.nd (pi_list (pv 4)) (blkOk_by (N := N_Circuit_init) (sc := defScope s_Circuit_init) (by decide +kernel)) (fun _ _ _ _ _ => pg_tup rfl (pgs_cons (pg_name (i := 5) sc_Circuit_init.nd rfl (Or.inl rfl)) (pgs_cons (pg_name (i := 6) sc_Circuit_init.nd rfl (Or.inl rfl)) pgs_nil))) (fun _ _ _ _ _ => pts_nil) (fun _ _ _ _ _ => by exact (pe_tup (pa_cons (pv 5) (pa_cons (pe_tupleK (K := K) rfl rfl T.n_tuple (pa_cons (pv 6) pa_nil)) pa_nil))))) pa_nil)) rfl))))))), ?_⟩
    refine ⟨_, rfl, _, _, _, _, true, rfl, .ty _, .base (.str _), kit_ty (by decide +kernel), true, rfl, iteF ?_⟩
    refine ⟨_, rfl, ⟨_, rfl⟩, _, _, rfl, rfl, by rw [nl_len]; rfl, text_len ok, fun q nq => ?_⟩
    rw [text_split ok, rows_lines]
    have sq := same_upd (o := .lst ((("circuit" : Str) :: (linesOf o).map Line.text).map V.str)) nq
    refine ⟨q, linesOf o, rfl, SqL.of upd_same, fits_lines ok, lines_few ok, line_short ok, ?_, fun t s p j G1 H1 sG ac ht => ?_⟩
    · rw [fold_lines]
      intro z
      have := ok.j_some
      rw [z] at this
      exact absurd this (by decide)
    rw [fold_lines] at ac
    have s01 : Same H H1 := sq.trans (sG.trans ac.sub)
    have hx1 := s01 _ _ hx
    obtain ⟨vS, hS, pS⟩ := ac.src
    obtain ⟨vP, hP, pP⟩ := ac.prt
    obtain ⟨vJ, hJ, pJ⟩ := ac.jr
    have pS1 : Paired (EntAt K H1) vS o.sources := pS.mono fun _ _ h => h.same ac.sub
    have pP1 : Paired (EntAt K H1) vP o.parts := pP.mono fun _ _ h => h.same ac.sub
    have z01 : Same H0 H1 := s00.trans s01
    refine ⟨t, _, rfl, SqT.of ht, rfl, _, _, rfl, _, _, rfl, _, _, rfl, ⟨rfl, ?_⟩⟩
    -- self.text
    refine ⟨_, rfl, _, rfl, x, C, dx, [], rfl, hx1, Z.cl, Z.nT, by show 0 < 1000; decide, ?_⟩
    generalize hf1 : putF "text" (V.str (textOf o)) [] = f1
    have x2 : (upd H1 x (.ins C dx f1)) x = some (.ins C dx f1) := upd_same
    have z2 : Same H0 (upd H1 x (.ins C dx f1)) := same_but z01 x0
    have S2 : Paired (EntAt K (upd H1 x (.ins C dx f1))) vS o.sources := pS1.mono fun _ _ h => h.ins hx1
    have P2 : Paired (EntAt K (upd H1 x (.ins C dx f1))) vP o.parts := pP1.mono fun _ _ h => h.ins hx1
    have J2 : Paired (JrAt K (upd H1 x (.ins C dx f1))) vJ o.joinings := pJ.mono fun _ _ h => h.ins hx1
    have nx : ∀ {l : Addr} {tv : List V}, H1 l = some (.lst tv) → l ≠ x := fun h => ne_of h hx1 (by intro z; cases z)
    have hS2 : (upd H1 x (.ins C dx f1)) s = some (.lst vS) := (upd_ne (nx hS)).trans hS
    have hP2 : (upd H1 x (.ins C dx f1)) p = some (.lst vP) := (upd_ne (nx hP)).trans hP
    have hJ2 : (upd H1 x (.ins C dx f1)) j = some (.lst vJ) := (upd_ne (nx hJ)).trans hJ
    generalize upd H1 x (.ins C dx f1) = H2 at *
    -- self.sources
    refine ⟨_, rfl, s, _, rfl, .inl ⟨SqL.of hS2, fun ts nts => ?_⟩⟩
    have s3 := same_upd (o := .tup vS) nts
    have x3 := s3 _ _ x2
    refine ⟨_, rfl, x, C, dx, f1, rfl, x3, Z.cl, Z.nS, by rw [← hf1]; show 1 < 1000; decide, ?_⟩
    have q3 : (upd H2 ts (.tup vS)) ts = some (.tup vS) := upd_same
    generalize hf2 : putF "sources" (V.ref ts) f1 = f2
    have z4 : Same H0 (upd (upd H2 ts (.tup vS)) x (.ins C dx f2)) := same_but (z2.trans s3) x0
    have x4 : (upd (upd H2 ts (.tup vS)) x (.ins C dx f2)) x = some (.ins C dx f2) := upd_same
    have Q4 : SqT K (upd (upd H2 ts (.tup vS)) x (.ins C dx f2)) ts vS := SqT.ins x3 (SqT.of q3)
    have S4 : Paired (EntAt K (upd (upd H2 ts (.tup vS)) x (.ins C dx f2))) vS o.sources := S2.mono fun _ _ h => (h.same s3).ins x3
    have P4 : Paired (EntAt K (upd (upd H2 ts (.tup vS)) x (.ins C dx f2))) vP o.parts := P2.mono fun _ _ h => (h.same s3).ins x3
    have J4 : Paired (JrAt K (upd (upd H2 ts (.tup vS)) x (.ins C dx f2))) vJ o.joinings := J2.mono fun _ _ h => (h.same s3).ins x3
    have nx4 : ∀ {l : Addr} {tv : List V}, H2 l = some (.lst tv) → l ≠ x := fun h => ne_of h x2 (by intro z; cases z)
    have hP4 : (upd (upd H2 ts (.tup vS)) x (.ins C dx f2)) p = some (.lst vP) := (upd_ne (nx4 hP2)).trans (s3 _ _ hP2)
    have hJ4 : (upd (upd H2 ts (.tup vS)) x (.ins C dx f2)) j = some (.lst vJ) := (upd_ne (nx4 hJ2)).trans (s3 _ _ hJ2)
    generalize upd (upd H2 ts (.tup vS)) x (.ins C dx f2) = H4 at *
    -- self.parts
    refine ⟨_, rfl, p, _, rfl, .inl ⟨SqL.of hP4, fun tp ntp => ?_⟩⟩
    have s5 := same_upd (o := .tup vP) ntp
    have x5 := s5 _ _ x4
    refine ⟨_, rfl, x, C, dx, f2, rfl, x5, Z.cl, Z.nP, by rw [← hf2, ← hf1]; exact few2 _ _, ?_⟩
    have q5 : (upd H4 tp (.tup vP)) tp = some (.tup vP) := upd_same
    generalize hf3 : putF "parts" (V.ref tp) f2 = f3
    have z6 : Same H0 (upd (upd H4 tp (.tup vP)) x (.ins C dx f3)) := same_but (z4.trans s5) x0
    have x6 : (upd (upd H4 tp (.tup vP)) x (.ins C dx f3)) x = some (.ins C dx f3) := upd_same
    have Q6 : SqT K (upd (upd H4 tp (.tup vP)) x (.ins C dx f3)) ts vS := SqT.ins x5 (SqT.same s5 Q4)
    have R6 : SqT K (upd (upd H4 tp (.tup vP)) x (.ins C dx f3)) tp vP := SqT.ins x5 (SqT.of q5)
    have S6 : Paired (EntAt K (upd (upd H4 tp (.tup vP)) x (.ins C dx f3))) vS o.sources := S4.mono fun _ _ h => (h.same s5).ins x5
    have P6 : Paired (EntAt K (upd (upd H4 tp (.tup vP)) x (.ins C dx f3))) vP o.parts := P4.mono fun _ _ h => (h.same s5).ins x5
    have J6 : Paired (JrAt K (upd (upd H4 tp (.tup vP)) x (.ins C dx f3))) vJ o.joinings := J4.mono fun _ _ h => (h.same s5).ins x5
    have nx6 : ∀ {l : Addr} {tv : List V}, H4 l = some (.lst tv) → l ≠ x := fun h => ne_of h x4 (by intro z; cases z)
    have hJ6 : (upd (upd H4 tp (.tup vP)) x (.ins C dx f3)) j = some (.lst vJ) := (upd_ne (nx6 hJ4)).trans (s5 _ _ hJ4)
    generalize upd (upd H4 tp (.tup vP)) x (.ins C dx f3) = H6 at *
    -- self.joinings
    dsimp only
    refine into_fld (into_cb (into_args1 (comp_pure (f := fun e : Str × List (Str × Str × Str) => e) (R := JrAt K H6) (R' := fun H' => JoTAt K H') (fun R r => ⟨_, rfl, r⟩) (SqL.of hJ6) J6 ?_ (fun s _ _ h => h.same s) (fun _ hD _ _ h => h.list hD) (fun v e Hi W r he si hz => ?_) (fun H7 D acc hD s7 hL hp => ?_))))
    · rw [J6.length]
      exact Nat.lt_of_le_of_lt ok.j_few (by decide)
    · obtain ⟨t, l, tv, rfl, ht, hl, ties⟩ := r
      refine ⟨t, _, rfl, SqT.same si ht, rfl, _, _, rfl, _, _, rfl, ⟨rfl, rfl, ?_⟩⟩
      refine ⟨_, rfl, _, rfl, l, tv, rfl, .inl ⟨Same.seq si hl, fun l2 nl2 => ⟨by show 2 ≤ sizeLine; decide, fun t2 nt2 => ?_⟩⟩⟩
      have sa := same_upd (o := .tup tv) nl2
      have sb := same_upd (o := .tup [V.str e.1, V.ref l2]) nt2
      exact hz _ _ (sa.trans sb) ⟨t2, l2, tv, rfl, SqT.of upd_same, SqT.of (sb _ _ upd_same), ties.mono fun _ _ h => h.same (si.trans (sa.trans sb))⟩
    · rw [List.map_id'] at hp
      refine ⟨D, _, rfl, .inl ⟨SqL.of hL, fun tj ntj => ?_⟩⟩
      have s8 := same_upd (o := .tup acc) ntj
      have x8 := s8 _ _ (s7 _ _ x6)
      refine ⟨_, rfl, x, C, dx, f3, rfl, x8, Z.cl, Z.nJ, by rw [← hf3, ← hf2, ← hf1]; exact few3 _ _ _, ?_⟩
      have s68 := s7.trans s8
      refine k _ (same_but (z6.trans s68) x0) ⟨x, dx, _, ts, tp, tj, vS, vP, acc, rfl, upd_same, ?_, ?_, ?_, ?_, SqT.ins x8 (SqT.same s68 Q6), SqT.ins x8 (SqT.same s68 R6), SqT.ins x8 (SqT.of upd_same), S6.mono fun _ _ h => (h.same s68).ins x8, P6.mono fun _ _ h => (h.same s68).ins x8, hp.mono fun _ _ h => (h.same s8).ins x8⟩
      all_goals rw [← hf3, ← hf2, ← hf1]
      all_goals simp only [lookup_putF]
      · simp [f_ts, f_tp, f_tj]
      · simp [f_sp, f_sj]
      · simp [f_pj]
      · simp
end
end Ct

/-! Dicts of rationals under names; circuits as rationals. -/
namespace Ct
open PySem PySem.Spec PyProof.Rows L2 TL RZ
theorem b_sorted : bootBuiltins "sorted" = some (.builtin "sorted") := by decide +kernel
/-- potentials, voltages, sizes by name -/
abbrev Tab := Str → Option Rat
def Tab.no : Tab := fun _ => none
def Tab.put (m : Tab) (x : Str) (r : Rat) : Tab := fun y => if y = x then some r else m y
def Tab.at (m : Tab) (x : Str) : Rat := (m x).getD 0
section
variable {K : PySem.W.Frag} {G H H' : Hp}
theorem RatAt.dict {D : Addr} {k k' : List (Key × V)} (hD : H D = some (.dK k)) {v : V} {r : Rat} : RatAt K H v r → RatAt K (upd H D (.dK k')) v r := fun ⟨t, e, h⟩ => ⟨t, e, SqT.dict hD h⟩
def Told (K : PySem.W.Frag) (H : Hp) (o : Option V) : Option Rat → Prop
  | none => o = none
  | some r => ∃ u, o = some u ∧ RatAt K H u r
/-- kvs holds just what m tells -/
def Holds (K : PySem.W.Frag) (H : Hp) (kvs : List (Key × V)) (m : Tab) : Prop := ∀ x, Told K H (valV kvs (.inr x)) (m x)
theorem Told.imp {o : Option V} {q : Option Rat} (h : ∀ v r, RatAt K H v r → RatAt K H' v r) (t : Told K H o q) : Told K H' o q := by
  cases q with
  | none => exact t
  | some r =>
    obtain ⟨u, e, q⟩ := t
    exact ⟨u, e, h _ _ q⟩
theorem Holds.nil : Holds K H [] Tab.no := fun _ => rfl
theorem Holds.same {kvs : List (Key × V)} {m : Tab} (s : Same H H') (h : Holds K H kvs m) : Holds K H' kvs m := fun x => (h x).imp fun _ _ q => q.same s
theorem Holds.dict {D : Addr} {k k' kvs : List (Key × V)} {m : Tab} (hD : H D = some (.dK k)) (h : Holds K H kvs m) : Holds K (upd H D (.dK k')) kvs m := fun x => (h x).imp fun _ _ q => q.dict hD
theorem Holds.put {kvs : List (Key × V)} {m : Tab} {x : Str} {v : V} {r : Rat} (h : Holds K H kvs m) (hv : RatAt K H v r) : Holds K H (putK kvs (.inr x) v) (m.put x r) := fun y => by
  rw [valV_put]
  unfold Tab.put
  by_cases e : y = x
  · subst e
    rw [if_pos rfl, if_pos rfl]
    exact ⟨v, rfl, hv⟩
  · rw [if_neg (fun z => e (by injection z)), if_neg e]
    exact h y
/-- a dict at d, of so many names at most, that holds m -/
def DtAt (K : PySem.W.Frag) (H : Hp) (d : Addr) (n : Nat) (m : Tab) : Prop := ∃ kvs : List (Key × V), H d = some (.dK kvs) ∧ kvs.length ≤ n ∧ Holds K H kvs m
theorem DtAt.same {d : Addr} {n : Nat} {m : Tab} (s : Same H H') : DtAt K H d n m → DtAt K H' d n m := fun ⟨kvs, h, l, q⟩ => ⟨kvs, s _ _ h, l, q.same s⟩
theorem DtAt.more {d : Addr} {n n' : Nat} {m : Tab} (l : n ≤ n') : DtAt K H d n m → DtAt K H d n' m := fun ⟨kvs, h, l', q⟩ => ⟨kvs, h, Nat.le_trans l' l, q⟩
theorem DtAt.isD {d : Addr} {n : Nat} {m : Tab} : DtAt K H d n m → IsD H d := fun ⟨kvs, h, _⟩ => .inl ⟨kvs, .inl h⟩
theorem DtAt.get {d : Addr} {n : Nat} {m : Tab} {x : Str} {r : Rat} (hm : m x = some r) : DtAt K H d n m → ∃ u, DGet H d (.str x) (some u) ∧ RatAt K H u r := fun ⟨kvs, h, _, q⟩ => by
  have t := q x
  rw [hm] at t
  obtain ⟨u, e, t⟩ := t
  exact ⟨u, e ▸ DGet.k (k := Sum.inr x) h, t⟩
theorem DtAt.ask {d : Addr} {n : Nat} {m : Tab} (x : Str) : DtAt K H d n m → ∃ o, DGet H d (.str x) o ∧ Told K H o (m x) := fun ⟨kvs, h, _, q⟩ => ⟨_, DGet.k (k := Sum.inr x) h, q x⟩
theorem DtAt.put {d : Addr} {n : Nat} {m : Tab} {x : Str} {v : V} {r : Rat} (hn : n < 1000000) (hv : RatAt K H v r) : DtAt K H d n m → ∃ H', DPut H d (.str x) v H' ∧ DtAt K H' d (n + 1) (m.put x r) ∧ (∀ G : Hp, Same G H → G d = none → Same G H') ∧ ∃ k k', H d = some (.dK k) ∧ H' = upd H d (.dK k') := fun ⟨kvs, h, l, q⟩ => by
  have few : kvs.length < sizeLine := Nat.lt_of_le_of_lt l (Nat.lt_trans hn (by decide))
  refine ⟨_, DPut.k (k := Sum.inr x) h few, ⟨_, upd_same, ?_, (q.put hv).dict h⟩, fun G s g => same_but s g, ⟨_, _, h, rfl⟩⟩
  have := length_putK kvs (Sum.inr x) v
  omega
end
/-! ### circuits -/
def ratF (f : Int × Int) : Rat := mkRat f.1 f.2.natAbs
theorem ratF_parts {f : Int × Int} (h : FrOk f) : (ratF f).num = f.1 ∧ ((ratF f).den : Int) = f.2 := by
  obtain ⟨a, b⟩ := f
  obtain ⟨h0, h1, _⟩ := h
  have h0 : 0 < b := h0
  have h1 : Int.gcd a b = 1 := h1
  have e : mkRat a b.natAbs = Rat.mk' a b.natAbs (by omega) (by rw [Nat.Coprime]; exact h1) := by
    refine (Rat.mk_eq_mkRat a b.natAbs (by omega) (by rw [Nat.Coprime]; exact h1)).symm
  unfold ratF
  dsimp only
  rw [e]
  refine ⟨rfl, ?_⟩
  show ((b.natAbs : Nat) : Int) = b
  omega
theorem FrAt.rat {K : PySem.W.Frag} {H : Hp} {v : V} {f : Int × Int} (h : FrOk f) : FrAt K H v f → RatAt K H v (ratF f) := fun ⟨t, e, q⟩ => by
  obtain ⟨e1, e2⟩ := ratF_parts h
  refine ⟨t, e, ?_⟩
  rw [e1, e2]
  exact q
theorem ratF_fit {f : Int × Int} (h : FrOk f) : FitR 1000 (ratF f) := by
  obtain ⟨e1, e2⟩ := ratF_parts h
  obtain ⟨_, _, h3, h4⟩ := h
  refine ⟨by rw [e1]; exact h3, ?_⟩
  have : (ratF f).den = f.2.natAbs := by omega
  rw [this]
  exact h4
theorem FitR.more {n m : Nat} {r : Rat} (l : n ≤ m) (h : FitR n r) : FitR m r := ⟨Nat.lt_of_lt_of_le h.1 (Nat.pow_le_pow_right (by decide) l), Nat.lt_of_lt_of_le h.2 (Nat.pow_le_pow_right (by decide) l)⟩
/-- a circuit's object; its parts' tuple has no dict of its own -/
def CircN (K : PySem.W.Frag) (C : Addr) (H : Hp) (v : V) (o : Own) : Prop := ∃ (c dx : Addr) (fs : List (Str × V)) (ts tp tj : Addr) (us vs ws : List V), v = .ref c ∧ H c = some (.ins C dx fs) ∧ fs.lookup ("text" : Str) = some (.str (textOf o)) ∧ fs.lookup ("sources" : Str) = some (.ref ts) ∧
  fs.lookup ("parts" : Str) = some (.ref tp) ∧ fs.lookup ("joinings" : Str) = some (.ref tj) ∧ SqT K H ts us ∧ TupN H tp vs ∧ SqT K H tj ws ∧ Paired (EntAt K H) us o.sources ∧ Paired (EntAt K H) vs o.parts ∧ Paired (JoTAt K H) ws o.joinings
section
variable {K : PySem.W.Frag} {C : Addr} {H H' : Hp} {v : V} {o : Own}
theorem CircN.same (s : Same H H') : CircN K C H v o → CircN K C H' v o := fun ⟨c, dx, fs, ts, tp, tj, us, vs, ws, a, b, f1, f2, f3, f4, q1, q2, q3, r1, r2, r3⟩ =>
  ⟨c, dx, fs, ts, tp, tj, us, vs, ws, a, s _ _ b, f1, f2, f3, f4, SqT.same s q1, q2.same s, SqT.same s q3, r1.mono fun _ _ h => h.same s, r2.mono fun _ _ h => h.same s, r3.mono fun _ _ h => h.same s⟩
theorem CircN.src (h : CircN K C H v o) : ∃ c dx fs t us, v = .ref c ∧ H c = some (.ins C dx fs) ∧ fs.lookup ("sources" : Str) = some (.ref t) ∧ SqT K H t us ∧ Paired (EntAt K H) us o.sources := by
  obtain ⟨c, dx, fs, ts, tp, tj, us, vs, ws, a, b, f1, f2, f3, f4, q1, q2, q3, r1, r2, r3⟩ := h
  exact ⟨c, dx, fs, ts, us, a, b, f2, q1, r1⟩
theorem CircN.prt (h : CircN K C H v o) : ∃ c dx fs t us, v = .ref c ∧ H c = some (.ins C dx fs) ∧ fs.lookup ("parts" : Str) = some (.ref t) ∧ TupN H t us ∧ Paired (EntAt K H) us o.parts := by
  obtain ⟨c, dx, fs, ts, tp, tj, us, vs, ws, a, b, f1, f2, f3, f4, q1, q2, q3, r1, r2, r3⟩ := h
  exact ⟨c, dx, fs, tp, vs, a, b, f3, q2, r2⟩
theorem CircN.joi (h : CircN K C H v o) : ∃ c dx fs t us, v = .ref c ∧ H c = some (.ins C dx fs) ∧ fs.lookup ("joinings" : Str) = some (.ref t) ∧ SqT K H t us ∧ Paired (JoTAt K H) us o.joinings := by
  obtain ⟨c, dx, fs, ts, tp, tj, us, vs, ws, a, b, f1, f2, f3, f4, q1, q2, q3, r1, r2, r3⟩ := h
  exact ⟨c, dx, fs, tj, ws, a, b, f4, q3, r3⟩
end
/-- ties, as they lie in a tuple -/
def TiesAt (K : PySem.W.Frag) (H : Hp) (v : V) (ties : List (Str × Str × Str)) : Prop := ∃ a xs, v = .ref a ∧ SqT K H a xs ∧ Paired (TieAt K H) xs ties
theorem TiesAt.same {K : PySem.W.Frag} {H H' : Hp} (s : Same H H') {v : V} {ties : List (Str × Str × Str)} : TiesAt K H v ties → TiesAt K H' v ties := fun ⟨a, xs, e, h, p⟩ => ⟨a, xs, e, SqT.same s h, p.mono fun _ _ h => h.same s⟩
abbrev s_is_row : Stmt := top 30
abbrev N_is_row : List Str := ["circuit", "value", "number"]
theorem sc_is_row : FnScope N_is_row ["circuit", "value"] (defScope s_is_row) := ⟨rfl, rfl, rfl, by decide +kernel, rfl, by decide +kernel, by decide +kernel⟩
abbrev s_check_row : Stmt := top 31
abbrev N_check_row : List Str := ["circuit", "value"]
theorem sc_check_row : FnScope N_check_row ["circuit", "value"] (defScope s_check_row) := ⟨rfl, rfl, rfl, by decide +kernel, rfl, by decide +kernel, by decide +kernel⟩
abbrev s_check_standing : Stmt := top 32
abbrev N_check_standing : List Str := ["circuit", "value"]
theorem sc_check_standing : FnScope N_check_standing ["circuit", "value"] (defScope s_check_standing) := ⟨rfl, rfl, rfl, by decide +kernel, rfl, by decide +kernel, by decide +kernel⟩
abbrev s_check_joining : Stmt := top 33
abbrev N_check_joining : List Str := ["circuit", "value"]
theorem sc_check_joining : FnScope N_check_joining ["circuit", "value"] (defScope s_check_joining) := ⟨rfl, rfl, rfl, by decide +kernel, rfl, by decide +kernel, by decide +kernel⟩
abbrev s_ties_of : Stmt := top 43
abbrev N_ties_of : List Str := ["circuit", "joining", "name", "ties"]
theorem sc_ties_of : FnScope N_ties_of ["circuit", "joining"] (defScope s_ties_of) := ⟨rfl, rfl, rfl, by decide +kernel, rfl, by decide +kernel, by decide +kernel⟩
def spIsRow (K : PySem.W.Frag) (C : Addr) : Sp := fun vs H Q _ => ∃ (v u : V) (o : Own) (rs : List Rat), vs = [v, u] ∧ CircN K C H v o ∧ OwnOk o ∧ RatsAt K H u rs ∧ rs.length = o.parts.length ∧ ∀ H', Same H H' → Q (.bl true) H'
def spCheckRow (K : PySem.W.Frag) (C : Addr) : Sp := fun vs H Q _ => ∃ (v u : V) (o : Own) (rs : List Rat), vs = [v, u] ∧ CircN K C H v o ∧ OwnOk o ∧ RatsAt K H u rs ∧ rs.length = o.parts.length ∧ ∀ H', Same H H' → Q .non H'
def spCheckJoi (K : PySem.W.Frag) (C : Addr) : Sp := fun vs H Q _ => ∃ (v : V) (o : Own) (x : Str), vs = [v, .str x] ∧ CircN K C H v o ∧ OwnOk o ∧ x ∈ o.joinings.map (·.1) ∧ ∀ H', Same H H' → Q .non H'
def spTiesOf (K : PySem.W.Frag) (C : Addr) : Sp := fun vs H Q _ => ∃ (v : V) (o : Own) (x : Str) (ties : List (Str × Str × Str)), vs = [v, .str x] ∧ CircN K C H v o ∧ OwnOk o ∧ (x, ties) ∈ o.joinings ∧ ∀ v' H', Same H H' → TiesAt K H' v' ties → Q v' H'
section
variable {P : Program} {w : World} {K : PySem.W.Frag} {mg : Str → Option Value} {base : Heap} {C : Addr}
theorem k_is_row (D : Lies K mg "is_row" s_is_row) (T : Plain mg) (Z : ClassT K mg C) (G_is_fraction : Keeps P w K mg base 2 "is_fraction" ["value"] (spIsFr K)) : Keeps P w K mg base 3 "is_row" ["circuit", "value"] (spIsRow K C) := by
  refine D.keeps sc_is_row (fun _ _ _ _ _ _ us hl => match us, hl with | [_, _], _ => rfl) (fun vs H Q E h => ?_) (fun f cdv A outer s H vs Q E hr h => ?_)
  · obtain ⟨v, u, o, rs, rfl, _⟩ := h
    rfl
  · obtain ⟨v, u, o, rs, rfl, hc, ok, ⟨a, xs, rfl, hS, pr⟩, hl, k⟩ := h
    obtain ⟨c, dx, fs, ts, us, rfl, hc1, hc2, hq, hp⟩ := hc.prt
    have lx := pr.length
    have lp := hp.length
    have few := ok.p_few
    refine ⟨_, (pss_cons (ps_if (PW.pt (pw_or (pt_not (pt_val (pe_callB call_isi (by rfl) T.n_isinstance b_isinstance (pa_cons (pv 1) (pa_cons (pe_bltn (v := .ty "tuple") (by rfl) T.n_tuple b_tuple rfl) pa_nil))))) (pw_or1 (pt_cmpR op_ne (pe_callB call_len_seq (by rfl) T.n_len b_len (pa_cons (pv 1) pa_nil)) (pe_callB call_len_seq (by rfl) T.n_len b_len (pa_cons (pe_fld (pv 0) rfl) pa_nil)) (nomark _)))))
        (pss_one (ps_ret pe_bl))
        pss_nil)
      (pss_one (ps_ret (pe_callB (cr_all rfl) (by rfl) T.n_all b_all (pa_cons (pe_lc (own := [("number", 2)]) (g := gName 2) (tt := tYes) rfl sc_is_row.nd (pi_tup (pv 1)) (blkOk_by (N := N_is_row) (sc := defScope s_is_row) (by decide +kernel)) (fun _ _ _ _ _ => pg_name (i := 2) sc_is_row.nd rfl (Or.inl rfl)) (fun _ _ _ _ _ => pts_nil) (fun _ _ _ _ _ => by exact (pe_go G_is_fraction (hr.mono (by decide)) rfl (pa_cons (pv 2) pa_nil)))) pa_nil))))), ?_⟩
    refine ⟨_, rfl, _, _, _, _, true, rfl, .ty _, tyx_tup hS, kit_ty (by decide +kernel), true, rfl, pull_false rfl ⟨_, rfl, a, _, rfl, .inr hS, _, rfl, c, C, dx, fs, _, rfl, hc1, Z.cl, Z.nP, hc2, ts, _, rfl, .inr hq.sq, rfl, false, ?_, iteF ?_⟩⟩
    · rw [decide_eq_true (show V.int ((xs.length : Nat) : Int) = V.int ((us.length : Nat) : Int) by rw [lx, lp, hl])]
      rfl
    refine into_next ?_
    dsimp only
    refine into_ret (into_cb (into_args1 (comp_pureT (f := fun _ : Rat => true) (R := RatAt K H) (R' := fun _ v b => v = .bl b) (fun R r => ⟨_, rfl, r⟩) hS pr (by omega) (fun _ _ _ h => h) (fun _ _ _ _ h => h) (fun x r H0 W hr0 hm s0 hz => ?_) (fun H2 D acc hD s2 hL hp2 => ?_))))
    · obtain ⟨t, rfl, ht⟩ := hr0
      exact ⟨rfl, _, rfl, t, (r.num, (r.den : Int)), rfl, SqT.same s0 ht, by have := r.den_pos; show (0 : Int) < (r.den : Int); omega, by show Nat.gcd r.num.natAbs ((r.den : Int)).natAbs = 1; rw [Int.natAbs_natCast]; exact r.reduced, hz _ _ (Same.refl _) rfl⟩
    · have ea : acc = (rs.map fun _ => true).map V.bl := by
        clear hL
        generalize rs.map (fun _ => true) = bs at hp2
        induction hp2 with
        | nil => rfl
        | cons h _ ih => rw [h, ih]; rfl
      subst ea
      refine ⟨D, _, rfl, SqL.of hL, ?_⟩
      have all : (rs.map fun _ => true).all id = true := by
        rw [List.all_map]
        exact List.all_eq_true.mpr fun _ _ => rfl
      rw [all]
      exact k _ s2
theorem k_check_standing (D : Lies K mg "check_standing" s_check_standing) (T : Plain mg) (G_is_row : Keeps P w K mg base 3 "is_row" ["circuit", "value"] (spIsRow K C)) : Keeps P w K mg base 4 "check_standing" ["circuit", "value"] (spCheckRow K C) := by
  refine D.keeps sc_check_standing (fun _ _ _ _ _ _ us hl => match us, hl with | [_, _], _ => rfl) (fun vs H Q E h => ?_) (fun f cdv A outer s H vs Q E hr h => ?_)
  · obtain ⟨v, u, o, rs, rfl, _⟩ := h
    rfl
  · obtain ⟨v, u, o, rs, rfl, hc, ok, hu, hl, k⟩ := h
    refine ⟨_, (pss_one (ps_if (pt_not (pt_val (pe_go G_is_row (hr.mono (by decide)) rfl (pa_cons (pv 0) (pa_cons (pv 1) pa_nil)))))
        (pss_one (ps_never))
        pss_nil)), ?_⟩
    exact ⟨_, rfl, _, rfl, v, u, o, rs, rfl, hc, ok, hu, hl, fun H' s' => ⟨true, rfl, iteF (k H' s')⟩⟩
theorem k_check_row (D : Lies K mg "check_row" s_check_row) (T : Plain mg) (G_is_row : Keeps P w K mg base 3 "is_row" ["circuit", "value"] (spIsRow K C)) : Keeps P w K mg base 4 "check_row" ["circuit", "value"] (spCheckRow K C) := by
  refine D.keeps sc_check_row (fun _ _ _ _ _ _ us hl => match us, hl with | [_, _], _ => rfl) (fun vs H Q E h => ?_) (fun f cdv A outer s H vs Q E hr h => ?_)
  · obtain ⟨v, u, o, rs, rfl, _⟩ := h
    rfl
  · obtain ⟨v, u, o, rs, rfl, hc, ok, hu, hl, k⟩ := h
    refine ⟨_, (pss_one (ps_if (pt_not (pt_val (pe_go G_is_row (hr.mono (by decide)) rfl (pa_cons (pv 0) (pa_cons (pv 1) pa_nil)))))
        (pss_one (ps_never))
        pss_nil)), ?_⟩
    exact ⟨_, rfl, _, rfl, v, u, o, rs, rfl, hc, ok, hu, hl, fun H' s' => ⟨true, rfl, iteF (k H' s')⟩⟩
theorem k_check_joining (D : Lies K mg "check_joining" s_check_joining) (T : Plain mg) (Z : ClassT K mg C) (G_names_of : Keeps P w K mg base 1 "names_of" ["told"] (spNamesT K)) : Keeps P w K mg base 2 "check_joining" ["circuit", "value"] (spCheckJoi K C) := by
  refine D.keeps sc_check_joining (fun _ _ _ _ _ _ us hl => match us, hl with | [_, _], _ => rfl) (fun vs H Q E h => ?_) (fun f cdv A outer s0 H vs Q E hr h => ?_)
  · obtain ⟨v, o, x, rfl, _⟩ := h
    rfl
  · obtain ⟨v, o, x, rfl, hc, ok, hx, k⟩ := h
    obtain ⟨c, dx, fs, ts, us, rfl, hc1, hc2, hq, hp⟩ := hc.joi
    refine ⟨_, (pss_one (ps_if (pt_cmpR op_notIn_seq (pv 1) (pe_go G_names_of (hr.mono (by decide)) rfl (pa_cons (pe_fld (pv 0) rfl) pa_nil)) (by rfl))
        (pss_one (ps_never))
        pss_nil)), ?_⟩
    refine ⟨_, rfl, _, rfl, c, C, dx, fs, _, rfl, hc1, Z.cl, Z.nJ, hc2, ts, us, o.joinings.map (·.1), rfl, hq, heads hp fun v c h => ?_, by rw [List.length_map]; have := ok.j_few; omega, fun l H1 s1 _ hl => ?_⟩
    · obtain ⟨t, l, tv, e, h2, _⟩ := h
      exact ⟨t, _, e, h2⟩
    refine ⟨l, _, rfl, .inl (SqL.of hl), rfl, strs_flat _, false, congrArg V.bl ?_, iteF (k H1 s1)⟩
    rw [if_pos rfl, in_strs, decide_eq_true hx]
    rfl
end
end Ct

/-! Junctions and given potentials. -/
namespace Ct
open PySem PySem.Spec PyProof.Rows L2 TL RZ
abbrev Ties := List (Str × Str × Str)
section
variable {K : PySem.W.Frag} {H H' : Hp}
theorem TieAt.dict {D : Addr} {k k' : List (Key × V)} (hD : H D = some (.dK k)) {v : V} {e : Str × Str × Str} : TieAt K H v e → TieAt K (upd H D (.dK k')) v e := fun ⟨t, e, h⟩ => ⟨t, e, SqT.dict hD h⟩
theorem TiesAt.list {D : Addr} {acc acc' : List V} (hD : H D = some (.lst acc)) {v : V} {ties : Ties} : TiesAt K H v ties → TiesAt K (upd H D (.lst acc')) v ties := fun ⟨a, xs, e, h, p⟩ => ⟨a, xs, e, SqT.list hD h, p.mono fun _ _ h => h.list hD⟩
end
theorem only_one {β : Type} {x : Str} {t : β} : ∀ {l : List (Str × β)}, (l.map (·.1)).Nodup → (x, t) ∈ l → l.filter (fun j => decide (j.1 = x)) = [(x, t)]
  | [], _, h => nomatch h
  | j :: r, nd, h => by
    rw [List.map_cons, List.nodup_cons] at nd
    rcases List.mem_cons.mp h with e | h
    · subst e
      rw [List.filter_cons_of_pos (by simp)]
      congr 1
      refine List.filter_eq_nil_iff.mpr fun y hy => ?_
      simp only [decide_eq_true_eq]
      exact fun q => nd.1 (by show x ∈ _; rw [← q]; exact List.mem_map_of_mem (f := (·.1)) hy)
    · have ne : ¬ j.1 = x := fun q => nd.1 (by rw [q]; exact List.mem_map_of_mem (f := (·.1)) h)
      rw [List.filter_cons_of_neg (by simpa using ne)]
      exact only_one nd.2 h
def givenT (o : Own) : Tab := o.sources.foldl (fun m e => m.put e.1 (ratF e.2)) (Tab.no.put "gnd" 0)
def named (ties : Ties) : List Str := ties.flatMap fun t => [t.2.1, t.2.2]
structure FreeOf (o : Own) (ties : Ties) (fl : List Str) : Prop where
  mem : ∀ x, x ∈ fl ↔ x ∈ named ties ∧ givenT o x = none
  once : fl.Nodup
  rise : sortedS fl = true
abbrev s_given_potentials : Stmt := top 44
abbrev N_given_potentials : List Str := ["circuit", "given", "source", "voltage"]
theorem sc_given_potentials : FnScope N_given_potentials ["circuit"] (defScope s_given_potentials) := ⟨rfl, rfl, rfl, by decide +kernel, rfl, by decide +kernel, by decide +kernel⟩
abbrev s_free_junctions : Stmt := top 45
abbrev N_free_junctions : List Str := ["circuit", "ties", "given", "named", "tie", "junction"]
theorem sc_free_junctions : FnScope N_free_junctions ["circuit", "ties"] (defScope s_free_junctions) := ⟨rfl, rfl, rfl, by decide +kernel, rfl, by decide +kernel, by decide +kernel⟩
def spGiven (K : PySem.W.Frag) (C : Addr) : Sp := fun vs H Q _ => ∃ (v : V) (o : Own), vs = [v] ∧ CircN K C H v o ∧ OwnOk o ∧ ∀ d H', Same H H' → H d = none → DtAt K H' d 5 (givenT o) → Q (.ref d) H'
def spFree (K : PySem.W.Frag) (C : Addr) : Sp := fun vs H Q _ => ∃ (v u : V) (o : Own) (ties : Ties), vs = [v, u] ∧ CircN K C H v o ∧ OwnOk o ∧ TiesAt K H u ties ∧ ties.length ≤ 8 ∧
  ∀ l fl H', Same H H' → H l = none → H' l = some (.lst (fl.map V.str)) → FreeOf o ties fl → Q (.ref l) H'
section
variable {P : Program} {w : World} {K : PySem.W.Frag} {mg : Str → Option Value} {base : Heap} {C z : Addr}
theorem k_ties_of (D : Lies K mg "ties_of" s_ties_of) (T : Plain mg) (Z : ClassT K mg C) : Keeps P w K mg base 1 "ties_of" ["circuit", "joining"] (spTiesOf K C) := by
  refine D.keeps sc_ties_of (fun _ _ _ _ _ _ us hl => match us, hl with | [_, _], _ => rfl) (fun vs H Q E h => ?_) (fun f cdv A outer s0 H vs Q E hr h => ?_)
  · obtain ⟨v, o, x, ties, rfl, _⟩ := h
    rfl
  · obtain ⟨v, o, x, ties, rfl, hc, ok, hx, k⟩ := h
    obtain ⟨c, dx, fs, tj, ws, rfl, hc1, hc2, hq, hp⟩ := hc.joi
    have lw := hp.length
    have few := ok.j_few
    refine ⟨_, (pss_one (ps_ret (pe_ix ix_list (pe_lc (own := [("name", 2), ("ties", 3)]) (g := gTup K 2 (gCons (gName 2) (gCons (gName 3) gNil))) (tt := _) rfl sc_ties_of.nd (pi_tup (pe_fld (pv 0) rfl)) (blkOk_by (N := N_ties_of) (sc := defScope s_ties_of) (by decide +kernel)) (fun _ _ _ _ _ => pg_tup rfl (pgs_cons (pg_name (i := 2) sc_ties_of.nd rfl (Or.inl rfl)) (pgs_cons (pg_name (i := 3) sc_ties_of.nd rfl (Or.inl rfl)) pgs_nil))) (fun _ _ _ _ _ => pts_one (pt_cmpR op_eq (pv 2) (pv 1) (nomark _))) (fun _ _ _ _ _ => by exact (pv 3))) pe_int (fun _ _ => rfl)))), ?_⟩
    refine into_ret (into_op ?_)
    refine ⟨_, rfl, c, C, dx, fs, _, rfl, hc1, Z.cl, Z.nJ, hc2, tj, rfl, ⟨_, hq⟩, fun D nD => lc_tup (xs := ws) (fun i H' => ∃ acc, H' D = some (.lst acc) ∧ Paired (TiesAt K H') acc (((o.joinings.take i).filter fun j => decide (j.1 = x)).map (·.2)) ∧ Same H H') ⟨[], upd_same, .nil, same_upd nD⟩
      (fun i H' _ ⟨_, _, _, s'⟩ => SqT.same s' hq) ?_ ?_⟩
    · rintro i y H' hy ⟨acc, hD, ha, s'⟩
      obtain ⟨e, he, t, l, tv, rfl, ht, hl, ties'⟩ := Paired.at hp hy
      refine ⟨t, _, rfl, SqT.same s' ht, rfl, _, _, rfl, _, _, rfl, ⟨rfl, rfl, ?_⟩⟩
      refine ⟨_, rfl, _, rfl, rfl, _, rfl, ?_⟩
      by_cases q : e.1 = x
      · refine if_true_of' (decide_eq_true (by rw [q])) ⟨_, rfl, acc, hD, ?_, acc ++ [.ref l], upd_same, ?_, ?_⟩
        · have l1 := ha.length
          have l2 : ((o.joinings.take i).filter fun j => decide (j.1 = x)).length ≤ (o.joinings.take i).length := List.length_filter_le _ _
          have l3 := List.length_take_le' i o.joinings
          rw [List.length_map] at l1
          show acc.length < 16777216
          omega
        · rw [take_next he, List.filter_append, List.map_append, List.filter_cons_of_pos (by simpa using q)]
          refine (ha.mono fun _ _ h => h.list hD).snoc ?_
          exact ⟨l, tv, rfl, SqT.list hD (SqT.same s' hl), ties'.mono fun _ _ h => (h.same s').list hD⟩
        · exact fun b u hb => by
            rw [upd_ne (ne_of_none hb nD)]
            exact s' _ _ hb
      · refine no_if (decide_eq_false fun h => q (V.str.inj h)) ⟨acc, hD, ?_, s'⟩
        rw [take_next he, List.filter_append, List.filter_cons_of_neg (by simpa using q)]
        simpa using ha
    · rintro H' ⟨acc, hD, ha, s'⟩
      rw [lw, List.take_length, only_one ok.j_once hx] at ha
      cases ha with
      | cons h t =>
        cases t
        exact ⟨D, _, _, _, rfl, rfl, SqL.of hD, atI_nat (j := 0) rfl, k _ _ s' h⟩
theorem k_given_potentials (D : Lies K mg "given_potentials" s_given_potentials) (T : Plain mg) (Z : ClassT K mg C) (O : ZeroT K mg z) : Keeps P w K mg base 1 "given_potentials" ["circuit"] (spGiven K C) := by
  refine D.keeps sc_given_potentials (fun _ _ _ _ _ _ us hl => match us, hl with | [_], _ => rfl) (fun vs H Q E h => ?_) (fun f cdv A outer s0 H vs Q E hr h => ?_)
  · obtain ⟨v, o, rfl, _⟩ := h
    rfl
  · obtain ⟨v, o, rfl, hc, ok, k⟩ := h
    obtain ⟨c, dx, fs, ts, us, rfl, hc1, hc2, hq, hp⟩ := hc.src
    have lu := hp.length
    have few := ok.s_few
    refine ⟨_, (pss_cons (ps_set (i := 1) sc_given_potentials.nd rfl (Or.inl rfl) (pe_disp (pps_cons (pe_cs T.c_GROUND rfl) (pe_glob (v := .ref z) rfl O.mgZ rfl) pps_nil) (by rfl) (by rfl) (fun z => by cases z) (by decide)))
      (pss_cons (ps_for PassesOwn.never rfl (pi_tup (pe_fld (pv 0) rfl)) (pg_tup rfl (pgs_cons (pg_name (i := 2) sc_given_potentials.nd rfl (Or.inl rfl)) (pgs_cons (pg_name (i := 3) sc_given_potentials.nd rfl (Or.inl rfl)) pgs_nil)))
        (pss_one (ps_dput (hu_of hr) (pv 1) (pv 2) (pv 3) rfl)))
      (pss_one (ps_ret (pv 1))))), ?_⟩
    refine fun p np => ⟨upd_same, [(.inr "gnd", .ref z)], rfl, by show 1 ≤ 15; decide, ?_⟩
    rw [upd_upd]
    have s1 := same_upd (o := .dK (mergeK [] [(Sum.inr ("gnd" : Str), V.ref z)])) np
    have h1 : DtAt K (upd H p (.dK (mergeK [] [(Sum.inr ("gnd" : Str), V.ref z)]))) p 1 (Tab.no.put "gnd" 0) := ⟨_, upd_same, by show 1 ≤ 1; decide, Holds.put Holds.nil (O.at _)⟩
    generalize upd H p (.dK (mergeK [] [(Sum.inr ("gnd" : Str), V.ref z)])) = H1 at *
    refine ⟨_, rfl, c, C, dx, fs, _, rfl, s1 _ _ hc1, Z.cl, Z.nS, hc2, ts, rfl, ⟨_, SqT.same s1 hq⟩, for_tup (xs := us) (fun i σ' H' => ∃ v2 v3 : Option V, σ' = [some (.ref c), some (.ref p), v2, v3] ∧ Same H H' ∧ DtAt K H' p (1 + i) ((o.sources.take i).foldl (fun m e => m.put e.1 (ratF e.2)) (Tab.no.put "gnd" 0)))
      ⟨_, _, rfl, s1, h1⟩ (fun i σ' H' _ ⟨_, _, _, s', _⟩ => SqT.same s' hq) ?_ ?_⟩
    · rintro i x σ' H' hx ⟨v2, v3, rfl, s', hd⟩
      obtain ⟨e, he, t, u, rfl, ht, hu⟩ := Paired.at hp hx
      have ie : i < us.length := (List.getElem?_eq_some_iff.mp hx).1
      have hu' : RatAt K H' u (ratF e.2) := (hu.rat (ok.src e (List.mem_of_getElem? he)).2).same s'
      refine ⟨t, _, rfl, SqT.same s' ht, rfl, _, _, rfl, _, _, rfl, ⟨rfl, ?_⟩⟩
      obtain ⟨H2, put, hd2, same, _⟩ := hd.put (x := e.1) (by omega) hu'
      refine ⟨_, rfl, _, rfl, _, rfl, p, H2, rfl, put, _, _, rfl, same _ s' np, ?_⟩
      rw [take_next he, List.foldl_append]
      exact hd2
    · rintro σ' H' ⟨v2, v3, rfl, s', hd⟩
      rw [lu, List.take_length] at hd
      exact ⟨_, rfl, k _ _ s' np (hd.more (by omega))⟩
end
end Ct

/-! Free junctions: a comprehension of two clauses, a set of texts, sorted. -/
namespace Ct
open PySem PySem.Spec PyProof.Rows L2 TL RZ
section
variable {X : Cx} {K : PySem.W.Frag}
theorem sl_tupK (hK : X.K = K) : SlR X (rSlT K) := by
  subst hK
  exact sl_tup
theorem pi_tupK {tg l : Expr} {tl : TE} (hK : X.K = K) (hl : PE X l tl) : PI X tg l (iTup K tl) := by
  subst hK
  exact pi_tup hl
theorem pi_listK {tg l : Expr} {tl : TE} (hK : X.K = K) (hl : PE X l tl) : PI X tg l (iList K tl) := by
  subst hK
  exact pi_list hl
theorem op_in_seqK (hK : X.K = K) : OpR X (compareOp .In) (rIn K false) := by
  subst hK
  exact op_in_seq
theorem op_notIn_seqK (hK : X.K = K) : OpR X (compareOp .NotIn) (rIn K true) := by
  subst hK
  exact op_notIn_seq
theorem look_relabel {env : Env} {x : Str} : ∀ {names : List (Str × NameKind)}, names.lookup x = some .cell ∨ names.lookup x = some .free →
    (names.map fun (n, k) => if (k == .free && env.scope.kind == .function && env.kindOf n == some .cell) then (n, NameKind.cell) else (n, k)).lookup x = some .cell ∨ (names.map fun (n, k) => if (k == .free && env.scope.kind == .function && env.kindOf n == some .cell) then (n, NameKind.cell) else (n, k)).lookup x = some .free
  | [], h => by simp at h
  | (n, k) :: r, h => by
    rw [List.map_cons]
    by_cases e : x = n
    · subst e
      rw [List.lookup_cons_self] at h
      dsimp only
      split
      · rw [List.lookup_cons_self]
        exact .inl rfl
      · rw [List.lookup_cons_self]
        exact h
    · have ne : (x == n) = false := beq_eq_false_iff_ne.mpr e
      rw [List.lookup_cons, ne] at h
      dsimp only
      split
      · rw [List.lookup_cons, ne]
        exact look_relabel h
      · rw [List.lookup_cons, ne]
        exact look_relabel h
/-- a comprehension's block within another one's -/
theorem blkOk_in {N : List Str} {scO scope : Scope} {env : Env} {own : List (Str × Nat)} (h : BlkOk N scO scope own) : BlkOk N (relabel scO env) scope own :=
  ⟨h.kind, h.uniq, h.ix, fun y hy e => look_relabel (h.free y hy e), h.own⟩
end
section
variable {K : PySem.W.Frag} {J : It} {n : Nat} {G : Hp → Prop} {Y : Nat → Hp → V → Hp → Prop}
theorem yes_of {σ : L2.St} {H : Hp} {A B : Hp → Prop} (h : A H) : tYes σ H fun b H3 => if b = true then A H3 else B H3 := by
  show if true = true then A H else B H
  exact (if_pos rfl).mpr h
/-- the outer clause of two, over any walk; each turn begins the inner one -/
theorem lc2_it (wk : Walk J n G Y) {g : TG} {wi1 : TI} {g1 : TG} {tt1 : TT} {te : TE} {vs vs1 : List Nat} {σ : L2.St} {H1 : Hp} {D : Addr} {Qd : Hp → Prop} (Pv : Nat → Hp → Prop) (h0 : Pv 0 (upd H1 D (.lst []))) (hG : ∀ i H, i ≤ n → Pv i H → G H)
    (hs : ∀ i x H H', i < n → Pv i H → Y i H x H' → g x (wipe σ vs) H' fun σ2 H2 => wipe σ2 vs = wipe σ vs ∧ tYes σ2 H2 fun b H3 =>
      if b = true then wi1 σ2 H3 fun J1 H4 => ∃ W1 : Nat → Nat → Hp → Prop, (∃ m, W1 0 m H4) ∧ ∀ j k H, W1 j k H →
        (J1.stop j H ∧ Pv (i + 1) H) ∨ (J1.go j H ∧ ∃ Nx1 : Hp → Prop, (∀ H', Nx1 H' → ∃ k', k' < k ∧ W1 (j + 1) k' H') ∧ ∀ x H', J1.yld j H x H' → g1 x (wipe σ2 vs1) H' fun σ3 H5 => wipe σ3 vs1 = wipe σ2 vs1 ∧ tt1 σ3 H5 fun b H6 =>
          if b = true then te σ3 H6 fun y H7 => ∃ acc, H7 D = some (.lst acc) ∧ acc.length < sizeLine ∧ Nx1 (upd H7 D (.lst (acc ++ [y]))) else Nx1 H6) else Pv (i + 1) H3) (hd : ∀ H, Pv n H → Qd H) :
    ∃ W : Nat → Nat → Hp → Prop, (∃ m, W 0 m (upd H1 D (.lst []))) ∧ ∀ i m H, W i m H →
      (J.stop i H ∧ Qd H) ∨ (J.go i H ∧ ∃ Nx : Hp → Prop, (∀ H', Nx H' → ∃ m', m' < m ∧ W (i + 1) m' H') ∧ ∀ x H', J.yld i H x H' → g x (wipe σ vs) H' fun σ2 H2 => wipe σ2 vs = wipe σ vs ∧ tYes σ2 H2 fun b H3 =>
        if b = true then wi1 σ2 H3 fun J1 H4 => ∃ W1 : Nat → Nat → Hp → Prop, (∃ m, W1 0 m H4) ∧ ∀ j k H, W1 j k H →
          (J1.stop j H ∧ Nx H) ∨ (J1.go j H ∧ ∃ Nx1 : Hp → Prop, (∀ H', Nx1 H' → ∃ k', k' < k ∧ W1 (j + 1) k' H') ∧ ∀ x H', J1.yld j H x H' → g1 x (wipe σ2 vs1) H' fun σ3 H5 => wipe σ3 vs1 = wipe σ2 vs1 ∧ tt1 σ3 H5 fun b H6 =>
            if b = true then te σ3 H6 fun y H7 => ∃ acc, H7 D = some (.lst acc) ∧ acc.length < sizeLine ∧ Nx1 (upd H7 D (.lst (acc ++ [y]))) else Nx1 H6) else Nx H3) := by
  refine ⟨fun i m H => m = n - i ∧ i ≤ n ∧ Pv i H, ⟨n, rfl, Nat.zero_le _, h0⟩, fun i m H hw => ?_⟩
  obtain ⟨em, hi, p⟩ := hw
  have q := hG i H hi p
  rcases Nat.lt_or_eq_of_le hi with lt | eq
  · refine .inr ⟨wk.goes i H lt q, Pv (i + 1), fun H' p' => ⟨n - (i + 1), by omega, rfl, lt, p'⟩, fun x H' y => hs i x H H' lt p (wk.yields i H x H' lt q y)⟩
  · subst eq
    exact .inl ⟨wk.stops H q, hd H p⟩
/-- the inner clause -/
theorem lc_in (wk : Walk J n G Y) {g1 : TG} {tt1 : TT} {te : TE} {vs1 : List Nat} {σ2 : L2.St} {H4 : Hp} {D : Addr} {Nx : Hp → Prop} (Pv : Nat → Hp → Prop) (h0 : Pv 0 H4) (hG : ∀ i H, i ≤ n → Pv i H → G H)
    (hs : ∀ j x H H', j < n → Pv j H → Y j H x H' → g1 x (wipe σ2 vs1) H' fun σ3 H5 => wipe σ3 vs1 = wipe σ2 vs1 ∧ tt1 σ3 H5 fun b H6 =>
      if b = true then te σ3 H6 fun y H7 => ∃ acc, H7 D = some (.lst acc) ∧ acc.length < sizeLine ∧ Pv (j + 1) (upd H7 D (.lst (acc ++ [y]))) else Pv (j + 1) H6) (hd : ∀ H, Pv n H → Nx H) :
    ∃ W1 : Nat → Nat → Hp → Prop, (∃ m, W1 0 m H4) ∧ ∀ j k H, W1 j k H →
      (J.stop j H ∧ Nx H) ∨ (J.go j H ∧ ∃ Nx1 : Hp → Prop, (∀ H', Nx1 H' → ∃ k', k' < k ∧ W1 (j + 1) k' H') ∧ ∀ x H', J.yld j H x H' → g1 x (wipe σ2 vs1) H' fun σ3 H5 => wipe σ3 vs1 = wipe σ2 vs1 ∧ tt1 σ3 H5 fun b H6 =>
        if b = true then te σ3 H6 fun y H7 => ∃ acc, H7 D = some (.lst acc) ∧ acc.length < sizeLine ∧ Nx1 (upd H7 D (.lst (acc ++ [y]))) else Nx1 H6) := by
  refine ⟨fun i m H => m = n - i ∧ i ≤ n ∧ Pv i H, ⟨n, rfl, Nat.zero_le _, h0⟩, fun i m H hw => ?_⟩
  obtain ⟨em, hi, p⟩ := hw
  have q := hG i H hi p
  rcases Nat.lt_or_eq_of_le hi with lt | eq
  · refine .inr ⟨wk.goes i H lt q, Pv (i + 1), fun H' p' => ⟨n - (i + 1), by omega, rfl, lt, p'⟩, fun x H' y => hs i x H H' lt p (wk.yields i H x H' lt q y)⟩
  · subst eq
    exact .inl ⟨wk.stops H q, hd H p⟩
/-- a set of texts over any walk -/
theorem sc_it (wk : Walk J n G Y) {P : Program} {w : World} {g : TG} {tt : TT} {te : TE} {vs : List Nat} {σ : L2.St} {H1 : Hp} {D : Addr} {Qd : Hp → Prop} (Pv : Nat → Hp → Prop) (h0 : Pv 0 (upd H1 D (TxO P w D []))) (hG : ∀ i H, i ≤ n → Pv i H → G H)
    (hs : ∀ i x H H', i < n → Pv i H → Y i H x H' → g x (wipe σ vs) H' fun σ2 H2 => wipe σ2 vs = wipe σ vs ∧ tt σ2 H2 fun b H3 =>
      if b = true then te σ2 H3 fun y H4 => ∃ (c : Str) (l : List Str), y = .str c ∧ H4 D = some (TxO P w D l) ∧ l.length + 1 < scanBound ∧ Pv (i + 1) (upd H4 D (TxO P w D (addS c l))) else Pv (i + 1) H3) (hd : ∀ H, Pv n H → Qd H) :
    ∃ W : Nat → Nat → Hp → Prop, (∃ m, W 0 m (upd H1 D (TxO P w D []))) ∧ ∀ i m H, W i m H →
      (J.stop i H ∧ Qd H) ∨ (J.go i H ∧ ∃ Nx : Hp → Prop, (∀ H', Nx H' → ∃ m', m' < m ∧ W (i + 1) m' H') ∧ ∀ x H', J.yld i H x H' → g x (wipe σ vs) H' fun σ2 H2 => wipe σ2 vs = wipe σ vs ∧ tt σ2 H2 fun b H3 =>
        if b = true then te σ2 H3 fun y H4 => ∃ (c : Str) (l : List Str), y = .str c ∧ H4 D = some (TxO P w D l) ∧ l.length + 1 < scanBound ∧ Nx (upd H4 D (TxO P w D (addS c l))) else Nx H3) := by
  refine ⟨fun i m H => m = n - i ∧ i ≤ n ∧ Pv i H, ⟨n, rfl, Nat.zero_le _, h0⟩, fun i m H hw => ?_⟩
  obtain ⟨em, hi, p⟩ := hw
  have q := hG i H hi p
  rcases Nat.lt_or_eq_of_le hi with lt | eq
  · refine .inr ⟨wk.goes i H lt q, Pv (i + 1), fun H' p' => ⟨n - (i + 1), by omega, rfl, lt, p'⟩, fun x H' y => hs i x H H' lt p (wk.yields i H x H' lt q y)⟩
  · subst eq
    exact .inl ⟨wk.stops H q, hd H p⟩
end
theorem named_len (ties : Ties) : (named ties).length = 2 * ties.length := by
  induction ties with
  | nil => rfl
  | cons t r ih =>
    show (([t.2.1, t.2.2] : List Str) ++ named r).length = _
    simp only [List.length_append, ih, List.length_cons, List.length_nil]
    omega
theorem named_snoc (l : Ties) (t : Str × Str × Str) : named (l ++ [t]) = named l ++ [t.2.1, t.2.2] := by
  unfold named
  rw [List.flatMap_append]
  rfl
section
variable {P : Program} {w : World} {K : PySem.W.Frag} {mg : Str → Option Value} {base : Heap} {C z : Addr}
theorem k_free_junctions (D : Lies K mg "free_junctions" s_free_junctions) (T : Plain mg) (T2 : Plain2 mg) (G_given_potentials : Keeps P w K mg base 1 "given_potentials" ["circuit"] (spGiven K C)) : Keeps P w K mg base 2 "free_junctions" ["circuit", "ties"] (spFree K C) := by
  refine D.keeps sc_free_junctions (fun _ _ _ _ _ _ us hl => match us, hl with | [_, _], _ => rfl) (fun vs H Q E h => ?_) (fun f cdv A outer s0 H vs Q E hr h => ?_)
  · obtain ⟨v, u, o, ties, rfl, _⟩ := h
    rfl
  · obtain ⟨v, u, o, ties, rfl, hc, ok, ⟨a, xs, rfl, hq, pr⟩, few, k⟩ := h
    have lx := pr.length
    refine ⟨_, (pss_cons (ps_set (i := 2) sc_free_junctions.nd rfl (Or.inr rfl) (pe_go G_given_potentials (hr.mono (by decide)) rfl (pa_cons (pv 0) pa_nil)))
      (pss_cons (ps_setLc2 (i := 3) (own := [("tie", 4), ("junction", 5)]) (vs1 := [5]) (g := gName 4) (g1 := gName 5) (tt := tYes) (tt1 := tYes) rfl sc_free_junctions.nd rfl rfl (sw_true rfl rfl rfl (by decide +kernel)) (pi_tup (pv 1)) (blkOk_by (N := N_free_junctions) (sc := defScope s_free_junctions) (by decide +kernel)) (by decide) (fun _ _ _ _ _ => pg_name (i := 4) sc_free_junctions.nd rfl (Or.inl rfl)) (fun _ _ _ _ _ => pts_nil) (fun _ _ _ _ _ => by exact (pi_tupK (K := K) rfl (pe_slice (sl_tupK (K := K) rfl) (pv 4) (po_some pe_int) po_none))) (fun _ _ _ _ _ => pg_name (i := 5) sc_free_junctions.nd rfl (Or.inl rfl)) (fun _ _ _ _ _ => pts_nil) (fun _ _ _ _ _ => by exact (pv 5)))
      (pss_one (ps_ret (pe_callB (cr_sortedTx rfl) (by rfl) T2.n_sorted b_sorted (pa_cons (pe_scT (own := [("junction", 5)]) (g := gName 5) (tt := _) rfl sc_free_junctions.nd (pi_list (pv 3)) (blkOk_by (N := N_free_junctions) (sc := defScope s_free_junctions) (by decide +kernel)) (fun _ _ _ _ _ => pg_name (i := 5) sc_free_junctions.nd rfl (Or.inl rfl)) (fun _ _ _ _ _ => pts_one (pt_cmp (pc_dnotin (hu_of hr) (pv 5) (pv 2)))) (fun _ _ _ _ _ => by exact (pv 5))) pa_nil)))))), ?_⟩
    refine ⟨_, rfl, v, o, rfl, hc, ok, fun d H1 s1 nd hd => ?_⟩
    refine into_name ?_
    dsimp only
    -- all that the ties name
    refine into_set ⟨_, rfl, a, rfl, ⟨_, SqT.same s1 hq⟩, fun D1 nD1 => lc2_it (walk_tup (xs := xs)) (fun i H' => H' D1 = some (.lst ((named (ties.take i)).map V.str)) ∧ Same H1 H') ⟨upd_same, same_upd nD1⟩ (fun i H' _ ⟨_, s'⟩ => SqT.same (s1.trans s') hq) ?_ ?_⟩
    · rintro i x H' H'' hi ⟨hD, s'⟩ ⟨rfl, hx⟩
      obtain ⟨t, et, tt, rfl, ht⟩ := Paired.at pr hx
      refine into_name ⟨rfl, yes_of ?_⟩
      refine ⟨_, rfl, ⟨1, rfl, tt, _, rfl, SqT.same (s1.trans s') ht, fun z => ?_, fun q nq => ?_⟩⟩
      · exact absurd z.1 (by show ¬ HT.sIx 3 0 (some 1) = 0; decide)
      have s2 := same_upd (o := .tup (cutV [V.str t.1, V.str t.2.1, V.str t.2.2] (some 1) none)) nq
      have cut : cutV [V.str t.1, V.str t.2.1, V.str t.2.2] (some 1) none = [V.str t.2.1, V.str t.2.2] := rfl
      rw [cut] at s2 ⊢
      have hD2 := s2 _ _ hD
      have hq2 : SqT K (upd H'' q (.tup [V.str t.2.1, V.str t.2.2])) q [V.str t.2.1, V.str t.2.2] := SqT.of upd_same
      have s12 := s'.trans s2
      generalize upd H'' q (.tup [V.str t.2.1, V.str t.2.2]) = H2 at *
      have nq1 : H1 q = none := s'.free nq
      refine ⟨q, rfl, ⟨_, hq2⟩, ?_⟩
      dsimp only
      refine lc_in (walk_tup (xs := [V.str t.2.1, V.str t.2.2])) (fun j H3 => H3 D1 = some (.lst ((named (ties.take i) ++ [t.2.1, t.2.2].take j).map V.str)) ∧ Same H1 H3 ∧ SqT K H3 q [V.str t.2.1, V.str t.2.2]) ⟨by rw [List.take_zero, List.append_nil]; exact hD2, s12, hq2⟩ (fun j H3 _ ⟨_, _, h⟩ => h) ?_ ?_
      · rintro j y H3 H4 hj ⟨hD3, s3, hq3⟩ ⟨rfl, hy⟩
        have hy2 : ∃ b, [t.2.1, t.2.2][j]? = some b ∧ y = V.str b := by
          have e : ([t.2.1, t.2.2].map V.str)[j]? = some y := hy
          rw [List.getElem?_map] at e
          cases q9 : [t.2.1, t.2.2][j]? with
          | none => rw [q9] at e; cases e
          | some b => rw [q9] at e; exact ⟨b, rfl, (Option.some.inj e).symm⟩
        obtain ⟨b, eb, rfl⟩ := hy2
        have ln := named_len (ties.take i)
        have li := List.length_take_le' i ties
        refine into_name ⟨rfl, yes_of ?_⟩
        refine ⟨_, rfl, _, hD3, ?_, ?_, ?_, SqT.list hD3 hq3⟩
        · rw [List.length_map, List.length_append]
          have := List.length_take_le' j [t.2.1, t.2.2]
          have l2 : [t.2.1, t.2.2].length = 2 := rfl
          show _ < 16777216
          omega
        · rw [upd_same, take_next eb, ← List.append_assoc]
          simp only [List.map_append, List.map_cons, List.map_nil]
        · exact fun b o hb => by
            rw [upd_ne (ne_of_none hb nD1)]
            exact s3 _ _ hb
      · rintro H3 ⟨hD3, s3, _⟩
        refine ⟨?_, s3⟩
        rw [take_next et, named_snoc]
        exact hD3
    · rintro H2 ⟨hD, s2⟩
      rw [lx, List.take_length] at hD
      refine into_name ?_
      refine into_ret (into_cb (into_args1 ?_))
      have ln := named_len ties
      have g2 := s1.trans s2
      have hd2 := hd.same s2
      refine ⟨_, rfl, D1, rfl, ⟨_, SqL.of hD⟩, fun S nS => sc_it (walk_list (xs := (named ties).map V.str)) (fun i H' => ∃ l, H' S = some (TxO P w S l) ∧ l.length ≤ i ∧ Same H2 H' ∧ ∀ x, x ∈ l ↔ x ∈ (named ties).take i ∧ givenT o x = none) ⟨[], upd_same, Nat.le_refl _, same_upd nS, fun x => by simp⟩ (fun i H' _ ⟨_, _, _, s', _⟩ => SqL.of (s' _ _ hD)) ?_ ?_⟩
      · rintro i x H' H'' hi ⟨l, hS, ll, s', hm⟩ ⟨rfl, hx⟩
        obtain ⟨b, eb, rfl⟩ : ∃ b, (named ties)[i]? = some b ∧ x = V.str b := by
          rw [List.getElem?_map] at hx
          cases q9 : (named ties)[i]? with
          | none => rw [q9] at hx; cases hx
          | some b => rw [q9] at hx; exact ⟨b, rfl, (Option.some.inj hx).symm⟩
        rw [List.length_map] at hi
        obtain ⟨ov, get, told⟩ := (hd2.same s').ask b
        refine into_name ⟨rfl, _, rfl, _, rfl, d, ov, rfl, get, _, rfl, ?_⟩
        cases hg : givenT o b with
        | none =>
          rw [hg] at told
          obtain rfl : ov = none := told
          refine if_true_of' rfl ⟨_, rfl, b, l, rfl, hS, ?_, ⟨addS b l, upd_same, Nat.le_trans (addS_len _ _) (by omega), fun c o2 hb => ?_, fun y => ?_⟩⟩
          · have : l.length + 1 ≤ 17 := by omega
            exact Nat.lt_of_le_of_lt this (by decide)
          · rw [upd_ne (ne_of_none hb nS)]
            exact s' _ _ hb
          · rw [addS_mem, hm, take_next eb, List.mem_append, List.mem_singleton]
            constructor
            · rintro (rfl | ⟨h1, h2⟩)
              · exact ⟨.inr rfl, hg⟩
              · exact ⟨.inl h1, h2⟩
            · rintro ⟨h1 | rfl, h2⟩
              · exact .inr ⟨h1, h2⟩
              · exact .inl rfl
        | some r =>
          rw [hg] at told
          obtain ⟨u, rfl, _⟩ := told
          refine no_if rfl ⟨l, hS, Nat.le_succ_of_le ll, s', fun y => ?_⟩
          rw [hm, take_next eb, List.mem_append, List.mem_singleton]
          constructor
          · rintro ⟨h1, h2⟩
            exact ⟨.inl h1, h2⟩
          · rintro ⟨h1 | rfl, h2⟩
            · exact ⟨h1, h2⟩
            · rw [hg] at h2
              cases h2
      · rintro H' ⟨l, hS, ll, s', hm⟩
        rw [List.length_map] at ll hm
        rw [List.take_length] at hm
        refine ⟨S, l, rfl, hS, by omega, fun ys p pm once rise np => ?_⟩
        have s3 := same_upd (o := .lst (ys.map V.str)) np
        have g3 := g2.trans (s'.trans s3)
        exact k _ ys _ g3 ((g2.trans s').free np) upd_same ⟨fun x => (pm.mem_iff).trans (hm x), pm.nodup_iff.mpr once, rise⟩
end
end Ct

/-! Voltages that potentials give. -/
namespace Ct
open PySem PySem.Spec PyProof.Rows L2 TL RZ
def tiedT (ties : Ties) (m : Tab) : Tab := ties.foldl (fun t e => t.put e.1 (m.at e.2.1 - m.at e.2.2)) Tab.no
/-- both ends of each tie have potentials -/
def EndsIn (m : Tab) (ties : Ties) : Prop := ∀ t ∈ ties, (∃ r, m t.2.1 = some r ∧ FitR 4400 r) ∧ ∃ r, m t.2.2 = some r ∧ FitR 4400 r
theorem at_of {m : Tab} {x : Str} {r : Rat} (h : m x = some r) : m.at x = r := by
  unfold Tab.at
  rw [h]
  rfl
def standL (o : Own) (ties : Ties) (m : Tab) (st : List Rat) : List Rat := List.zipWith (fun (p : Str × Int × Int) a => ((tiedT ties m) p.1).getD a) o.parts st
def zeroT (o : Own) (fl : List Str) : Tab := fl.foldl (fun m x => m.put x 0) (givenT o)
abbrev s_tied_voltages : Stmt := top 46
abbrev N_tied_voltages : List Str := ["ties", "potential", "part", "plus", "less"]
theorem sc_tied_voltages : FnScope N_tied_voltages ["ties", "potential"] (defScope s_tied_voltages) := ⟨rfl, rfl, rfl, by decide +kernel, rfl, by decide +kernel, by decide +kernel⟩
abbrev s_standing_at : Stmt := top 47
abbrev N_standing_at : List Str := ["circuit", "ties", "potential", "standing", "voltage", "name", "_", "ahead"]
theorem sc_standing_at : FnScope N_standing_at ["circuit", "ties", "potential", "standing"] (defScope s_standing_at) := ⟨rfl, rfl, rfl, by decide +kernel, rfl, by decide +kernel, by decide +kernel⟩
abbrev s_given_voltages : Stmt := top 50
abbrev N_given_voltages : List Str := ["circuit", "ties", "free", "potential", "junction"]
theorem sc_given_voltages : FnScope N_given_voltages ["circuit", "ties", "free"] (defScope s_given_voltages) := ⟨rfl, rfl, rfl, by decide +kernel, rfl, by decide +kernel, by decide +kernel⟩
def spTied (K : PySem.W.Frag) : Sp := fun vs H Q _ => ∃ (u : V) (d : Addr) (n : Nat) (ties : Ties) (m : Tab), vs = [u, .ref d] ∧ TiesAt K H u ties ∧ ties.length ≤ 8 ∧ DtAt K H d n m ∧ EndsIn m ties ∧ ∀ e H', Same H H' → H e = none → DtAt K H' e 8 (tiedT ties m) → Q (.ref e) H'
def spStand (K : PySem.W.Frag) (C : Addr) : Sp := fun vs H Q _ => ∃ (v u y : V) (d : Addr) (n : Nat) (o : Own) (ties : Ties) (m : Tab) (st : List Rat), vs = [v, u, .ref d, y] ∧ CircN K C H v o ∧ OwnOk o ∧ TiesAt K H u ties ∧ ties.length ≤ 8 ∧ DtAt K H d n m ∧ EndsIn m ties ∧ RatsAt K H y st ∧ st.length = o.parts.length ∧
  ∀ v' H', Same H H' → RatsAt K H' v' (standL o ties m st) → Q v' H'
def spGivenV (K : PySem.W.Frag) (C : Addr) : Sp := fun vs H Q _ => ∃ (v u : V) (l : Addr) (o : Own) (ties : Ties) (fl : List Str), vs = [v, u, .ref l] ∧ CircN K C H v o ∧ OwnOk o ∧ TiesAt K H u ties ∧ ties.length ≤ 8 ∧ SqL K H l (fl.map V.str) ∧ fl.length ≤ 16 ∧ EndsIn (zeroT o fl) ties ∧
  ∀ e H', Same H H' → H e = none → DtAt K H' e 8 (tiedT ties (zeroT o fl)) → Q (.ref e) H'
theorem RatsAt.dict {K : PySem.W.Frag} {H : Hp} {D : Addr} {k k' : List (Key × V)} (hD : H D = some (.dK k)) {v : V} {rs : List Rat} : RatsAt K H v rs → RatsAt K (upd H D (.dK k')) v rs := fun ⟨a, xs, e, h, p⟩ => ⟨a, xs, e, SqT.dict hD h, p.mono fun _ _ h => h.dict hD⟩
theorem DtAt.dict {K : PySem.W.Frag} {H : Hp} {D d : Addr} {n : Nat} {m : Tab} {k k' : List (Key × V)} (hD : H D = some (.dK k)) (ne : d ≠ D) : DtAt K H d n m → DtAt K (upd H D (.dK k')) d n m := fun ⟨kvs, h, l, q⟩ => ⟨kvs, (upd_ne ne).trans h, l, q.dict hD⟩
theorem DtAt.list {K : PySem.W.Frag} {H : Hp} {D d : Addr} {n : Nat} {m : Tab} {acc acc' : List V} (hD : H D = some (.lst acc)) : DtAt K H d n m → DtAt K (upd H D (.lst acc')) d n m := fun ⟨kvs, h, l, q⟩ =>
  ⟨kvs, (upd_ne (ne_of h hD (by intro z; cases z))).trans h, l, fun x => (q x).imp fun _ _ r => r.list hD⟩
section
variable {P : Program} {w : World} {K : PySem.W.Frag} {mg : Str → Option Value} {base : Heap} {C z : Addr}
theorem k_tied_voltages (D : Lies K mg "tied_voltages" s_tied_voltages) (T : Plain mg) (G_minus : Keeps P w K mg base 2 "minus" ["one", "other"] (spRat2 K fun r s => r - s)) : Keeps P w K mg base 3 "tied_voltages" ["ties", "potential"] (spTied K) := by
  refine D.keeps sc_tied_voltages (fun _ _ _ _ _ _ us hl => match us, hl with | [_, _], _ => rfl) (fun vs H Q E h => ?_) (fun f cdv A outer s0 H vs Q E hr h => ?_)
  · obtain ⟨u, d, n, ties, m, rfl, _⟩ := h
    rfl
  · obtain ⟨u, d, n, ties, m, rfl, ⟨a, xs, rfl, hq, pr⟩, few, hd, ends, k⟩ := h
    have lx := pr.length
    refine ⟨_, (pss_one (ps_ret (pe_dc (own := [("part", 2), ("plus", 3), ("less", 4)]) (g := gTup K 3 (gCons (gName 2) (gCons (gName 3) (gCons (gName 4) gNil)))) (tt := tYes) rfl sc_tied_voltages.nd (pi_tup (pv 0)) (blkOk_by (N := N_tied_voltages) (sc := defScope s_tied_voltages) (by decide +kernel)) (fun _ _ _ _ _ => pg_tup rfl (pgs_cons (pg_name (i := 2) sc_tied_voltages.nd rfl (Or.inl rfl)) (pgs_cons (pg_name (i := 3) sc_tied_voltages.nd rfl (Or.inl rfl)) (pgs_cons (pg_name (i := 4) sc_tied_voltages.nd rfl (Or.inl rfl)) pgs_nil)))) (fun _ _ _ _ _ => pts_nil) (fun _ _ _ _ _ => by exact (pv 2)) (fun _ _ _ _ _ => by exact (pe_go G_minus (hr.mono (by decide)) rfl (pa_cons (pe_dget (hu_of hr) (pv 1) (pv 3) (fun _ _ => rfl)) (pa_cons (pe_dget (hu_of hr) (pv 1) (pv 4) (fun _ _ => rfl)) pa_nil))))))), ?_⟩
    refine into_ret ⟨_, rfl, a, rfl, ⟨_, hq⟩, fun S nS => dc_it (walk_tup (xs := xs)) (fun i H' => DtAt K H' S i (tiedT (ties.take i) m) ∧ Same H H') ⟨⟨[], upd_same, Nat.le_refl _, Holds.nil⟩, same_upd nS⟩ (fun i H' _ ⟨_, s'⟩ => SqT.same s' hq) ?_ ?_⟩
    · rintro i x H' H'' hi ⟨hS, s'⟩ ⟨rfl, hx⟩
      obtain ⟨t, et, tt, rfl, ht⟩ := Paired.at pr hx
      obtain ⟨⟨r1, e1, f1⟩, r2, e2, f2⟩ := ends t (List.mem_of_getElem? et)
      obtain ⟨u1, g1, q1⟩ := (hd.same s').get e1
      obtain ⟨u2, g2, q2⟩ := (hd.same s').get e2
      refine ⟨tt, _, rfl, SqT.same s' ht, rfl, _, _, rfl, _, _, rfl, _, _, rfl, ⟨rfl, rfl, yes_of ?_⟩⟩
      refine ⟨_, rfl, _, rfl, _, rfl, d, u1, rfl, g1, _, rfl, _, rfl, d, u2, rfl, g2, u1, u2, r1, r2, rfl, q1, q2, f1, f2, fun v' H3 s3 hv => ?_⟩
      obtain ⟨kvs, hS3, l3, q3⟩ := hS.same s3
      refine ⟨kvs, .inr t.1, rfl, hS3, Nat.lt_of_le_of_lt l3 (Nat.lt_trans (show i < 1000000 by omega) (by decide)), ⟨_, upd_same, ?_, ?_⟩, ?_⟩
      · have := length_putK kvs (Sum.inr t.1) v'
        omega
      · have e : tiedT (ties.take (i + 1)) m = (tiedT (ties.take i) m).put t.1 (r1 - r2) := by
          unfold tiedT
          rw [take_next et, List.foldl_append]
          show Tab.put _ _ _ = _
          rw [at_of e1, at_of e2]
        rw [e]
        exact (q3.put hv).dict hS3
      · exact same_but (s'.trans s3) nS
    · rintro H' ⟨hS, s'⟩
      rw [lx, List.take_length] at hS
      exact k _ _ s' nS (hS.more few)
theorem k_standing_at (D : Lies K mg "standing_at" s_standing_at) (T : Plain mg) (T2 : Plain2 mg) (Z : ClassT K mg C) (G_tied_voltages : Keeps P w K mg base 3 "tied_voltages" ["ties", "potential"] (spTied K)) : Keeps P w K mg base 4 "standing_at" ["circuit", "ties", "potential", "standing"] (spStand K C) := by
  refine D.keeps sc_standing_at (fun _ _ _ _ _ _ us hl => match us, hl with | [_, _, _, _], _ => rfl) (fun vs H Q E h => ?_) (fun f cdv A outer s0 H vs Q E hr h => ?_)
  · obtain ⟨v, u, y, d, n, o, ties, m, st, rfl, _⟩ := h
    rfl
  · obtain ⟨v, u, y, d, n, o, ties, m, st, rfl, hc, ok, ht, few, hd, ends, ⟨a, xs, rfl, hq, pr⟩, len, k⟩ := h
    refine ⟨_, (pss_cons (ps_set (i := 4) sc_standing_at.nd rfl (Or.inr rfl) (pe_go G_tied_voltages (hr.mono (by decide)) rfl (pa_cons (pv 1) (pa_cons (pv 2) pa_nil))))
      (pss_one (ps_ret (pe_callTy call_tuple_of (by rfl) T.n_tuple b_tuple (pa_cons (pe_lc (own := [("ahead", 7), ("name", 5), ("_", 6)]) (g := gTup K 2 (gCons (gTup K 2 (gCons (gName 5) (gCons (gName 6) gNil))) (gCons (gName 7) gNil))) (tt := tYes) rfl sc_standing_at.nd (RZ.pi_zipA rfl T2.n_zip (pa_cons (pe_fld (pv 0) rfl) (pa_cons (pv 3) pa_nil))) (blkOk_by (N := N_standing_at) (sc := defScope s_standing_at) (by decide +kernel)) (fun _ _ _ _ _ => pg_tup rfl (pgs_cons (pg_tup rfl (pgs_cons (pg_name (i := 5) sc_standing_at.nd rfl (Or.inl rfl)) (pgs_cons (pg_name (i := 6) sc_standing_at.nd rfl (Or.inl rfl)) pgs_nil))) (pgs_cons (pg_name (i := 7) sc_standing_at.nd rfl (Or.inl rfl)) pgs_nil))) (fun _ _ _ _ _ => pts_nil) (fun _ _ _ _ _ => by exact (pe_dget2 (hu_of hr) (pv 4) (pv 5) (pv 7) ⟨rfl, rfl, rfl, rfl⟩))) pa_nil))))), ?_⟩
    refine ⟨_, rfl, _, rfl, u, d, n, ties, m, rfl, ht, few, hd, ends, fun e H1 s1 ne he => ?_⟩
    obtain ⟨c, dx, fs, tp, us, rfl, hc1, hc2, hp, pp⟩ := (hc.same s1).prt
    have lp := pp.length
    have lx := pr.length
    have lpx : us.length = xs.length := by omega
    refine into_name ?_
    dsimp only
    refine into_ret (into_cb (into_args1 ?_))
    refine ⟨_, rfl, c, C, dx, fs, _, rfl, hc1, Z.cl, Z.nP, hc2, _, rfl, tp, a, us, xs, rfl, .inr ⟨hp.sq, SqT.same s1 hq, fun S nS => lc_it (walk_zipT lpx) (fun i H' => ∃ acc, H' S = some (.lst acc) ∧ Paired (RatAt K H') acc ((standL o ties m st).take i) ∧ Same H1 H') ⟨[], upd_same, .nil, same_upd nS⟩
      (fun i H' _ ⟨_, _, _, s'⟩ => ⟨SqT.same s' hp.sq, SqT.same (s1.trans s') hq⟩) ?_ ?_⟩⟩
    · rintro i x H' H'' hi ⟨acc, hS, pa, s'⟩ ⟨Tp, x1, x2, rfl, nT, rfl, ex1, ex2⟩
      obtain ⟨e1, ee1, t, un, rfl, ht1, _⟩ := Paired.at pp ex1
      obtain ⟨r2, er2, hr2⟩ := Paired.at pr ex2
      have s2 := same_upd (o := .tup [V.ref t, x2]) nT
      have s12 := s'.trans s2
      refine ⟨Tp, _, rfl, SqT.of upd_same, rfl, _, _, rfl, ⟨t, _, rfl, SqT.same s12 ht1, rfl, _, _, rfl, _, _, rfl, ⟨rfl, _, _, rfl, rfl, rfl, yes_of ?_⟩⟩⟩
      obtain ⟨ov, get, told⟩ := (he.same s12).ask e1.1
      refine ⟨_, rfl, e, rfl, (he.same s12).isD, _, rfl, _, rfl, ov, get, _, s2 _ _ hS, ?_, acc ++ [ov.getD x2], upd_same, ?_, ?_⟩
      · have l1 := pa.length
        have l2 := List.length_take_le' i (standL o ties m st)
        have l3 := ok.p_few
        have l4 : (standL o ties m st).length ≤ 8 := by unfold standL; rw [List.length_zipWith]; omega
        show acc.length < 16777216
        have := List.length_take_le i (standL o ties m st)
        omega
      · have en : (standL o ties m st)[i]? = some ((tiedT ties m e1.1).getD r2) := by
          unfold standL
          rw [List.getElem?_zipWith, ee1, er2]
        rw [take_next en]
        refine (pa.mono fun _ _ h => (h.same s2).list (s2 _ _ hS)).snoc ?_
        cases hg : tiedT ties m e1.1 with
        | none =>
          rw [hg] at told
          obtain rfl : ov = none := told
          exact ((hr2.same s1).same s12).list (s2 _ _ hS)
        | some r =>
          rw [hg] at told
          obtain ⟨u9, rfl, h9⟩ := told
          exact h9.list (s2 _ _ hS)
      · exact same_but s12 nS
    · rintro H' ⟨acc, hS, pa, s'⟩
      have ls : (standL o ties m st).length = us.length := by unfold standL; rw [List.length_zipWith]; omega
      rw [← ls, List.take_length] at pa
      refine ⟨S, acc, rfl, .inl ⟨SqL.of hS, fun l nl => ?_⟩⟩
      have s3 := same_upd (o := .tup acc) nl
      exact k _ _ (s1.trans (s'.trans s3)) ⟨l, acc, rfl, SqT.of upd_same, pa.mono fun _ _ h => h.same s3⟩
theorem k_given_voltages (D : Lies K mg "_given_voltages" s_given_voltages) (T : Plain mg) (O : ZeroT K mg z) (G_given_potentials : Keeps P w K mg base 1 "given_potentials" ["circuit"] (spGiven K C)) (G_tied_voltages : Keeps P w K mg base 3 "tied_voltages" ["ties", "potential"] (spTied K)) :
    Keeps P w K mg base 4 "_given_voltages" ["circuit", "ties", "free"] (spGivenV K C) := by
  refine D.keeps sc_given_voltages (fun _ _ _ _ _ _ us hl => match us, hl with | [_, _, _], _ => rfl) (fun vs H Q E h => ?_) (fun f cdv A outer s0 H vs Q E hr h => ?_)
  · obtain ⟨v, u, l, o, ties, fl, rfl, _⟩ := h
    rfl
  · obtain ⟨v, u, l, o, ties, fl, rfl, hc, ok, ht, few, hl, lf, ends, k⟩ := h
    refine ⟨_, (pss_cons (ps_set (i := 3) sc_given_voltages.nd rfl (Or.inl rfl) (pe_go G_given_potentials (hr.mono (by decide)) rfl (pa_cons (pv 0) pa_nil)))
      (pss_cons (ps_for PassesOwn.never rfl (pi_list (pv 2)) (pg_name (i := 4) sc_given_voltages.nd rfl (Or.inl rfl))
        (pss_one (ps_dput (hu_of hr) (pv 3) (pv 4) (pe_glob (v := .ref z) rfl O.mgZ rfl) rfl)))
      (pss_one (ps_ret (pe_go G_tied_voltages (hr.mono (by decide)) rfl (pa_cons (pv 1) (pa_cons (pv 3) pa_nil))))))), ?_⟩
    refine ⟨_, rfl, v, o, rfl, hc, ok, fun d H1 s1 nd hd => ?_⟩
    refine ⟨_, rfl, l, rfl, ⟨_, Same.seq s1 hl⟩, for_list (xs := fl.map V.str) (fun i σ' H' => ∃ v4 : Option V, σ' = [some v, some u, some (.ref l), some (.ref d), v4] ∧ Same H H' ∧ DtAt K H' d (5 + i) ((fl.take i).foldl (fun m x => m.put x 0) (givenT o))) ⟨_, rfl, s1, hd⟩ (fun i σ' H' _ ⟨_, _, s', _⟩ => Same.seq s' hl) ?_ ?_⟩
    · rintro i x σ' H' hx ⟨v4, rfl, s', hd'⟩
      rw [List.getElem?_map] at hx
      cases q9 : fl[i]? with
      | none => rw [q9] at hx; cases hx
      | some b =>
        rw [q9] at hx
        obtain rfl : V.str b = x := Option.some.inj hx
        have ib := (List.getElem?_eq_some_iff.mp q9).1
        obtain ⟨H2, put, hd2, same, _⟩ := hd'.put (x := b) (v := .ref z) (r := 0) (by omega) (O.at _)
        refine ⟨_, rfl, _, rfl, d, H2, rfl, put, _, rfl, same _ s' nd, ?_⟩
        rw [take_next q9, List.foldl_append]
        exact hd2
    · rintro σ' H' ⟨v4, rfl, s', hd'⟩
      rw [List.length_map, List.take_length] at hd'
      exact ⟨_, rfl, _, rfl, u, d, _, ties, _, rfl, ht.same s', few, hd', ends, fun e H2 s2 ne he => k e H2 (s'.trans s2) (s'.free ne) he⟩
end
end Ct

/-! Sides, weights; sizes and voltages by name. -/
namespace Ct
open PySem PySem.Spec PyProof.Rows L2 TL RZ
def sideZ (t : Str × Str × Str) (j : Str) : Int := (if t.2.1 = j then 1 else 0) - (if t.2.2 = j then 1 else 0)
theorem side_small (t : Str × Str × Str) (j : Str) : sideZ t j = -1 ∨ sideZ t j = 0 ∨ sideZ t j = 1 := by
  unfold sideZ
  split <;> split <;> simp
def intQ (i : Int) : Rat := (i : Rat)
theorem int_rat {K : PySem.W.Frag} {H : Hp} {t : Addr} {i : Int} (h : SqT K H t [.int i, .int 1]) : RatAt K H (.ref t) (intQ i) := ⟨t, rfl, h⟩
theorem int_fit {i : Int} (h : i = -1 ∨ i = 0 ∨ i = 1) : FitR 4400 (intQ i) := by
  have one : 1 < 2 ^ 4400 := Nat.lt_of_lt_of_le (by decide : 1 < 2 ^ 1) (Nat.pow_le_pow_right (by decide) (by decide))
  refine ⟨?_, one⟩
  show i.natAbs < 2 ^ 4400
  rcases h with rfl | rfl | rfl
  · exact one
  · exact Nat.lt_trans (by decide) one
  · exact one
theorem mul_small {i j : Int} (hi : i = -1 ∨ i = 0 ∨ i = 1) (hj : j = -1 ∨ j = 0 ∨ j = 1) : i * j = -1 ∨ i * j = 0 ∨ i * j = 1 := by
  rcases hi with rfl | rfl | rfl <;> rcases hj with rfl | rfl | rfl <;> decide
abbrev s_side : Stmt := top 52
abbrev N_side : List Str := ["tie", "junction"]
theorem sc_side : FnScope N_side ["tie", "junction"] (defScope s_side) := ⟨rfl, rfl, rfl, by decide +kernel, rfl, by decide +kernel, by decide +kernel⟩
abbrev s_weight : Stmt := top 51
abbrev N_weight : List Str := ["tie", "junction", "other", "size"]
theorem sc_weight : FnScope N_weight ["tie", "junction", "other", "size"] (defScope s_weight) := ⟨rfl, rfl, rfl, by decide +kernel, rfl, by decide +kernel, by decide +kernel⟩
def spSide (K : PySem.W.Frag) : Sp := fun vs H Q _ => ∃ (u : V) (t : Str × Str × Str) (j : Str), vs = [u, .str j] ∧ TieAt K H u t ∧ Q (.int (sideZ t j)) H
def spWeight (K : PySem.W.Frag) : Sp := fun vs H Q _ => ∃ (u : V) (t : Str × Str × Str) (j k : Str) (d : Addr) (n : Nat) (m : Tab) (r : Rat), vs = [u, .str j, .str k, .ref d] ∧ TieAt K H u t ∧ DtAt K H d n m ∧ m t.1 = some r ∧ FitR 4400 r ∧
  ∀ v' H', Same H H' → RatAt K H' v' (intQ (sideZ t j * sideZ t k) * r) → Q v' H'
def sizeT (o : Own) : Tab := o.parts.foldl (fun m e => m.put e.1 (ratF e.2)) Tab.no
def aheadT (o : Own) (st : List Rat) : Tab := (o.parts.zip st).foldl (fun m e => m.put e.1.1 e.2) Tab.no
theorem parts_of {K : PySem.W.Frag} {H : Hp} : ∀ {us : List V} {es : List (Str × Int × Int)}, Paired (EntAt K H) us es → (∀ e ∈ es, FrOk e.2) →
    ∃ (ps : List Addr) (kvs : List (Key × V)), us = ps.map V.ref ∧ kvs.length = es.length ∧ Paired (fun p kv => SqT K H p [kV kv.1, kv.2]) ps kvs ∧ ∀ acc m, Holds K H acc m → Holds K H (mergeK acc kvs) (es.foldl (fun m e => m.put e.1 (ratF e.2)) m)
  | _, _, .nil, _ => ⟨[], [], rfl, rfl, .nil, fun _ _ h => h⟩
  | _, _, .cons (b := e) h t, ok => by
    obtain ⟨ps, kvs, e1, l1, p1, q1⟩ := parts_of t fun x hx => ok x (List.mem_cons_of_mem _ hx)
    obtain ⟨a, u, rfl, ha, hu⟩ := h
    refine ⟨a :: ps, (.inr e.1, u) :: kvs, by rw [e1]; rfl, by rw [List.length_cons, List.length_cons, l1], .cons ha p1, fun acc m hm => ?_⟩
    exact q1 _ _ (hm.put (hu.rat (ok e List.mem_cons_self)))
section
variable {P : Program} {w : World} {K : PySem.W.Frag} {mg : Str → Option Value} {base : Heap} {C z : Addr}
theorem k_side (D : Lies K mg "_side" s_side) (T : Plain mg) : Keeps P w K mg base 1 "_side" ["tie", "junction"] (spSide K) := by
  refine D.keeps sc_side (fun _ _ _ _ _ _ us hl => match us, hl with | [_, _], _ => rfl) (fun vs H Q E h => ?_) (fun f cdv A outer s0 H vs Q E hr h => ?_)
  · obtain ⟨u, t, j, rfl, _⟩ := h
    rfl
  · obtain ⟨u, t, j, rfl, ⟨a, rfl, ht⟩, k⟩ := h
    have i1 : atI [V.str t.1, V.str t.2.1, V.str t.2.2] 1 = some (V.str t.2.1) := rfl
    have i2 : atI [V.str t.1, V.str t.2.1, V.str t.2.2] 2 = some (V.str t.2.2) := rfl
    have b : ∀ x : Str, (if decide (V.str x = V.str j) = true then (1 : Int) else 0) = if x = j then 1 else 0 := fun x => by
      by_cases e : x = j
      · rw [if_pos e, if_pos (decide_eq_true (by rw [e]))]
      · rw [if_neg e, if_neg (by rw [decide_eq_false fun z => e (V.str.inj z)]; decide)]
    refine ⟨_, (pss_one (ps_ret (pe_op op_sub (pe_callTy call_int1 (by rfl) T.n_int b_int (pa_cons (pe_cmpR op_eq (pe_ix ix_tup (pv 0) pe_int (fun _ _ => rfl)) (pv 1) (nomark _)) pa_nil)) (pe_callTy call_int1 (by rfl) T.n_int b_int (pa_cons (pe_cmpR op_eq (pe_ix ix_tup (pv 0) pe_int (fun _ _ => rfl)) (pv 1) (nomark _)) pa_nil))))), ?_⟩
    refine ⟨_, rfl, a, _, _, _, rfl, rfl, ht, i1, _, rfl, rfl, .inr ⟨_, rfl, ?_⟩⟩
    refine ⟨_, rfl, a, _, _, _, rfl, rfl, ht, i2, _, rfl, rfl, .inr ⟨_, rfl, ?_⟩⟩
    refine ⟨_, _, rfl, rfl, ?_⟩
    rw [b, b]
    exact k
theorem k_weight (D : Lies K mg "_weight" s_weight) (T : Plain mg) (G_side : Keeps P w K mg base 1 "_side" ["tie", "junction"] (spSide K)) (G_times : Keeps P w K mg base 2 "times" ["one", "other"] (spRat2 K fun r s => r * s)) : Keeps P w K mg base 3 "_weight" ["tie", "junction", "other", "size"] (spWeight K) := by
  refine D.keeps sc_weight (fun _ _ _ _ _ _ us hl => match us, hl with | [_, _, _, _], _ => rfl) (fun vs H Q E h => ?_) (fun f cdv A outer s0 H vs Q E hr h => ?_)
  · obtain ⟨u, t, j, k, d, n, m, r, rfl, _⟩ := h
    rfl
  · obtain ⟨u, t, j, k, d, n, m, r, rfl, ⟨a, rfl, ht⟩, hd, hm, fit, q⟩ := h
    have i0 : atI [V.str t.1, V.str t.2.1, V.str t.2.2] 0 = some (V.str t.1) := rfl
    have sm := mul_small (side_small t j) (side_small t k)
    refine ⟨_, (pss_one (ps_ret (pe_go G_times (hr.mono (by decide)) rfl (pa_cons (pe_tup (pa_cons (pe_op op_mul (pe_go G_side (hr.mono (by decide)) rfl (pa_cons (pv 0) (pa_cons (pv 1) pa_nil))) (pe_go G_side (hr.mono (by decide)) rfl (pa_cons (pv 0) (pa_cons (pv 2) pa_nil)))) (pa_cons pe_int pa_nil))) (pa_cons (pe_dget (hu_of hr) (pv 3) (pe_ix ix_tup (pv 0) pe_int (fun _ _ => rfl)) (fun _ _ => rfl)) pa_nil))))), ?_⟩
    refine ⟨_, rfl, _, rfl, _, t, j, rfl, ⟨a, rfl, ht⟩, _, rfl, _, rfl, _, t, k, rfl, ⟨a, rfl, ht⟩, _, _, rfl, rfl, ?_, by show 2 ≤ sizeLine; decide, fun p np => ?_⟩
    · have h1 := side_small t j
      have h2 := side_small t k
      generalize sideZ t j = x at *
      generalize sideZ t k = y at *
      rcases h1 with rfl | rfl | rfl <;> rcases h2 with rfl | rfl | rfl <;> (unfold CMul; decide)
    have s1 := same_upd (o := .tup [V.int (sideZ t j * sideZ t k), V.int 1]) np
    have h1 : RatAt K (upd H p (.tup [V.int (sideZ t j * sideZ t k), V.int 1])) (.ref p) (intQ (sideZ t j * sideZ t k)) := int_rat (SqT.of upd_same)
    generalize upd H p (.tup [V.int (sideZ t j * sideZ t k), V.int 1]) = H1 at *
    obtain ⟨u, g, hu⟩ := (hd.same s1).get hm
    exact ⟨_, rfl, _, rfl, a, _, _, _, rfl, rfl, SqT.same s1 ht, i0, d, u, rfl, g, .ref p, u, _, r, rfl, h1, hu, int_fit sm, fit, fun v' H2 s2 hv => q v' H2 (s1.trans s2) hv⟩
end
end Ct

/-! The equations of a joining. -/
namespace Ct
open PySem PySem.Spec PyProof.Rows L2 TL RZ
def lackF (o : Own) (ties : Ties) (fl : List Str) (st : List Rat) (l : Ties) : Tab :=
  l.foldl (fun m t => m.put t.1 ((sizeT o).at t.1 * ((aheadT o st).at t.1 - (tiedT ties (zeroT o fl)).at t.1))) Tab.no
def lackT (o : Own) (ties : Ties) (fl : List Str) (st : List Rat) : Tab := lackF o ties fl st ties
def nearL (ties : Ties) (j : Str) : Ties := ties.filter fun t => decide (t.2.1 = j ∨ t.2.2 = j)
def weights (o : Own) (ties : Ties) (j k : Str) : List Rat := (nearL ties j).map fun t => intQ (sideZ t j * sideZ t k) * (sizeT o).at t.1
def mades (o : Own) (ties : Ties) (fl : List Str) (st : List Rat) (j : Str) : List Rat := (nearL ties j).map fun t => intQ (sideZ t j) * (lackT o ties fl st).at t.1
def eqL (o : Own) (ties : Ties) (fl : List Str) (st : List Rat) (j : Str) : List Rat := fl.map (fun k => sumL (weights o ties j k)) ++ [sumL (mades o ties fl st j)]
def eqsL (o : Own) (ties : Ties) (fl : List Str) (st : List Rat) : List (List Rat) := fl.map (eqL o ties fl st)
/-- sums whose numbers and parts of the sum are short -/
def SumOk (rs : List Rat) : Prop := (∀ r ∈ rs, FitR 4400 r) ∧ ∀ i, FitR 4400 (sumL (rs.take i))
theorem fit_all {rs : List Rat} (h : ∀ i, FitR 4400 (sumL (rs.take i))) : FitR 4400 (sumL rs) := by
  have := h rs.length
  rwa [List.take_length] at this
def Fit? (q : Option Rat) : Prop := ∃ r, q = some r ∧ FitR 4400 r
/-- all that the equations come across -/
structure EqOk (o : Own) (ties : Ties) (fl : List Str) (st : List Rat) : Prop where
  few : ties.length ≤ 8
  free : fl.length ≤ 16
  ends : EndsIn (zeroT o fl) ties
  size : ∀ t ∈ ties, Fit? (sizeT o t.1)
  ahead : ∀ t ∈ ties, Fit? (aheadT o st t.1)
  given : ∀ t ∈ ties, Fit? (tiedT ties (zeroT o fl) t.1)
  step : ∀ t ∈ ties, FitR 4400 ((aheadT o st).at t.1 - (tiedT ties (zeroT o fl)).at t.1)
  lack : ∀ t ∈ ties, Fit? (lackT o ties fl st t.1)
  sumW : ∀ j ∈ fl, ∀ k ∈ fl, SumOk (weights o ties j k)
  sumM : ∀ j ∈ fl, SumOk (mades o ties fl st j)
theorem fit_at {m : Tab} {x : Str} (h : Fit? (m x)) : m x = some (m.at x) ∧ FitR 4400 (m.at x) := by
  obtain ⟨r, e, f⟩ := h
  rw [at_of e]
  exact ⟨e, f⟩
theorem near_sub {ties : Ties} {j : Str} {t : Str × Str × Str} (h : t ∈ nearL ties j) : t ∈ ties := (List.mem_filter.mp h).1
abbrev s_charge_equations : Stmt := top 49
abbrev N_charge_equations : List Str := ["circuit", "ties", "standing", "free", "taken", "size", "ahead", "name", "_", "voltage", "given", "lacking", "tie", "equations", "junction", "near", "row", "other", "made_up"]
theorem sc_charge_equations : FnScope N_charge_equations ["circuit", "ties", "standing", "free", "taken"] (defScope s_charge_equations) := ⟨rfl, rfl, rfl, by decide +kernel, rfl, by decide +kernel, by decide +kernel⟩
def spEqs (K : PySem.W.Frag) (C : Addr) : Sp := fun vs H Q _ => ∃ (v u y : V) (l tk : Addr) (o : Own) (ties : Ties) (fl : List Str) (st : List Rat), vs = [v, u, y, .ref l, .ref tk] ∧ DtAt K H tk 0 Tab.no ∧ CircN K C H v o ∧ OwnOk o ∧ TiesAt K H u ties ∧ RatsAt K H y st ∧ st.length = o.parts.length ∧ SqL K H l (fl.map V.str) ∧ EqOk o ties fl st ∧
  ∀ a xs H', Same H H' → SqL K H' a xs → Paired (RatLAt K H') xs (eqsL o ties fl st) → Q (.ref a) H'
theorem SqL.past {K : PySem.W.Frag} {H : Hp} {D a : Addr} {o : HO} {xs : List V} (ne : a ≠ D) (h : SqL K H a xs) : SqL K (upd H D o) a xs := by
  rcases h with (h | ⟨o, h⟩) | h
  · exact .inl (.inl ((upd_ne ne).trans h))
  · exact .inl (.inr ⟨o, (upd_ne ne).trans h⟩)
  · exact .inr h
/-- a list of rationals that is not the list D -/
def RowX (K : PySem.W.Frag) (D : Addr) (H : Hp) (v : V) (rs : List Rat) : Prop := ∃ a xs, v = .ref a ∧ a ≠ D ∧ SqL K H a xs ∧ Paired (RatAt K H) xs rs
theorem RowX.same {K : PySem.W.Frag} {D : Addr} {H H' : Hp} (s : Same H H') {v : V} {rs : List Rat} : RowX K D H v rs → RowX K D H' v rs := fun ⟨a, xs, e, n, h, p⟩ => ⟨a, xs, e, n, Same.seq s h, p.mono fun _ _ h => h.same s⟩
theorem RowX.list {K : PySem.W.Frag} {D : Addr} {H : Hp} {acc acc' : List V} (hD : H D = some (.lst acc)) {v : V} {rs : List Rat} : RowX K D H v rs → RowX K D (upd H D (.lst acc')) v rs := fun ⟨a, xs, e, n, h, p⟩ => ⟨a, xs, e, n, SqL.past n h, p.mono fun _ _ h => h.list hD⟩
theorem near_snoc (l : Ties) (t : Str × Str × Str) (j : Str) : nearL (l ++ [t]) j = if j ∈ [t.2.1, t.2.2] then nearL l j ++ [t] else nearL l j := by
  unfold nearL
  rw [List.filter_append]
  by_cases h : j ∈ [t.2.1, t.2.2]
  · have q : t.2.1 = j ∨ t.2.2 = j := by
      rcases List.mem_cons.mp h with h | h
      · exact .inl h.symm
      · exact .inr (List.mem_singleton.mp h).symm
    rw [if_pos h, List.filter_cons_of_pos (by simpa using q)]
    rfl
  · have q : ¬ (t.2.1 = j ∨ t.2.2 = j) := by
      rintro (e | e)
      · exact h (by rw [e]; exact List.mem_cons_self)
      · exact h (by rw [e]; exact List.mem_cons_of_mem _ List.mem_cons_self)
    rw [if_neg h, List.filter_cons_of_neg (by simpa using q)]
    exact List.append_nil _
section
variable {P : Program} {w : World} {K : PySem.W.Frag} {mg : Str → Option Value} {base : Heap} {C z : Addr}
theorem k_charge_equations (D : Lies K mg "_charge_equations" s_charge_equations) (T : Plain mg) (T2 : Plain2 mg) (Z : ClassT K mg C) (O : ZeroT K mg z) (G_given_voltages : Keeps P w K mg base 4 "_given_voltages" ["circuit", "ties", "free"] (spGivenV K C)) (G_times : Keeps P w K mg base 2 "times" ["one", "other"] (spRat2 K fun r s => r * s)) (G_minus : Keeps P w K mg base 2 "minus" ["one", "other"] (spRat2 K fun r s => r - s))
    (G_total : Keeps P w K mg base 3 "total" ["numbers"] (spTotal K)) (G_weight : Keeps P w K mg base 3 "_weight" ["tie", "junction", "other", "size"] (spWeight K)) (G_side : Keeps P w K mg base 1 "_side" ["tie", "junction"] (spSide K)) : Keeps P w K mg base 5 "_charge_equations" ["circuit", "ties", "standing", "free", "taken"] (spEqs K C) := by
  refine D.keeps sc_charge_equations (fun _ _ _ _ _ _ us hl => match us, hl with | [_, _, _, _, _], _ => rfl) (fun vs H Q E h => ?_) (fun f cdv A outer s0 H vs Q E hr h => ?_)
  · obtain ⟨v, u, y, l, tk, o, ties, fl, st, rfl, _⟩ := h
    rfl
  · obtain ⟨v, u, y, l, tk, o, ties, fl, st, rfl, htk, hc, ok, ⟨at', xt, rfl, hqt, prt⟩, ⟨as, xs, rfl, hqs, prs⟩, len, hl, eo, k⟩ := h
    obtain ⟨c, dx, fs, tp, us, rfl, hc1, hc2, hp, pp⟩ := hc.prt
    obtain ⟨ps, kvs, eus, lk, pk, hk⟩ := parts_of pp fun e he => (ok.prt e he).2.1
    have lt := prt.length
    have ls := prs.length
    have lp := pp.length
    have pf := ok.p_few
    have lpx : us.length = xs.length := by omega
    refine ⟨_, (pss_cons (ps_set (i := 5) sc_charge_equations.nd rfl (Or.inr rfl) (pe_callTy (call_dictN rfl) (by rfl) T.n_dict b_dict (pa_cons (pe_fld (pv 0) rfl) pa_nil)))
      (pss_cons (ps_set (i := 6) sc_charge_equations.nd rfl (Or.inr rfl) (pe_dc (own := [("voltage", 9), ("name", 7), ("_", 8)]) (g := gTup K 2 (gCons (gTup K 2 (gCons (gName 7) (gCons (gName 8) gNil))) (gCons (gName 9) gNil))) (tt := tYes) rfl sc_charge_equations.nd (RZ.pi_zipA rfl T2.n_zip (pa_cons (pe_fld (pv 0) rfl) (pa_cons (pv 2) pa_nil))) (blkOk_by (N := N_charge_equations) (sc := defScope s_charge_equations) (by decide +kernel)) (fun _ _ _ _ _ => pg_tup rfl (pgs_cons (pg_tup rfl (pgs_cons (pg_name (i := 7) sc_charge_equations.nd rfl (Or.inl rfl)) (pgs_cons (pg_name (i := 8) sc_charge_equations.nd rfl (Or.inl rfl)) pgs_nil))) (pgs_cons (pg_name (i := 9) sc_charge_equations.nd rfl (Or.inl rfl)) pgs_nil))) (fun _ _ _ _ _ => pts_nil) (fun _ _ _ _ _ => by exact (pv 7)) (fun _ _ _ _ _ => by exact (pv 9))))
      (pss_cons (ps_set (i := 10) sc_charge_equations.nd rfl (Or.inr rfl) (pe_go G_given_voltages (hr.mono (by decide)) rfl (pa_cons (pv 0) (pa_cons (pv 1) (pa_cons (pv 3) pa_nil)))))
      (pss_cons (ps_set (i := 11) sc_charge_equations.nd rfl (Or.inr rfl) (pe_dc (own := [("tie", 12)]) (g := gName 12) (tt := tYes) rfl sc_charge_equations.nd (pi_tup (pv 1)) (blkOk_by (N := N_charge_equations) (sc := defScope s_charge_equations) (by decide +kernel)) (fun _ _ _ _ _ => pg_name (i := 12) sc_charge_equations.nd rfl (Or.inl rfl)) (fun _ _ _ _ _ => pts_nil) (fun _ _ _ _ _ => by exact (pe_ix (ix_tupK (K := K) rfl) (pv 12) pe_int (fun _ _ => rfl))) (fun _ _ _ _ _ => by exact (pe_go G_times (hr.mono (by decide)) rfl (pa_cons (pe_dget (hu_of hr) (pv 5) (pe_ix (ix_tupK (K := K) rfl) (pv 12) pe_int (fun _ _ => rfl)) (fun _ _ => rfl)) (pa_cons (pe_go G_minus (hr.mono (by decide)) rfl (pa_cons (pe_dget (hu_of hr) (pv 6) (pe_ix (ix_tupK (K := K) rfl) (pv 12) pe_int (fun _ _ => rfl)) (fun _ _ => rfl)) (pa_cons (pe_dget (hu_of hr) (pv 10) (pe_ix (ix_tupK (K := K) rfl) (pv 12) pe_int (fun _ _ => rfl)) (fun _ _ => rfl)) pa_nil))) pa_nil))))))
      (pss_cons (ps_set (i := 13) sc_charge_equations.nd rfl (Or.inl rfl) (pe_lst pa_nil))
      (pss_cons (ps_for PassesOwn.never rfl (pi_list (pv 3)) (pg_name (i := 14) sc_charge_equations.nd rfl (Or.inr rfl))
        (pss_cons (ps_set (i := 15) sc_charge_equations.nd rfl (Or.inr rfl) (pe_lc (own := [("tie", 12)]) (g := gName 12) (tt := _) rfl sc_charge_equations.nd (pi_tup (pv 1)) (blkOk_by (N := N_charge_equations) (sc := defScope s_charge_equations) (by decide +kernel)) (fun _ _ _ _ _ => pg_name (i := 12) sc_charge_equations.nd rfl (Or.inl rfl)) (fun _ _ _ _ _ => pts_one (pt_cmpR (op_in_seqK (K := K) rfl) (pv 14) (pe_slice (sl_tupK (K := K) rfl) (pv 12) (po_some pe_int) po_none) (by rfl))) (fun _ _ _ _ _ => by exact (pv 12))))
        (pss_cons (ps_setLc (i := 16) (own := [("other", 17)]) (g := gName 17) (tt := tYes) rfl sc_charge_equations.nd rfl rfl (sw_true rfl rfl rfl (by decide +kernel)) (pi_list (pv 3)) (blkOk_by (N := N_charge_equations) (sc := defScope s_charge_equations) (by decide +kernel)) (fun _ _ _ _ _ => pg_name (i := 17) sc_charge_equations.nd rfl (Or.inr rfl)) (fun _ _ _ _ _ => pts_nil) (fun _ _ _ _ _ => by exact (pe_go G_total (hr.mono (by decide)) rfl (pa_cons (pe_lc (own := [("tie", 12)]) (g := gName 12) (tt := tYes) rfl sc_charge_equations.nd (pi_listK (K := K) rfl (pv 15)) (blkOk_in (N := N_charge_equations) (blkOk_by (by decide +kernel))) (fun _ _ _ _ _ => pg_name (i := 12) sc_charge_equations.nd rfl (Or.inl rfl)) (fun _ _ _ _ _ => pts_nil) (fun _ _ _ _ _ => by exact (pe_go G_weight (hr.mono (by decide)) rfl (pa_cons (pv 12) (pa_cons (pv 14) (pa_cons (pv 17) (pa_cons (pv 5) pa_nil))))))) pa_nil))))
        (pss_cons (ps_setLc (i := 18) (own := [("tie", 12)]) (g := gName 12) (tt := tYes) rfl sc_charge_equations.nd rfl rfl (sw_true rfl rfl rfl (by decide +kernel)) (pi_list (pv 15)) (blkOk_by (N := N_charge_equations) (sc := defScope s_charge_equations) (by decide +kernel)) (fun _ _ _ _ _ => pg_name (i := 12) sc_charge_equations.nd rfl (Or.inl rfl)) (fun _ _ _ _ _ => pts_nil) (fun _ _ _ _ _ => by exact (pe_go G_times (hr.mono (by decide)) rfl (pa_cons (pe_tup (pa_cons (pe_go G_side (hr.mono (by decide)) rfl (pa_cons (pv 12) (pa_cons (pv 14) pa_nil))) (pa_cons pe_int pa_nil))) (pa_cons (pe_dget (hu_of hr) (pv 11) (pe_ix (ix_tupK (K := K) rfl) (pv 12) pe_int (fun _ _ => rfl)) (fun _ _ => rfl)) pa_nil)))))
        (pss_one (ps_expr (pe_bm PySem.F.plainAttrs_list PySem.F.slot_list_append PySem.F.type_list_append mt_append (pv 13) (pa_cons (pe_op op_cat (pv 16) (pe_lst (pa_cons (pe_go G_minus (hr.mono (by decide)) rfl (pa_cons (pe_go G_total (hr.mono (by decide)) rfl (pa_cons (pv 18) pa_nil)) (pa_cons (pe_dget2 (hu_of hr) (pv 4) (pv 14) (pe_glob (v := .ref z) rfl O.mgZ rfl) ⟨rfl, rfl, rfl, rfl⟩) pa_nil))) pa_nil))) pa_nil))))))))
      (pss_one (ps_ret (pv 13))))))))), ?_⟩
    -- size
    refine into_set (into_cb (into_args1 ⟨_, rfl, c, C, dx, fs, _, rfl, hc1, Z.cl, Z.nP, hc2, tp, ps, kvs, rfl, by rw [← eus]; exact hp, pk, fun ds nds => ?_⟩))
    have s1 := same_upd (o := .dK (mergeK [] kvs)) nds
    have h1 : DtAt K (upd H ds (.dK (mergeK [] kvs))) ds 8 (sizeT o) := by
      refine ⟨_, upd_same, ?_, (hk [] _ Holds.nil).same s1⟩
      have := length_mergeK kvs []
      rw [List.length_nil] at this
      omega
    generalize upd H ds (.dK (mergeK [] kvs)) = H1 at *
    refine into_name ?_
    dsimp only
    -- ahead
    refine into_set ⟨_, rfl, c, C, dx, fs, _, rfl, s1 _ _ hc1, Z.cl, Z.nP, hc2, _, rfl, tp, as, us, xs, rfl, .inr ⟨SqT.same s1 hp.sq, SqT.same s1 hqs, fun S nS => dc_it (walk_zipT lpx) (fun i H' => DtAt K H' S i (((o.parts.zip st).take i).foldl (fun m e => m.put e.1.1 e.2) Tab.no) ∧ Same H1 H') ⟨⟨[], upd_same, Nat.le_refl _, Holds.nil⟩, same_upd nS⟩
      (fun i H' _ ⟨_, s'⟩ => ⟨SqT.same (s1.trans s') hp.sq, SqT.same (s1.trans s') hqs⟩) ?_ ?_⟩⟩
    · rintro i x H' H'' hi ⟨hS, s'⟩ ⟨Tp, x1, x2, rfl, nT, rfl, ex1, ex2⟩
      obtain ⟨e1, ee1, t, un, rfl, ht1, _⟩ := Paired.at pp ex1
      obtain ⟨r2, er2, hr2⟩ := Paired.at prs ex2
      have s2 := same_upd (o := .tup [V.ref t, x2]) nT
      have s12 := (s1.trans s').trans s2
      refine ⟨Tp, _, rfl, SqT.of upd_same, rfl, _, _, rfl, ⟨t, _, rfl, SqT.same s12 ht1, rfl, _, _, rfl, _, _, rfl, ⟨rfl, _, _, rfl, rfl, rfl, yes_of ?_⟩⟩⟩
      obtain ⟨kv, hS3, l3, q3⟩ := hS.same s2
      refine ⟨_, rfl, _, rfl, kv, .inr e1.1, rfl, hS3, Nat.lt_of_le_of_lt l3 (Nat.lt_trans (show i < 1000000 by omega) (by decide)), ⟨_, upd_same, ?_, ?_⟩, same_but (s'.trans s2) nS⟩
      · have := length_putK kv (Sum.inr e1.1) x2
        omega
      · have ez : (o.parts.zip st)[i]? = some (e1, r2) := by
          rw [List.getElem?_zip_eq_some]
          exact ⟨ee1, er2⟩
        rw [take_next ez, List.foldl_append]
        exact (q3.put (hr2.same s12)).dict hS3
    rintro H2 ⟨h2, s2⟩
    have lz : (o.parts.zip st).length = us.length := by rw [List.length_zip]; omega
    rw [← lz, List.take_length] at h2
    have h2 : DtAt K H2 S 8 (aheadT o st) := h2.more (by omega)
    have h1 := h1.same s2
    have g2 := s1.trans s2
    refine into_name ?_
    -- given
    refine ⟨_, rfl, _, rfl, _, rfl, _, _, l, o, ties, fl, rfl, hc.same g2, ok, ⟨at', xt, rfl, SqT.same g2 hqt, prt.mono fun _ _ h => h.same g2⟩, eo.few, Same.seq g2 hl, eo.free, eo.ends, fun dg H3 s3 ndg h3 => ?_⟩
    have h1 := h1.same s3
    have h2 := h2.same s3
    have g3 := g2.trans s3
    refine into_name ?_
    dsimp only
    -- lacking
    refine into_set ⟨_, rfl, at', rfl, ⟨_, SqT.same g3 hqt⟩, fun L nL => dc_it (walk_tup (xs := xt)) (fun i H' => DtAt K H' L i (lackF o ties fl st (ties.take i)) ∧ Same H3 H') ⟨⟨[], upd_same, Nat.le_refl _, Holds.nil⟩, same_upd nL⟩ (fun i H' _ ⟨_, s'⟩ => SqT.same (g3.trans s') hqt) ?_ ?_⟩
    · rintro i x H' H'' hi ⟨hL, s'⟩ ⟨rfl, hx⟩
      obtain ⟨t, et, tt, rfl, ht⟩ := Paired.at prt hx
      have tm := List.mem_of_getElem? et
      have i0 : atI [V.str t.1, V.str t.2.1, V.str t.2.2] 0 = some (V.str t.1) := rfl
      have g4 := g3.trans s'
      obtain ⟨e1, f1⟩ := fit_at (eo.size t tm)
      obtain ⟨e2, f2⟩ := fit_at (eo.ahead t tm)
      obtain ⟨e3, f3⟩ := fit_at (eo.given t tm)
      obtain ⟨u1, gt1, q1⟩ := (h1.same s').get e1
      obtain ⟨u2, gt2, q2⟩ := (h2.same s').get e2
      obtain ⟨u3, gt3, q3⟩ := (h3.same s').get e3
      have ht4 := SqT.same g4 ht
      refine into_name ⟨rfl, yes_of ?_⟩
      refine ⟨_, rfl, tt, _, _, _, rfl, rfl, ht4, i0, ?_⟩
      refine ⟨_, rfl, _, rfl, tt, _, _, _, rfl, rfl, ht4, i0, ds, u1, rfl, gt1, ?_⟩
      refine ⟨_, rfl, _, rfl, tt, _, _, _, rfl, rfl, ht4, i0, S, u2, rfl, gt2, ?_⟩
      refine ⟨_, rfl, _, rfl, tt, _, _, _, rfl, rfl, ht4, i0, dg, u3, rfl, gt3, ?_⟩
      refine ⟨u2, u3, _, _, rfl, q2, q3, f2, f3, fun v5 H5 s5 hv5 => ?_⟩
      refine ⟨u1, v5, _, _, rfl, q1.same s5, hv5, f1, eo.step t tm, fun v6 H6 s6 hv6 => ?_⟩
      have s56 := s5.trans s6
      obtain ⟨kv, hL6, l6, q6⟩ := hL.same s56
      refine ⟨kv, .inr t.1, rfl, hL6, Nat.lt_of_le_of_lt l6 (Nat.lt_trans (show i < 1000000 by have := eo.few; omega) (by decide)), ⟨_, upd_same, ?_, ?_⟩, same_but (s'.trans s56) nL⟩
      · have := length_putK kv (Sum.inr t.1) v6
        omega
      · have e : lackF o ties fl st (ties.take (i + 1)) = (lackF o ties fl st (ties.take i)).put t.1 ((sizeT o).at t.1 * ((aheadT o st).at t.1 - (tiedT ties (zeroT o fl)).at t.1)) := by
          unfold lackF
          rw [take_next et, List.foldl_append]
          rfl
        rw [e]
        exact (q6.put hv6).dict hL6
    rintro H4 ⟨h4, s4⟩
    rw [lt, List.take_length] at h4
    have h4 : DtAt K H4 L 8 (lackT o ties fl st) := h4.more eo.few
    have h1 := h1.same s4
    have g4 := g3.trans s4
    refine into_name ?_
    -- the rows
    refine into_lst0 fun X nX => ?_
    have s5 := same_upd (o := .lst []) nX
    have h5 : (upd H4 X (.lst [])) X = some (.lst []) := upd_same
    generalize upd H4 X (.lst []) = H5 at *
    have h1 := h1.same s5
    have h4 := h4.same s5
    have g5 := g4.trans s5
    have nX0 : H X = none := g4.free nX
    refine into_name ?_
    refine ⟨_, rfl, l, rfl, ⟨_, Same.seq g5 hl⟩, for_list (xs := fl.map V.str) (fun i σ' H' => ∃ (v11 v13 v14 v15 v16 v17 : Option V), σ' = [some (.ref c), some (.ref at'), some (.ref as), some (.ref l), some (.ref tk), some (.ref ds), some (.ref S), none, none, none, some (.ref dg), some (.ref L), v11, some (.ref X), v13, v14, v15, v16, v17] ∧
      Same H H' ∧ DtAt K H' ds 8 (sizeT o) ∧ DtAt K H' L 8 (lackT o ties fl st) ∧ ∃ acc, H' X = some (.lst acc) ∧ Paired (RowX K X H') acc ((fl.take i).map (eqL o ties fl st))) ⟨_, _, _, _, _, _, rfl, g5, h1, h4, [], h5, .nil⟩ (fun i σ' H' _ ⟨_, _, _, _, _, _, _, s', _⟩ => Same.seq s' hl) ?_ ?_⟩
    · rintro i x σ' H' hx ⟨v11, v13, v14, v15, v16, v17, rfl, s', h1, h4, acc, hX, pa⟩
      obtain ⟨j, ej, rfl⟩ : ∃ j, fl[i]? = some j ∧ x = V.str j := by
        rw [List.getElem?_map] at hx
        cases q9 : fl[i]? with
        | none => rw [q9] at hx; cases hx
        | some b => rw [q9] at hx; exact ⟨b, rfl, (Option.some.inj hx).symm⟩
      have jm := List.mem_of_getElem? ej
      refine into_name ?_
      -- near
      refine into_set ⟨_, rfl, at', rfl, ⟨_, SqT.same s' hqt⟩, fun N nN => lc_it (walk_tup (xs := xt)) (fun i H3 => ∃ an, H3 N = some (.lst an) ∧ Paired (TieAt K H3) an (nearL (ties.take i) j) ∧ Same H' H3) ⟨[], upd_same, .nil, same_upd nN⟩ (fun i H3 _ ⟨_, _, _, s3⟩ => SqT.same (s'.trans s3) hqt) ?_ ?_⟩
      · rintro i2 x2 H2 H3 hi ⟨an, hN, pn, s3⟩ ⟨rfl, hx2⟩
        obtain ⟨t, et, tt, rfl, ht⟩ := Paired.at prt hx2
        have cut : cutV [V.str t.1, V.str t.2.1, V.str t.2.2] (some 1) none = [V.str t.2.1, V.str t.2.2] := rfl
        refine into_name ⟨rfl, ?_⟩
        refine ⟨_, rfl, _, rfl, 1, rfl, tt, _, rfl, SqT.same (s'.trans s3) ht, fun z => absurd z.1 (by show ¬ HT.sIx 3 0 (some 1) = 0; decide), fun q nq => ?_⟩
        have s4 := same_upd (o := .tup (cutV [V.str t.1, V.str t.2.1, V.str t.2.2] (some 1) none)) nq
        rw [cut] at s4 ⊢
        have hq4 : SqT K (upd H3 q (.tup [V.str t.2.1, V.str t.2.2])) q [V.str t.2.1, V.str t.2.2] := SqT.of upd_same
        generalize upd H3 q (.tup [V.str t.2.1, V.str t.2.2]) = H4' at *
        have hN4 := s4 _ _ hN
        refine ⟨q, _, rfl, .inr hq4, rfl, rfl, _, rfl, ?_⟩
        have ein : inV (V.str j) [V.str t.2.1, V.str t.2.2] = decide (j ∈ [t.2.1, t.2.2]) := in_strs (xs := [t.2.1, t.2.2])
        have cond : (if false = true then !inV (V.str j) [V.str t.2.1, V.str t.2.2] else inV (V.str j) [V.str t.2.1, V.str t.2.2]) = decide (j ∈ [t.2.1, t.2.2]) := by rw [if_neg (by decide), ein]
        rw [take_next et, near_snoc]
        by_cases hj : j ∈ [t.2.1, t.2.2]
        · rw [if_pos hj]
          refine if_true_of' (cond.trans (decide_eq_true hj)) ⟨_, rfl, an, hN4, ?_, an ++ [.ref tt], upd_same, ?_, same_but (s3.trans s4) nN⟩
          · have l1 := pn.length
            have l2 : (nearL (ties.take i2) j).length ≤ (ties.take i2).length := List.length_filter_le _ _
            have l3 := List.length_take_le' i2 ties
            have l4 := eo.few
            show an.length < 16777216
            omega
          · exact (pn.mono fun _ _ h => (h.same s4).list hN4).snoc ⟨tt, rfl, SqT.list hN4 (SqT.same ((s'.trans s3).trans s4) ht)⟩
        · rw [if_neg hj]
          exact no_if (cond.trans (decide_eq_false hj)) ⟨an, hN4, pn.mono fun _ _ h => h.same s4, s3.trans s4⟩
      rintro H2 ⟨an, hN, pn, s2⟩
      rw [lt, List.take_length] at pn
      have ln : an.length ≤ 8 := by
        have l1 := pn.length
        have l2 : (nearL ties j).length ≤ ties.length := List.length_filter_le _ _
        have l4 := eo.few
        omega
      have h1 := h1.same s2
      have h4 := h4.same s2
      have g2 := s'.trans s2
      refine into_name ?_
      dsimp only
      -- row
      refine into_set (comp_pure (f := fun k => sumL (weights o ties j k)) (R := StrV) (R' := RatAt K) (fun R r => ⟨_, rfl, r⟩) (Same.seq g2 hl) (strs_pair fl) (by rw [List.length_map]; have := eo.free; omega) (fun s _ _ h => h.same s) (fun _ hD _ _ h => h.list hD) (fun x3 k3 H3 W3 hx3 hk3 s3 hz3 => ?_) (fun H3 R3 accR nR s3 hR pR => ?_))
      · obtain rfl : x3 = V.str k3 := hx3
        refine ⟨rfl, into_call (into_args1 (comp_pure (f := fun t => intQ (sideZ t j * sideZ t k3) * (sizeT o).at t.1) (R := TieAt K H2) (R' := RatAt K) (fun R r => ⟨_, rfl, r⟩) (SqL.of (s3 _ _ hN)) pn (by omega) (fun s _ _ h => h.same s) (fun _ hD _ _ h => h.list hD) (fun x4 t H9 W9 ht9 hm9 s9 hz9 => ?_) (fun H9 R9 acc9 n9 s9 h9 p9 => ?_)))⟩
        · obtain ⟨e1, f1⟩ := fit_at (eo.size t (near_sub hm9))
          exact ⟨rfl, _, rfl, _, rfl, _, rfl, _, rfl, x4, t, j, k3, ds, 8, sizeT o, _, rfl, (ht9.same s3).same s9, (h1.same s3).same s9, e1, f1, fun v' H' s' hv => hz9 _ _ s' hv⟩
        · obtain ⟨w1, w2⟩ := eo.sumW j jm k3 hk3
          exact ⟨.ref R9, weights o ties j k3, rfl, ⟨R9, acc9, rfl, SqL.of h9, p9⟩, w1, w2, fun v' H8 s8 hv => hz3 _ _ (s9.trans s8) hv⟩
      have h1 := h1.same s3
      have h4 := h4.same s3
      have g3 := g2.trans s3
      refine into_name ?_
      -- made up
      refine into_set (comp_pure (f := fun t => intQ (sideZ t j) * (lackT o ties fl st).at t.1) (R := TieAt K H2) (R' := RatAt K) (fun R r => ⟨_, rfl, r⟩) (SqL.of (s3 _ _ hN)) pn (by omega) (fun s _ _ h => h.same s) (fun _ hD _ _ h => h.list hD) (fun x4 t H9 W9 ht9 hm9 s9 hz9 => ?_) (fun H4 R4 acc4 n4 s4 h4' p4 => ?_))
      · obtain ⟨e1, f1⟩ := fit_at (eo.lack t (near_sub hm9))
        obtain ⟨tt, rfl, ht⟩ := (ht9.same s3).same s9
        have i0 : atI [V.str t.1, V.str t.2.1, V.str t.2.2] 0 = some (V.str t.1) := rfl
        refine ⟨rfl, _, rfl, _, rfl, .ref tt, t, j, rfl, ⟨tt, rfl, ht⟩, by show 2 ≤ sizeLine; decide, fun p np => ?_⟩
        have s8 := same_upd (o := .tup [V.int (sideZ t j), V.int 1]) np
        have h8 : RatAt K (upd H9 p (.tup [V.int (sideZ t j), V.int 1])) (.ref p) (intQ (sideZ t j)) := int_rat (SqT.of upd_same)
        generalize upd H9 p (.tup [V.int (sideZ t j), V.int 1]) = H8 at *
        obtain ⟨u1, gt1, q1⟩ := ((h4.same s9).same s8).get e1
        exact ⟨_, rfl, _, rfl, tt, _, _, _, rfl, rfl, SqT.same s8 ht, i0, L, u1, rfl, gt1, .ref p, u1, _, _, rfl, h8, q1, int_fit (side_small t j), f1, fun v' H' s' hv => hz9 _ _ (s8.trans s') hv⟩
      have h1 := h1.same s4
      have h4 := h4.same s4
      have g4 := g3.trans s4
      refine into_name ?_
      -- the equation
      obtain ⟨w1, w2⟩ := eo.sumM j jm
      have s24 := s2.trans (s3.trans s4)
      refine into_drop1 ⟨_, rfl, .inl ⟨rfl, _, SqL.of (s24 _ _ hX)⟩, into_args1 ?_⟩
      refine ⟨_, rfl, _, rfl, _, mades o ties fl st j, rfl, ⟨R4, acc4, rfl, SqL.of h4', p4⟩, w1, w2, fun v4 H4b s4b hv4 => ?_⟩
      have htk5 := htk.same (g4.trans s4b)
      obtain ⟨ov, get, told⟩ := htk5.ask j
      obtain rfl : ov = none := told
      refine ⟨_, rfl, tk, rfl, htk5.isD, _, rfl, none, get, v4, .ref z, sumL (mades o ties fl st j), 0, rfl, hv4, O.at _, fit_all w2, ⟨by decide +kernel, by decide +kernel⟩, fun v5 H5 s5b hv5 => ⟨by show 1 ≤ sizeLine; decide, fun q nq => ?_⟩⟩
      have hv5 : RatAt K H5 v5 (sumL (mades o ties fl st j) - 0) := hv5
      rw [show sumL (mades o ties fl st j) - 0 = sumL (mades o ties fl st j) by grind] at hv5
      have s5 := s4b.trans s5b
      have s6 := same_upd (o := .lst [v5]) nq
      have hq6 : (upd H5 q (.lst [v5])) q = some (.lst [v5]) := upd_same
      generalize upd H5 q (.lst [v5]) = H6 at *
      have s36 := s4.trans (s5.trans s6)
      refine ⟨R3, q, accR, [v5], rfl, rfl, s36 _ _ hR, hq6, ?_, fun p np => ?_⟩
      · have l1 := pR.length
        rw [List.length_map] at l1
        have := eo.free
        show accR.length + 1 ≤ 16777216
        omega
      have s7 := same_upd (o := .lst (accR ++ [v5])) np
      have hp7 : (upd H6 p (.lst (accR ++ [v5]))) p = some (.lst (accR ++ [v5])) := upd_same
      have sX : Same H' H6 := s2.trans (s3.trans s36)
      have pX : p ≠ X := fun e => by
        rw [e, sX _ _ hX] at np
        cases np
      generalize upd H6 p (.lst (accR ++ [v5])) = H7 at *
      have sX7 := sX.trans s7
      have hX7 := sX7 _ _ hX
      refine ⟨X, _, _, rfl, rfl, hX7, ?_, ?_⟩
      · have l1 := pa.length
        rw [List.length_map] at l1
        have := List.length_take_le' i fl
        have := eo.free
        show acc.length < 16777216
        omega
      refine ⟨_, _, _, _, _, _, rfl, ?_, ?_, ?_, acc ++ [.ref p], upd_same, ?_⟩
      · exact same_but (s'.trans sX7) nX0
      · exact (h1.same ((s5.trans s6).trans s7)).list hX7
      · exact (h4.same ((s5.trans s6).trans s7)).list hX7
      · rw [take_next ej, List.map_append]
        refine (pa.mono fun _ _ h => (h.same sX7).list hX7).snoc (RowX.list hX7 ⟨p, accR ++ [v5], rfl, pX, SqL.of hp7, ?_⟩)
        exact (pR.mono fun _ _ h => (h.same s36).same s7).snoc ((hv5.same s6).same s7)
    · rintro σ' H' ⟨v11, v13, v14, v15, v16, v17, rfl, s', _, _, acc, hX, pa⟩
      rw [List.length_map, List.take_length] at pa
      exact ⟨_, rfl, k _ _ _ s' (SqL.of hX) (pa.mono fun _ _ ⟨a, xs, e, _, h, p⟩ => ⟨a, xs, e, h, p⟩)⟩
end
end Ct

/-! Settled potentials; what stands behind a joining. -/
namespace Ct
open PySem PySem.Spec PyProof.Rows L2 TL RZ
def wdOf (fl : List Str) : Nat := if fl = [] then 0 else fl.length + 1
def plainEq (o : Own) (ties : Ties) (fl : List Str) (st : List Rat) : List (List Rat) := plainOf (elimL (wdOf fl) ((eqsL o ties fl st).map clearedL)).2
def sols (o : Own) (ties : Ties) (fl : List Str) (st : List Rat) : List Rat := solL (plainEq o ties fl st) fl.length
def potT (o : Own) (ties : Ties) (fl : List Str) (st : List Rat) : Tab := (fl.zip (sols o ties fl st)).foldl (fun m e => m.put e.1 e.2) (givenT o)
/-- all that settling comes across -/
structure SolOk (o : Own) (ties : Ties) (fl : List Str) (st : List Rat) : Prop where
  eq : EqOk o ties fl st
  clear : ∀ r ∈ eqsL o ties fl st, ClearOk r
  elim : eqsL o ties fl st = [] ∧ wdOf fl = 0 ∨ eqsL o ties fl st ≠ [] ∧ ElimOk (wdOf fl) ((eqsL o ties fl st).map clearedL)
  begins : ∀ r ∈ plainEq o ties fl st, BeginsIn fl.length r
/-- the standing behind -/
def joinL (o : Own) (ties : Ties) (fl : List Str) (st : List Rat) : List Rat := standL o ties (potT o ties fl st) st
structure JoinOk (o : Own) (ties : Ties) (fl : List Str) (st : List Rat) : Prop where
  sol : SolOk o ties fl st
  ends : EndsIn (potT o ties fl st) ties
abbrev s_settled_potentials : Stmt := top 48
abbrev N_settled_potentials : List Str := ["circuit", "ties", "standing", "taken", "free", "potential", "equations", "junction", "number"]
theorem sc_settled_potentials : FnScope N_settled_potentials ["circuit", "ties", "standing", "taken"] (defScope s_settled_potentials) := ⟨rfl, rfl, rfl, by decide +kernel, rfl, by decide +kernel, by decide +kernel⟩
abbrev s_joined : Stmt := top 59
abbrev N_joined : List Str := ["circuit", "joining", "standing", "ties"]
theorem sc_joined : FnScope N_joined ["circuit", "joining", "standing"] (defScope s_joined) := ⟨rfl, rfl, rfl, by decide +kernel, rfl, by decide +kernel, by decide +kernel⟩
def spSettled (K : PySem.W.Frag) (C : Addr) : Sp := fun vs H Q _ => ∃ (v u y : V) (tk : Addr) (o : Own) (ties : Ties) (st : List Rat), vs = [v, u, y, .ref tk] ∧ DtAt K H tk 0 Tab.no ∧ CircN K C H v o ∧ OwnOk o ∧ TiesAt K H u ties ∧ ties.length ≤ 8 ∧ RatsAt K H y st ∧ st.length = o.parts.length ∧ (∀ fl, FreeOf o ties fl → SolOk o ties fl st) ∧
  ∀ fl d H', FreeOf o ties fl → Same H H' → H d = none → DtAt K H' d 21 (potT o ties fl st) → Q (.ref d) H'
def spJoined (K : PySem.W.Frag) (C : Addr) : Sp := fun vs H Q _ => ∃ (v y : V) (o : Own) (x : Str) (ties : Ties) (st : List Rat), vs = [v, .str x, y] ∧ CircN K C H v o ∧ OwnOk o ∧ (x, ties) ∈ o.joinings ∧ RatsAt K H y st ∧ st.length = o.parts.length ∧ (∀ fl, FreeOf o ties fl → JoinOk o ties fl st) ∧
  ∀ fl v' H', FreeOf o ties fl → Same H H' → RatsAt K H' v' (joinL o ties fl st) → Q v' H'
section
variable {P : Program} {w : World} {K : PySem.W.Frag} {mg : Str → Option Value} {base : Heap} {C z : Addr}
theorem k_settled_potentials (D : Lies K mg "settled_potentials" s_settled_potentials) (T : Plain mg) (T2 : Plain2 mg) (G_free_junctions : Keeps P w K mg base 2 "free_junctions" ["circuit", "ties"] (spFree K C)) (G_given_potentials : Keeps P w K mg base 1 "given_potentials" ["circuit"] (spGiven K C))
    (G_charge_equations : Keeps P w K mg base 5 "_charge_equations" ["circuit", "ties", "standing", "free", "taken"] (spEqs K C)) (G_solution : Keeps P w K mg base 4 "solution" ["equations", "many"] (spSolution K)) : Keeps P w K mg base 6 "settled_potentials" ["circuit", "ties", "standing", "taken"] (spSettled K C) := by
  refine D.keeps sc_settled_potentials (fun _ _ _ _ _ _ us hl => match us, hl with | [_, _, _, _], _ => rfl) (fun vs H Q E h => ?_) (fun f cdv A outer s0 H vs Q E hr h => ?_)
  · obtain ⟨v, u, y, tk, o, ties, st, rfl, _⟩ := h
    rfl
  · obtain ⟨v, u, y, tk, o, ties, st, rfl, htk, hc, ok, ht, few, hy, len, so, k⟩ := h
    refine ⟨_, (pss_cons (ps_set (i := 4) sc_settled_potentials.nd rfl (Or.inl rfl) (pe_go G_free_junctions (hr.mono (by decide)) rfl (pa_cons (pv 0) (pa_cons (pv 1) pa_nil))))
      (pss_cons (ps_set (i := 5) sc_settled_potentials.nd rfl (Or.inl rfl) (pe_go G_given_potentials (hr.mono (by decide)) rfl (pa_cons (pv 0) pa_nil)))
      (pss_cons (ps_set (i := 6) sc_settled_potentials.nd rfl (Or.inl rfl) (pe_go G_charge_equations (hr.mono (by decide)) rfl (pa_cons (pv 0) (pa_cons (pv 1) (pa_cons (pv 2) (pa_cons (pv 4) (pa_cons (pv 3) pa_nil)))))))
      (pss_cons (ps_for PassesOwn.never rfl (pi_zip rfl T2.n_zip (pa_cons (pv 4) (pa_cons (pe_go G_solution (hr.mono (by decide)) rfl (pa_cons (pv 6) (pa_cons (pe_callB call_len_seq (by rfl) T.n_len b_len (pa_cons (pv 4) pa_nil)) pa_nil))) pa_nil))) (pg_tup rfl (pgs_cons (pg_name (i := 7) sc_settled_potentials.nd rfl (Or.inl rfl)) (pgs_cons (pg_name (i := 8) sc_settled_potentials.nd rfl (Or.inl rfl)) pgs_nil)))
        (pss_one (ps_dput (hu_of hr) (pv 5) (pv 7) (pv 8) rfl)))
      (pss_one (ps_ret (pv 5))))))), ?_⟩
    refine ⟨_, rfl, _, rfl, v, u, o, ties, rfl, hc, ok, ht, few, fun l fl H1 s1 nl hl fo => ?_⟩
    have so := so fl fo
    refine into_name ?_
    refine ⟨_, rfl, v, o, rfl, hc.same s1, ok, fun d H2 s2 nd hd => ?_⟩
    have g2 := s1.trans s2
    refine into_name ?_
    refine ⟨_, rfl, _, rfl, _, rfl, _, rfl, _, rfl, v, u, y, l, tk, o, ties, fl, st, rfl, htk.same g2, hc.same g2, ok, ht.same g2, hy.same g2, len, SqL.of (s2 _ _ hl), so.eq, fun e xe H3 s3 he pe => ?_⟩
    have g3 := g2.trans s3
    have hl3 : SqL K H3 l (fl.map V.str) := SqL.of (s3 _ _ (s2 _ _ hl))
    refine into_name ?_
    refine ⟨_, rfl, _, rfl, _, rfl, l, _, rfl, .inl hl3, e, xe, eqsL o ties fl st, wdOf fl, fl.length, ?_, he, pe, so.clear, so.elim, by have := so.eq.free; omega, so.begins, fun a4 x4 H4 s4 n4 h4 p4 => ?_⟩
    · rw [List.length_map]
      rfl
    have g4 := g3.trans s4
    have hl4 := Same.seq s4 hl3
    have lx := p4.length
    have lsol : (sols o ties fl st).length = fl.length := by
      unfold sols solL
      rw [sol_len, List.length_replicate]
    have p4 : Paired (RatAt K H4) x4 (sols o ties fl st) := p4
    have lx : x4.length = fl.length := p4.length.trans lsol
    refine ⟨l, a4, _, x4, rfl, hl4, SqL.of h4, for_zipL (xs := fl.map V.str) (ys := x4) (by rw [List.length_map, lx]) (fun i σ' H' => ∃ v6 v7 : Option V, σ' = [some v, some u, some y, some (.ref tk), some (.ref l), some (.ref d), some (.ref e), v6, v7] ∧ Same H1 H' ∧ SqL K H' l (fl.map V.str) ∧ SqL K H' a4 x4 ∧ Paired (RatAt K H') x4 (sols o ties fl st) ∧ DtAt K H' d (5 + i) (((fl.zip (sols o ties fl st)).take i).foldl (fun m e => m.put e.1 e.2) (givenT o)))
      ⟨_, _, rfl, s2.trans (s3.trans s4), hl4, SqL.of h4, p4, (hd.same s3).same s4⟩ (fun i σ' H' ⟨_, _, _, _, q1, q2, _⟩ => ⟨q1, q2⟩) ?_ ?_⟩
    · rintro i x yv Tp σ' H' hx hyv ⟨v6, v7, rfl, s', q1, q2, pr, hd'⟩ nT
      obtain ⟨j, ej, rfl⟩ : ∃ j, fl[i]? = some j ∧ x = V.str j := by
        rw [List.getElem?_map] at hx
        cases q9 : fl[i]? with
        | none => rw [q9] at hx; cases hx
        | some b => rw [q9] at hx; exact ⟨b, rfl, (Option.some.inj hx).symm⟩
      obtain ⟨r, er, hr0⟩ := Paired.at pr hyv
      have s8 := same_upd (o := .tup [V.str j, yv]) nT
      have hT8 : SqT K (upd H' Tp (.tup [V.str j, yv])) Tp [V.str j, yv] := SqT.of upd_same
      generalize upd H' Tp (.tup [V.str j, yv]) = H8 at *
      refine ⟨Tp, _, rfl, hT8, rfl, _, _, rfl, _, _, rfl, ⟨rfl, ?_⟩⟩
      have il := (List.getElem?_eq_some_iff.mp ej).1
      have := so.eq.free
      have nd0 : H1 d = none := nd
      obtain ⟨H9, put, hd9, same, k1, k2, hk1, rfl⟩ := (hd'.same s8).put (x := j) (by omega) (hr0.same s8)
      have nld : l ≠ d := fun z => by
        subst z
        rw [hl] at nd
        cases nd
      have nad : a4 ≠ d := fun z => by
        subst z
        obtain ⟨kv, hk, _⟩ := hd.same s3
        rw [hk] at n4
        cases n4
      refine ⟨_, rfl, _, rfl, _, rfl, d, _, rfl, put, _, _, rfl, same _ (s'.trans s8) nd0, SqL.past nld (Same.seq s8 q1), SqL.past nad (Same.seq s8 q2), pr.mono fun _ _ h => (h.same s8).dict hk1, ?_⟩
      have ez : (fl.zip (sols o ties fl st))[i]? = some (j, r) := by
        rw [List.getElem?_zip_eq_some]
        exact ⟨ej, er⟩
      rw [take_next ez, List.foldl_append]
      exact hd9
    · rintro σ' H' ⟨v6, v7, rfl, s', q1, q2, pr, hd'⟩
      rw [List.length_map] at hd'
      have lz : (fl.zip (sols o ties fl st)).length = fl.length := by rw [List.length_zip, lsol, Nat.min_self]
      rw [← lz, List.take_length, lz] at hd'
      exact ⟨_, rfl, k fl _ _ fo (s1.trans s') (s1.free nd) (hd'.more (by have := so.eq.free; omega))⟩
theorem k_joined (D : Lies K mg "joined" s_joined) (T : Plain mg) (G_check_joining : Keeps P w K mg base 2 "check_joining" ["circuit", "value"] (spCheckJoi K C)) (G_check_standing : Keeps P w K mg base 4 "check_standing" ["circuit", "value"] (spCheckRow K C)) (G_ties_of : Keeps P w K mg base 1 "ties_of" ["circuit", "joining"] (spTiesOf K C))
    (G_settled_potentials : Keeps P w K mg base 6 "settled_potentials" ["circuit", "ties", "standing", "taken"] (spSettled K C)) (G_standing_at : Keeps P w K mg base 4 "standing_at" ["circuit", "ties", "potential", "standing"] (spStand K C)) : Keeps P w K mg base 7 "joined" ["circuit", "joining", "standing"] (spJoined K C) := by
  refine D.keeps sc_joined (fun _ _ _ _ _ _ us hl => match us, hl with | [_, _, _], _ => rfl) (fun vs H Q E h => ?_) (fun f cdv A outer s0 H vs Q E hr h => ?_)
  · obtain ⟨v, y, o, x, ties, st, rfl, _⟩ := h
    rfl
  · obtain ⟨v, y, o, x, ties, st, rfl, hc, ok, hx, hy, len, jo, k⟩ := h
    have few := (ok.joi _ hx).few
    refine ⟨_, (pss_cons (ps_expr (pe_go G_check_joining (hr.mono (by decide)) rfl (pa_cons (pv 0) (pa_cons (pv 1) pa_nil))))
      (pss_cons (ps_expr (pe_go G_check_standing (hr.mono (by decide)) rfl (pa_cons (pv 0) (pa_cons (pv 2) pa_nil))))
      (pss_cons (ps_set (i := 3) sc_joined.nd rfl (Or.inl rfl) (pe_go G_ties_of (hr.mono (by decide)) rfl (pa_cons (pv 0) (pa_cons (pv 1) pa_nil))))
      (pss_one (ps_ret (pe_go G_standing_at (hr.mono (by decide)) rfl (pa_cons (pv 0) (pa_cons (pv 3) (pa_cons (pe_go G_settled_potentials (hr.mono (by decide)) rfl (pa_cons (pv 0) (pa_cons (pv 3) (pa_cons (pv 2) (pa_cons pe_dnewK pa_nil))))) (pa_cons (pv 2) pa_nil)))))))))), ?_⟩
    refine into_drop ⟨_, rfl, _, rfl, v, o, x, rfl, hc, ok, List.mem_map_of_mem (f := (·.1)) hx, fun H1 s1 => ?_⟩
    refine into_drop ⟨_, rfl, _, rfl, v, y, o, st, rfl, hc.same s1, ok, hy.same s1, len, fun H2 s2 => ?_⟩
    have g2 := s1.trans s2
    refine ⟨_, rfl, _, rfl, v, o, x, ties, rfl, hc.same g2, ok, hx, fun u H3 s3 hu => ?_⟩
    have g3 := g2.trans s3
    refine into_name ?_
    refine ⟨_, rfl, _, rfl, _, rfl, _, rfl, _, rfl, fun tk ntk => ?_⟩
    have s3b := same_upd (o := .dK []) ntk
    have htk : DtAt K (upd H3 tk (.dK [])) tk 0 Tab.no := ⟨[], upd_same, Nat.le_refl _, Holds.nil⟩
    have hu := hu.same s3b
    have g3 := g3.trans s3b
    refine ⟨v, u, y, tk, o, ties, st, rfl, htk, hc.same g3, ok, hu, few, hy.same g3, len, fun fl fo => (jo fl fo).sol, fun fl d H4 fo s4 nd hd => ?_⟩
    have g4 := g3.trans s4
    exact ⟨_, rfl, v, u, y, d, 21, o, ties, _, st, rfl, hc.same g4, ok, hu.same s4, few, hd, (jo fl fo).ends, hy.same g4, len, fun v' H5 s5 hv => k fl v' H5 fo (g4.trans s5) hv⟩
end
end Ct

/-! Rows, number by number. -/
namespace Ct
open PySem PySem.Spec PyProof.Rows L2 TL RZ
def diffL (a b : List Rat) : List Rat := List.zipWith (fun x y => x - y) a b
def prodL (a b : List Rat) : List Rat := List.zipWith (fun x y => x * y) a b
def chargeL (o : Own) (a : List Rat) : List Rat := List.zipWith (fun (p : Str × Int × Int) x => ratF p.2 * x) o.parts a
def Fits4 (a : List Rat) : Prop := ∀ r ∈ a, FitR 4400 r
abbrev s_difference : Stmt := top 54
abbrev N_difference : List Str := ["row", "other", "number", "less"]
theorem sc_difference : FnScope N_difference ["row", "other"] (defScope s_difference) := ⟨rfl, rfl, rfl, by decide +kernel, rfl, by decide +kernel, by decide +kernel⟩
abbrev s_inner : Stmt := top 55
abbrev N_inner : List Str := ["row", "other", "number", "factor"]
theorem sc_inner : FnScope N_inner ["row", "other"] (defScope s_inner) := ⟨rfl, rfl, rfl, by decide +kernel, rfl, by decide +kernel, by decide +kernel⟩
abbrev s_charges : Stmt := top 56
abbrev N_charges : List Str := ["circuit", "row", "_", "size", "number"]
theorem sc_charges : FnScope N_charges ["circuit", "row"] (defScope s_charges) := ⟨rfl, rfl, rfl, by decide +kernel, rfl, by decide +kernel, by decide +kernel⟩
def spDiff (K : PySem.W.Frag) : Sp := fun vs H Q _ => ∃ (u v : V) (a b : List Rat), vs = [u, v] ∧ RatsAt K H u a ∧ RatsAt K H v b ∧ a.length = b.length ∧ a.length ≤ 100 ∧ Fits4 a ∧ Fits4 b ∧ ∀ v' H', Same H H' → RatsAt K H' v' (diffL a b) → Q v' H'
def spInner (K : PySem.W.Frag) : Sp := fun vs H Q _ => ∃ (u v : V) (a b : List Rat), vs = [u, v] ∧ RatsAt K H u a ∧ RatsAt K H v b ∧ a.length = b.length ∧ a.length ≤ 100 ∧ Fits4 a ∧ Fits4 b ∧ SumOk (prodL a b) ∧ ∀ v' H', Same H H' → RatAt K H' v' (sumL (prodL a b)) → Q v' H'
def spCharges (K : PySem.W.Frag) (C : Addr) : Sp := fun vs H Q _ => ∃ (v u : V) (o : Own) (a : List Rat), vs = [v, u] ∧ CircN K C H v o ∧ OwnOk o ∧ RatsAt K H u a ∧ a.length = o.parts.length ∧ Fits4 a ∧ ∀ v' H', Same H H' → RatsAt K H' v' (chargeL o a) → Q v' H'
section
variable {P : Program} {w : World} {K : PySem.W.Frag} {mg : Str → Option Value} {base : Heap} {C z : Addr}
/-- a comprehension over two tuples side by side, of rationals -/
theorem comp_two {g : TG} {te : TE} {vs : List Nat} {σ : L2.St} {H1 : Hp} {D a b : Addr} {xs ys : List V} {A B : Type} {as : List A} {bs : List B} {R : V → A → Prop} {S : V → B → Prop} {f : A → B → Rat} {Qd : Hp → Prop} (nD : H1 D = none)
    (hl : xs.length = ys.length) (few : xs.length < 1000000) (ha : SqT K H1 a xs) (hb : SqT K H1 b ys) (pa : Paired R xs as) (pb : Paired S ys bs)
    (turn : ∀ x e y c T H (Z : VK), R x e → e ∈ as → S y c → c ∈ bs → Same H1 H → SqT K H T [x, y] → (∀ v H4, Same H H4 → RatAt K H4 v (f e c) → Z v H4) → g (.ref T) (wipe σ vs) H fun σ2 H2 => wipe σ2 vs = wipe σ vs ∧ te σ2 H2 Z)
    (hd : ∀ H acc, Same H1 H → H D = some (.lst acc) → Paired (RatAt K H) acc (List.zipWith f as bs) → Qd H) :
    ∃ W : Nat → Nat → Hp → Prop, (∃ m, W 0 m (upd H1 D (.lst []))) ∧ ∀ i m H, W i m H →
      ((ItzT K a b).stop i H ∧ Qd H) ∨ ((ItzT K a b).go i H ∧ ∃ Nx : Hp → Prop, (∀ H', Nx H' → ∃ m', m' < m ∧ W (i + 1) m' H') ∧ ∀ x H', (ItzT K a b).yld i H x H' → g x (wipe σ vs) H' fun σ2 H2 => wipe σ2 vs = wipe σ vs ∧ tYes σ2 H2 fun b H3 =>
        if b = true then te σ2 H3 fun y H4 => ∃ acc, H4 D = some (.lst acc) ∧ acc.length < sizeLine ∧ Nx (upd H4 D (.lst (acc ++ [y]))) else Nx H3) := by
  have lz : (List.zipWith f as bs).length = xs.length := by
    rw [List.length_zipWith, ← pa.length, ← pb.length]
    omega
  refine lc_it (walk_zipT hl) (fun i H' => ∃ acc, H' D = some (.lst acc) ∧ Paired (RatAt K H') acc ((List.zipWith f as bs).take i) ∧ Same H1 H') ⟨[], upd_same, .nil, same_upd nD⟩ (fun i H' _ ⟨_, _, _, s'⟩ => ⟨SqT.same s' ha, SqT.same s' hb⟩) ?_ ?_
  · rintro i x H' H'' hi ⟨acc, hD, pac, s'⟩ ⟨T, x1, x2, rfl, nT, rfl, ex1, ex2⟩
    obtain ⟨e, ee, re⟩ := Paired.at pa ex1
    obtain ⟨c, ec, sc⟩ := Paired.at pb ex2
    have s2 := same_upd (o := .tup [x1, x2]) nT
    have hT : SqT K (upd H' T (.tup [x1, x2])) T [x1, x2] := SqT.of upd_same
    generalize upd H' T (.tup [x1, x2]) = H2 at *
    have step := turn x1 e x2 c T H2 (fun y H4 => ∃ acc, H4 D = some (.lst acc) ∧ acc.length < sizeLine ∧ ∃ acc', (upd H4 D (.lst (acc ++ [y]))) D = some (.lst acc') ∧ Paired (RatAt K (upd H4 D (.lst (acc ++ [y])))) acc' ((List.zipWith f as bs).take (i + 1)) ∧ Same H1 (upd H4 D (.lst (acc ++ [y])))) re (List.mem_of_getElem? ee) sc (List.mem_of_getElem? ec) (s'.trans s2) hT ?_
    · exact step
    · intro v H4 s4 hv
      have hD4 := s4 _ _ (s2 _ _ hD)
      refine ⟨acc, hD4, ?_, acc ++ [v], upd_same, ?_, same_but ((s'.trans s2).trans s4) nD⟩
      · have l1 := pac.length
        have l2 := List.length_take_le' i (List.zipWith f as bs)
        have l3 := List.length_take_le i (List.zipWith f as bs)
        show acc.length < 16777216
        omega
      · have en : (List.zipWith f as bs)[i]? = some (f e c) := by rw [List.getElem?_zipWith, ee, ec]
        rw [take_next en]
        exact (pac.mono fun _ _ h => ((h.same s2).same s4).list hD4).snoc (hv.list hD4)
  · rintro H' ⟨acc, hD, pac, s'⟩
    rw [← lz, List.take_length] at pac
    exact hd H' acc s' hD pac
theorem k_difference (D : Lies K mg "difference" s_difference) (T : Plain mg) (T2 : Plain2 mg) (G_minus : Keeps P w K mg base 2 "minus" ["one", "other"] (spRat2 K fun r s => r - s)) : Keeps P w K mg base 3 "difference" ["row", "other"] (spDiff K) := by
  refine D.keeps sc_difference (fun _ _ _ _ _ _ us hl => match us, hl with | [_, _], _ => rfl) (fun vs H Q E h => ?_) (fun f cdv A outer s0 H vs Q E hr h => ?_)
  · obtain ⟨u, v, a, b, rfl, _⟩ := h
    rfl
  · obtain ⟨u, v, a, b, rfl, ⟨p, xs, rfl, hp, pa⟩, ⟨q, ys, rfl, hq, pb⟩, hl, few, fa, fb, k⟩ := h
    have la := pa.length
    have lb := pb.length
    refine ⟨_, (pss_one (ps_ret (pe_callTy call_tuple_of (by rfl) T.n_tuple b_tuple (pa_cons (pe_lc (own := [("number", 2), ("less", 3)]) (g := gTup K 2 (gCons (gName 2) (gCons (gName 3) gNil))) (tt := tYes) rfl sc_difference.nd (RZ.pi_zipA rfl T2.n_zip (pa_cons (pv 0) (pa_cons (pv 1) pa_nil))) (blkOk_by (N := N_difference) (sc := defScope s_difference) (by decide +kernel)) (fun _ _ _ _ _ => pg_tup rfl (pgs_cons (pg_name (i := 2) sc_difference.nd rfl (Or.inl rfl)) (pgs_cons (pg_name (i := 3) sc_difference.nd rfl (Or.inl rfl)) pgs_nil))) (fun _ _ _ _ _ => pts_nil) (fun _ _ _ _ _ => by exact (pe_go G_minus (hr.mono (by decide)) rfl (pa_cons (pv 2) (pa_cons (pv 3) pa_nil))))) pa_nil)))), ?_⟩
    refine into_ret (into_cb (into_args1 ?_))
    refine ⟨_, rfl, _, rfl, p, q, xs, ys, rfl, .inr ⟨hp, hq, fun S nS => comp_two (f := fun x y => x - y) nS (by omega) (by omega) hp hq pa pb (fun x e y c Tp H2 W re he rc hcm s2 hT hz => ?_) (fun H2 acc s2 hS pS => ?_)⟩⟩
    · exact ⟨Tp, _, rfl, hT, rfl, _, _, rfl, _, _, rfl, ⟨rfl, rfl, _, rfl, _, rfl, x, y, e, c, rfl, re.same s2, rc.same s2, fa e he, fb c hcm, fun v' H' s' hv => hz v' H' s' hv⟩⟩
    · refine ⟨S, acc, rfl, .inl ⟨SqL.of hS, fun l nl => ?_⟩⟩
      have s3 := same_upd (o := .tup acc) nl
      exact k _ _ (s2.trans s3) ⟨l, acc, rfl, SqT.of upd_same, pS.mono fun _ _ h => h.same s3⟩
theorem k_charges (D : Lies K mg "charges" s_charges) (T : Plain mg) (T2 : Plain2 mg) (Z : ClassT K mg C) (G_times : Keeps P w K mg base 2 "times" ["one", "other"] (spRat2 K fun r s => r * s)) : Keeps P w K mg base 3 "charges" ["circuit", "row"] (spCharges K C) := by
  refine D.keeps sc_charges (fun _ _ _ _ _ _ us hl => match us, hl with | [_, _], _ => rfl) (fun vs H Q E h => ?_) (fun f cdv A outer s0 H vs Q E hr h => ?_)
  · obtain ⟨v, u, o, a, rfl, _⟩ := h
    rfl
  · obtain ⟨v, u, o, a, rfl, hc, ok, ⟨q, ys, rfl, hq, pb⟩, hl, fa, k⟩ := h
    obtain ⟨c, dx, fs, tp, us, rfl, hc1, hc2, hp, pp⟩ := hc.prt
    have la := pp.length
    have lb := pb.length
    have few := ok.p_few
    refine ⟨_, (pss_one (ps_ret (pe_callTy call_tuple_of (by rfl) T.n_tuple b_tuple (pa_cons (pe_lc (own := [("number", 4), ("_", 2), ("size", 3)]) (g := gTup K 2 (gCons (gTup K 2 (gCons (gName 2) (gCons (gName 3) gNil))) (gCons (gName 4) gNil))) (tt := tYes) rfl sc_charges.nd (RZ.pi_zipA rfl T2.n_zip (pa_cons (pe_fld (pv 0) rfl) (pa_cons (pv 1) pa_nil))) (blkOk_by (N := N_charges) (sc := defScope s_charges) (by decide +kernel)) (fun _ _ _ _ _ => pg_tup rfl (pgs_cons (pg_tup rfl (pgs_cons (pg_name (i := 2) sc_charges.nd rfl (Or.inl rfl)) (pgs_cons (pg_name (i := 3) sc_charges.nd rfl (Or.inl rfl)) pgs_nil))) (pgs_cons (pg_name (i := 4) sc_charges.nd rfl (Or.inl rfl)) pgs_nil))) (fun _ _ _ _ _ => pts_nil) (fun _ _ _ _ _ => by exact (pe_go G_times (hr.mono (by decide)) rfl (pa_cons (pv 3) (pa_cons (pv 4) pa_nil))))) pa_nil)))), ?_⟩
    refine into_ret (into_cb (into_args1 ?_))
    refine ⟨_, rfl, c, C, dx, fs, _, rfl, hc1, Z.cl, Z.nP, hc2, _, rfl, tp, q, us, ys, rfl, .inr ⟨hp.sq, hq, fun S nS => comp_two (f := fun (p : Str × Int × Int) x => ratF p.2 * x) nS (by omega) (by omega) hp.sq hq pp pb (fun x e y c2 Tp H2 W re he rc hcm s2 hT hz => ?_) (fun H2 acc s2 hS pS => ?_)⟩⟩
    · obtain ⟨t, un, rfl, ht, hu⟩ := re
      have fo := (ok.prt e he).2.1
      exact ⟨Tp, _, rfl, hT, rfl, _, _, rfl, ⟨t, _, rfl, SqT.same s2 ht, rfl, _, _, rfl, _, _, rfl, ⟨rfl, _, _, rfl, rfl, rfl, _, rfl, _, rfl, un, y, _, c2, rfl, (hu.rat fo).same s2, rc.same s2, (ratF_fit fo).more (by decide), fa c2 hcm, fun v' H' s' hv => hz v' H' s' hv⟩⟩⟩
    · refine ⟨S, acc, rfl, .inl ⟨SqL.of hS, fun l nl => ?_⟩⟩
      have s3 := same_upd (o := .tup acc) nl
      exact k _ _ (s2.trans s3) ⟨l, acc, rfl, SqT.of upd_same, pS.mono fun _ _ h => h.same s3⟩
theorem k_inner (D : Lies K mg "inner" s_inner) (T : Plain mg) (T2 : Plain2 mg) (G_times : Keeps P w K mg base 2 "times" ["one", "other"] (spRat2 K fun r s => r * s)) (G_total : Keeps P w K mg base 3 "total" ["numbers"] (spTotal K)) : Keeps P w K mg base 4 "inner" ["row", "other"] (spInner K) := by
  refine D.keeps sc_inner (fun _ _ _ _ _ _ us hl => match us, hl with | [_, _], _ => rfl) (fun vs H Q E h => ?_) (fun f cdv A outer s0 H vs Q E hr h => ?_)
  · obtain ⟨u, v, a, b, rfl, _⟩ := h
    rfl
  · obtain ⟨u, v, a, b, rfl, ⟨p, xs, rfl, hp, pa⟩, ⟨q, ys, rfl, hq, pb⟩, hl, few, fa, fb, sum, k⟩ := h
    have la := pa.length
    have lb := pb.length
    refine ⟨_, (pss_one (ps_ret (pe_go G_total (hr.mono (by decide)) rfl (pa_cons (pe_lc (own := [("number", 2), ("factor", 3)]) (g := gTup K 2 (gCons (gName 2) (gCons (gName 3) gNil))) (tt := tYes) rfl sc_inner.nd (RZ.pi_zipA rfl T2.n_zip (pa_cons (pv 0) (pa_cons (pv 1) pa_nil))) (blkOk_by (N := N_inner) (sc := defScope s_inner) (by decide +kernel)) (fun _ _ _ _ _ => pg_tup rfl (pgs_cons (pg_name (i := 2) sc_inner.nd rfl (Or.inl rfl)) (pgs_cons (pg_name (i := 3) sc_inner.nd rfl (Or.inl rfl)) pgs_nil))) (fun _ _ _ _ _ => pts_nil) (fun _ _ _ _ _ => by exact (pe_go G_times (hr.mono (by decide)) rfl (pa_cons (pv 2) (pa_cons (pv 3) pa_nil))))) pa_nil)))), ?_⟩
    refine into_ret (into_call (into_args1 ?_))
    refine ⟨_, rfl, _, rfl, p, q, xs, ys, rfl, .inr ⟨hp, hq, fun S nS => comp_two (f := fun x y => x * y) nS (by omega) (by omega) hp hq pa pb (fun x e y c Tp H2 W re he rc hcm s2 hT hz => ?_) (fun H2 acc s2 hS pS => ?_)⟩⟩
    · exact ⟨Tp, _, rfl, hT, rfl, _, _, rfl, _, _, rfl, ⟨rfl, rfl, _, rfl, _, rfl, x, y, e, c, rfl, re.same s2, rc.same s2, fa e he, fb c hcm, fun v' H' s' hv => hz v' H' s' hv⟩⟩
    · exact ⟨.ref S, prodL a b, rfl, ⟨S, acc, rfl, SqL.of hS, pS⟩, sum.1, sum.2, fun v' H' s' hv => k v' H' (s2.trans s') hv⟩
end
end Ct

/-! What fits, what flows, what is lost, potentials. -/
namespace Ct
open PySem PySem.Spec PyProof.Rows L2 TL RZ
def ratsD (rs : List Rat) : PyData := .tuple (rs.map ratD)
theorem dpAll_rats {K : PySem.W.Frag} {H : Hp} : ∀ {xs : List V} {rs : List Rat}, Paired (RatAt K H) xs rs → DpAll K H xs (rs.map ratD)
  | _, _, .nil => .nil
  | _, _, .cons h t => .cons h.dp (dpAll_rats t)
theorem RatsAt.dp {K : PySem.W.Frag} {H : Hp} {v : V} {rs : List Rat} : RatsAt K H v rs → Dp K H v (ratsD rs) := fun ⟨a, xs, e, h, p⟩ => e ▸ .tup h (dpAll_rats p)
theorem ratD_lay (r : Rat) : (ratD r).canLay0 = true := rfl
theorem rats_lay : ∀ rs : List Rat, PyData.canLayAll0 (rs.map ratD) = true
  | [] => by simp [PyData.canLayAll0]
  | r :: rs => by
    have h := rats_lay rs
    have g := ratD_lay r
    simp only [List.map_cons, PyData.canLayAll0, g, h, Bool.and_self]
theorem rats_depth : ∀ rs : List Rat, PyData.depthAll (rs.map ratD) ≤ 2
  | [] => by simp [PyData.depthAll]
  | r :: rs => by
    have h1 := rats_depth rs
    have h2 : (ratD r).depth ≤ 2 := by show _ ≤ 2; simp [ratD, PyData.depth, PyData.depthAll]
    simp only [List.map_cons, PyData.depthAll]
    omega
theorem ratsD_shaped (rs : List Rat) : SeqAt.shaped (ratsD rs) = true := by
  have h2 : PyData.depth (ratsD rs) ≤ 64 := by
    have := rats_depth rs
    unfold ratsD
    simp only [PyData.depth]
    omega
  show (PyData.canLay0 (ratsD rs) && decide (PyData.depth (ratsD rs) ≤ 64)) = true
  rw [Bool.and_eq_true]
  exact ⟨by unfold ratsD; simp only [PyData.canLay0]; exact rats_lay rs, decide_eq_true h2⟩
theorem rats_eqv : ∀ a b : List Rat, PyData.eqvAll (a.map ratD) (b.map ratD) = decide (a = b)
  | [], [] => by simp [PyData.eqvAll]
  | [], y :: b => by simp [PyData.eqvAll]
  | x :: a, [] => by simp [PyData.eqvAll]
  | x :: a, y :: b => by
    simp only [List.map_cons, PyData.eqvAll, ratD_eqv, rats_eqv a b, List.cons.injEq]
    by_cases h1 : x = y <;> by_cases h2 : a = b <;> simp [h1, h2]
theorem ratsD_eqv (a b : List Rat) : PyData.eqv (ratsD a) (ratsD b) = decide (a = b) := by
  unfold ratsD
  simp only [PyData.eqv]
  exact rats_eqv a b
/-- rows whose square can be told -/
structure SqOk (o : Own) (row : List Rat) : Prop where
  fit : Fits4 row
  chg : Fits4 (chargeL o row)
  sum : SumOk (prodL (chargeL o row) row)
def sqR (o : Own) (row : List Rat) : Rat := sumL (prodL (chargeL o row) row)
/-- told pairs of a junction and its potential -/
def PotsAt (K : PySem.W.Frag) (H : Hp) (v : V) (es : List (Str × Rat)) : Prop := ∃ a xs, v = .ref a ∧ SqT K H a xs ∧ Paired (fun v (e : Str × Rat) => ∃ t u, v = .ref t ∧ SqT K H t [.str e.1, u] ∧ RatAt K H u e.2) xs es
abbrev s_does_fit : Stmt := top 58
abbrev N_does_fit : List Str := ["circuit", "joining", "standing"]
theorem sc_does_fit : FnScope N_does_fit ["circuit", "joining", "standing"] (defScope s_does_fit) := ⟨rfl, rfl, rfl, by decide +kernel, rfl, by decide +kernel, by decide +kernel⟩
abbrev s_flow : Stmt := top 60
abbrev N_flow : List Str := ["circuit", "joining", "standing", "behind"]
theorem sc_flow : FnScope N_flow ["circuit", "joining", "standing"] (defScope s_flow) := ⟨rfl, rfl, rfl, by decide +kernel, rfl, by decide +kernel, by decide +kernel⟩
abbrev s_lost : Stmt := top 61
abbrev N_lost : List Str := ["circuit", "joining", "standing", "behind"]
theorem sc_lost : FnScope N_lost ["circuit", "joining", "standing"] (defScope s_lost) := ⟨rfl, rfl, rfl, by decide +kernel, rfl, by decide +kernel, by decide +kernel⟩
abbrev s_square : Stmt := top 62
abbrev N_square : List Str := ["circuit", "row"]
theorem sc_square : FnScope N_square ["circuit", "row"] (defScope s_square) := ⟨rfl, rfl, rfl, by decide +kernel, rfl, by decide +kernel, by decide +kernel⟩
abbrev s_potentials : Stmt := top 63
abbrev N_potentials : List Str := ["circuit", "joining", "standing", "ties", "potential", "junction"]
theorem sc_potentials : FnScope N_potentials ["circuit", "joining", "standing"] (defScope s_potentials) := ⟨rfl, rfl, rfl, by decide +kernel, rfl, by decide +kernel, by decide +kernel⟩
def spFit (K : PySem.W.Frag) (C : Addr) : Sp := fun vs H Q _ => ∃ (v y : V) (o : Own) (x : Str) (ties : Ties) (st : List Rat), vs = [v, .str x, y] ∧ CircN K C H v o ∧ OwnOk o ∧ (x, ties) ∈ o.joinings ∧ RatsAt K H y st ∧ st.length = o.parts.length ∧ (∀ fl, FreeOf o ties fl → JoinOk o ties fl st) ∧
  ∀ fl H', FreeOf o ties fl → Same H H' → Q (.bl (decide (joinL o ties fl st = st))) H'
def spFlow (K : PySem.W.Frag) (C : Addr) : Sp := fun vs H Q _ => ∃ (v y : V) (o : Own) (x : Str) (ties : Ties) (st : List Rat), vs = [v, .str x, y] ∧ CircN K C H v o ∧ OwnOk o ∧ (x, ties) ∈ o.joinings ∧ RatsAt K H y st ∧ st.length = o.parts.length ∧ Fits4 st ∧ (∀ fl, FreeOf o ties fl → JoinOk o ties fl st ∧ Fits4 (joinL o ties fl st) ∧ Fits4 (diffL (joinL o ties fl st) st)) ∧
  ∀ fl v' H', FreeOf o ties fl → Same H H' → RatsAt K H' v' (chargeL o (diffL (joinL o ties fl st) st)) → Q v' H'
def spSquare (K : PySem.W.Frag) (C : Addr) : Sp := fun vs H Q _ => ∃ (v y : V) (o : Own) (row : List Rat), vs = [v, y] ∧ CircN K C H v o ∧ OwnOk o ∧ RatsAt K H y row ∧ row.length = o.parts.length ∧ SqOk o row ∧ ∀ v' H', Same H H' → RatAt K H' v' (sqR o row) → Q v' H'
def spLost (K : PySem.W.Frag) (C : Addr) : Sp := fun vs H Q _ => ∃ (v y : V) (o : Own) (x : Str) (ties : Ties) (st : List Rat), vs = [v, .str x, y] ∧ CircN K C H v o ∧ OwnOk o ∧ (x, ties) ∈ o.joinings ∧ RatsAt K H y st ∧ st.length = o.parts.length ∧ Fits4 st ∧ (∀ fl, FreeOf o ties fl → JoinOk o ties fl st ∧ Fits4 (joinL o ties fl st) ∧ SqOk o (diffL (joinL o ties fl st) st)) ∧
  ∀ fl v' H', FreeOf o ties fl → Same H H' → RatAt K H' v' (sqR o (diffL (joinL o ties fl st) st)) → Q v' H'
def spPots (K : PySem.W.Frag) (C : Addr) : Sp := fun vs H Q _ => ∃ (v y : V) (o : Own) (x : Str) (ties : Ties) (st : List Rat), vs = [v, .str x, y] ∧ CircN K C H v o ∧ OwnOk o ∧ (x, ties) ∈ o.joinings ∧ RatsAt K H y st ∧ st.length = o.parts.length ∧
  (∀ fl, FreeOf o ties fl → JoinOk o ties fl st ∧ joinL o ties fl st = st ∧ ∀ j ∈ fl, ∃ r, potT o ties fl st j = some r) ∧
  ∀ fl fl' v' H', FreeOf o ties fl → FreeOf o ties fl' → Same H H' → PotsAt K H' v' (fl'.map fun j => (j, (potT o ties fl st).at j)) → Q v' H'
theorem join_len {o : Own} {ties : Ties} {fl : List Str} {st : List Rat} (h : st.length = o.parts.length) : (joinL o ties fl st).length = o.parts.length := by
  unfold joinL standL
  rw [List.length_zipWith]
  omega
theorem diff_len {a b : List Rat} (h : a.length = b.length) : (diffL a b).length = b.length := by
  unfold diffL
  rw [List.length_zipWith]
  omega
theorem charge_len {o : Own} {a : List Rat} (h : a.length = o.parts.length) : (chargeL o a).length = o.parts.length := by
  unfold chargeL
  rw [List.length_zipWith]
  omega
section
variable {P : Program} {w : World} {K : PySem.W.Frag} {mg : Str → Option Value} {base : Heap} {C z : Addr}
theorem k_does_fit (D : Lies K mg "does_fit" s_does_fit) (T : Plain mg) (G_joined : Keeps P w K mg base 7 "joined" ["circuit", "joining", "standing"] (spJoined K C)) : Keeps P w K mg base 8 "does_fit" ["circuit", "joining", "standing"] (spFit K C) := by
  refine D.keeps sc_does_fit (fun _ _ _ _ _ _ us hl => match us, hl with | [_, _, _], _ => rfl) (fun vs H Q E h => ?_) (fun f cdv A outer s0 H vs Q E hr h => ?_)
  · obtain ⟨v, y, o, x, ties, st, rfl, _⟩ := h
    rfl
  · obtain ⟨v, y, o, x, ties, st, rfl, hc, ok, hx, hy, len, jo, k⟩ := h
    refine ⟨_, (pss_one (ps_ret (pe_cmpR (op_eqD hr.units) (pe_go G_joined (hr.mono (by decide)) rfl (pa_cons (pv 0) (pa_cons (pv 1) (pa_cons (pv 2) pa_nil)))) (pv 2) (nomark _)))), ?_⟩
    refine ⟨_, rfl, _, rfl, _, rfl, v, y, o, x, ties, st, rfl, hc, ok, hx, hy, len, jo, fun fl v' H1 fo s1 hv => ?_⟩
    refine ⟨_, rfl, ratsD (joinL o ties fl st), ratsD st, hv.dp, (hy.same s1).dp, ratsD_shaped _, ratsD_shaped _, ?_⟩
    rw [ratsD_eqv]
    exact k fl H1 fo s1
theorem k_flow (D : Lies K mg "flow" s_flow) (T : Plain mg) (G_joined : Keeps P w K mg base 7 "joined" ["circuit", "joining", "standing"] (spJoined K C)) (G_difference : Keeps P w K mg base 3 "difference" ["row", "other"] (spDiff K)) (G_charges : Keeps P w K mg base 3 "charges" ["circuit", "row"] (spCharges K C)) :
    Keeps P w K mg base 8 "flow" ["circuit", "joining", "standing"] (spFlow K C) := by
  refine D.keeps sc_flow (fun _ _ _ _ _ _ us hl => match us, hl with | [_, _, _], _ => rfl) (fun vs H Q E h => ?_) (fun f cdv A outer s0 H vs Q E hr h => ?_)
  · obtain ⟨v, y, o, x, ties, st, rfl, _⟩ := h
    rfl
  · obtain ⟨v, y, o, x, ties, st, rfl, hc, ok, hx, hy, len, fit, jo, k⟩ := h
    have few := ok.p_few
    refine ⟨_, (pss_cons (ps_set (i := 3) sc_flow.nd rfl (Or.inl rfl) (pe_go G_joined (hr.mono (by decide)) rfl (pa_cons (pv 0) (pa_cons (pv 1) (pa_cons (pv 2) pa_nil)))))
      (pss_one (ps_ret (pe_go G_charges (hr.mono (by decide)) rfl (pa_cons (pv 0) (pa_cons (pe_go G_difference (hr.mono (by decide)) rfl (pa_cons (pv 3) (pa_cons (pv 2) pa_nil))) pa_nil)))))), ?_⟩
    refine ⟨_, rfl, _, rfl, _, rfl, v, y, o, x, ties, st, rfl, hc, ok, hx, hy, len, fun fl fo => (jo fl fo).1, fun fl v1 H1 fo s1 h1 => ?_⟩
    obtain ⟨_, f1, f2⟩ := jo fl fo
    have lj := join_len (ties := ties) (fl := fl) len
    refine into_name ?_
    refine ⟨_, rfl, _, rfl, _, rfl, v1, y, _, st, rfl, h1, hy.same s1, by omega, by omega, f1, fit, fun v2 H2 s2 h2 => ?_⟩
    exact ⟨v, v2, o, _, rfl, hc.same (s1.trans s2), ok, h2, by rw [diff_len (by omega)]; exact len, f2, fun v3 H3 s3 h3 => k fl v3 H3 fo (s1.trans (s2.trans s3)) h3⟩
theorem k_square (D : Lies K mg "square" s_square) (T : Plain mg) (G_check_row : Keeps P w K mg base 4 "check_row" ["circuit", "value"] (spCheckRow K C)) (G_charges : Keeps P w K mg base 3 "charges" ["circuit", "row"] (spCharges K C)) (G_inner : Keeps P w K mg base 4 "inner" ["row", "other"] (spInner K)) :
    Keeps P w K mg base 5 "square" ["circuit", "row"] (spSquare K C) := by
  refine D.keeps sc_square (fun _ _ _ _ _ _ us hl => match us, hl with | [_, _], _ => rfl) (fun vs H Q E h => ?_) (fun f cdv A outer s0 H vs Q E hr h => ?_)
  · obtain ⟨v, y, o, row, rfl, _⟩ := h
    rfl
  · obtain ⟨v, y, o, row, rfl, hc, ok, hy, len, sq, k⟩ := h
    have few := ok.p_few
    refine ⟨_, (pss_cons (ps_expr (pe_go G_check_row (hr.mono (by decide)) rfl (pa_cons (pv 0) (pa_cons (pv 1) pa_nil))))
      (pss_one (ps_ret (pe_go G_inner (hr.mono (by decide)) rfl (pa_cons (pe_go G_charges (hr.mono (by decide)) rfl (pa_cons (pv 0) (pa_cons (pv 1) pa_nil))) (pa_cons (pv 1) pa_nil)))))), ?_⟩
    refine into_drop ⟨_, rfl, _, rfl, v, y, o, row, rfl, hc, ok, hy, len, fun H1 s1 => ?_⟩
    refine ⟨_, rfl, _, rfl, v, y, o, row, rfl, hc.same s1, ok, hy.same s1, len, sq.fit, fun v2 H2 s2 h2 => ?_⟩
    have lc := charge_len len
    exact ⟨_, rfl, v2, y, _, row, rfl, h2, hy.same (s1.trans s2), by omega, by omega, sq.chg, sq.fit, sq.sum, fun v3 H3 s3 h3 => k v3 H3 (s1.trans (s2.trans s3)) h3⟩
theorem k_lost (D : Lies K mg "lost" s_lost) (T : Plain mg) (G_joined : Keeps P w K mg base 7 "joined" ["circuit", "joining", "standing"] (spJoined K C)) (G_difference : Keeps P w K mg base 3 "difference" ["row", "other"] (spDiff K)) (G_square : Keeps P w K mg base 5 "square" ["circuit", "row"] (spSquare K C)) :
    Keeps P w K mg base 8 "lost" ["circuit", "joining", "standing"] (spLost K C) := by
  refine D.keeps sc_lost (fun _ _ _ _ _ _ us hl => match us, hl with | [_, _, _], _ => rfl) (fun vs H Q E h => ?_) (fun f cdv A outer s0 H vs Q E hr h => ?_)
  · obtain ⟨v, y, o, x, ties, st, rfl, _⟩ := h
    rfl
  · obtain ⟨v, y, o, x, ties, st, rfl, hc, ok, hx, hy, len, fit, jo, k⟩ := h
    have few := ok.p_few
    refine ⟨_, (pss_cons (ps_set (i := 3) sc_lost.nd rfl (Or.inl rfl) (pe_go G_joined (hr.mono (by decide)) rfl (pa_cons (pv 0) (pa_cons (pv 1) (pa_cons (pv 2) pa_nil)))))
      (pss_one (ps_ret (pe_go G_square (hr.mono (by decide)) rfl (pa_cons (pv 0) (pa_cons (pe_go G_difference (hr.mono (by decide)) rfl (pa_cons (pv 3) (pa_cons (pv 2) pa_nil))) pa_nil)))))), ?_⟩
    refine ⟨_, rfl, _, rfl, _, rfl, v, y, o, x, ties, st, rfl, hc, ok, hx, hy, len, fun fl fo => (jo fl fo).1, fun fl v1 H1 fo s1 h1 => ?_⟩
    obtain ⟨_, f1, f2⟩ := jo fl fo
    have lj := join_len (ties := ties) (fl := fl) len
    refine into_name ?_
    refine ⟨_, rfl, _, rfl, _, rfl, v1, y, _, st, rfl, h1, hy.same s1, by omega, by omega, f1, fit, fun v2 H2 s2 h2 => ?_⟩
    exact ⟨v, v2, o, _, rfl, hc.same (s1.trans s2), ok, h2, by rw [diff_len (by omega)]; exact len, f2, fun v3 H3 s3 h3 => k fl v3 H3 fo (s1.trans (s2.trans s3)) h3⟩
theorem k_potentials (D : Lies K mg "potentials" s_potentials) (T : Plain mg) (G_check_joining : Keeps P w K mg base 2 "check_joining" ["circuit", "value"] (spCheckJoi K C)) (G_check_standing : Keeps P w K mg base 4 "check_standing" ["circuit", "value"] (spCheckRow K C)) (G_ties_of : Keeps P w K mg base 1 "ties_of" ["circuit", "joining"] (spTiesOf K C))
    (G_settled_potentials : Keeps P w K mg base 6 "settled_potentials" ["circuit", "ties", "standing", "taken"] (spSettled K C)) (G_standing_at : Keeps P w K mg base 4 "standing_at" ["circuit", "ties", "potential", "standing"] (spStand K C)) (G_free_junctions : Keeps P w K mg base 2 "free_junctions" ["circuit", "ties"] (spFree K C)) :
    Keeps P w K mg base 7 "potentials" ["circuit", "joining", "standing"] (spPots K C) := by
  refine D.keeps sc_potentials (fun _ _ _ _ _ _ us hl => match us, hl with | [_, _, _], _ => rfl) (fun vs H Q E h => ?_) (fun f cdv A outer s0 H vs Q E hr h => ?_)
  · obtain ⟨v, y, o, x, ties, st, rfl, _⟩ := h
    rfl
  · obtain ⟨v, y, o, x, ties, st, rfl, hc, ok, hx, hy, len, jo, k⟩ := h
    have few := (ok.joi _ hx).few
    refine ⟨_, (pss_cons (ps_expr (pe_go G_check_joining (hr.mono (by decide)) rfl (pa_cons (pv 0) (pa_cons (pv 1) pa_nil))))
      (pss_cons (ps_expr (pe_go G_check_standing (hr.mono (by decide)) rfl (pa_cons (pv 0) (pa_cons (pv 2) pa_nil))))
      (pss_cons (ps_set (i := 3) sc_potentials.nd rfl (Or.inl rfl) (pe_go G_ties_of (hr.mono (by decide)) rfl (pa_cons (pv 0) (pa_cons (pv 1) pa_nil))))
      (pss_cons (ps_set (i := 4) sc_potentials.nd rfl (Or.inr rfl) (pe_go G_settled_potentials (hr.mono (by decide)) rfl (pa_cons (pv 0) (pa_cons (pv 3) (pa_cons (pv 2) (pa_cons pe_dnewK pa_nil))))))
      (pss_cons (ps_if (pt_cmpR (op_neD hr.units) (pe_go G_standing_at (hr.mono (by decide)) rfl (pa_cons (pv 0) (pa_cons (pv 3) (pa_cons (pv 4) (pa_cons (pv 2) pa_nil))))) (pv 2) (nomark _))
        (pss_one (ps_never))
        pss_nil)
      (pss_one (ps_ret (pe_callTy call_tuple_of (by rfl) T.n_tuple b_tuple (pa_cons (pe_lc (own := [("junction", 5)]) (g := gName 5) (tt := tYes) rfl sc_potentials.nd (pi_list (pe_go G_free_junctions (hr.mono (by decide)) rfl (pa_cons (pv 0) (pa_cons (pv 3) pa_nil)))) (blkOk_by (N := N_potentials) (sc := defScope s_potentials) (by decide +kernel)) (fun _ _ _ _ _ => pg_name (i := 5) sc_potentials.nd rfl (Or.inl rfl)) (fun _ _ _ _ _ => pts_nil) (fun _ _ _ _ _ => by exact (pe_tup (pa_cons (pv 5) (pa_cons (pe_dget (hu_of hr) (pv 4) (pv 5) (fun _ _ => rfl)) pa_nil))))) pa_nil))))))))), ?_⟩
    refine into_drop ⟨_, rfl, _, rfl, v, o, x, rfl, hc, ok, List.mem_map_of_mem (f := (·.1)) hx, fun H1 s1 => ?_⟩
    refine into_drop ⟨_, rfl, _, rfl, v, y, o, st, rfl, hc.same s1, ok, hy.same s1, len, fun H2 s2 => ?_⟩
    have g2 := s1.trans s2
    refine ⟨_, rfl, _, rfl, v, o, x, ties, rfl, hc.same g2, ok, hx, fun u H3 s3 hu => ?_⟩
    have g3 := g2.trans s3
    refine into_name ?_
    refine ⟨_, rfl, _, rfl, _, rfl, fun tk ntk => ?_⟩
    have s3b := same_upd (o := .dK []) ntk
    have htk : DtAt K (upd H3 tk (.dK [])) tk 0 Tab.no := ⟨[], upd_same, Nat.le_refl _, Holds.nil⟩
    have hu := hu.same s3b
    have g3 := g3.trans s3b
    refine ⟨v, u, y, tk, o, ties, st, rfl, htk, hc.same g3, ok, hu, few, hy.same g3, len, fun fl fo => (jo fl fo).1.sol, fun fl d H4 fo s4 nd hd => ?_⟩
    obtain ⟨j1, j2, j3⟩ := jo fl fo
    have g4 := g3.trans s4
    refine into_name ?_
    dsimp only
    refine into_if ⟨_, rfl, _, rfl, _, rfl, _, rfl, v, u, y, d, 21, o, ties, _, st, rfl, hc.same g4, ok, hu.same s4, few, hd, j1.ends, hy.same g4, len, fun v5 H5 s5 h5 => ?_⟩
    refine ⟨_, rfl, ratsD (joinL o ties fl st), ratsD st, RatsAt.dp h5, (hy.same (g4.trans s5)).dp, ratsD_shaped _, ratsD_shaped _, false, ?_, iteF ?_⟩
    · rw [ratsD_eqv, decide_eq_true j2]
      rfl
    refine into_next ?_
    dsimp only
    have g5 := g4.trans s5
    refine into_ret (into_cb (into_args1 ?_))
    refine ⟨_, rfl, _, rfl, v, u, o, ties, rfl, hc.same g5, ok, hu.same (s4.trans s5), few, fun l fl' H6 s6 nl hl fo' => ?_⟩
    have hd6 := (hd.same s5).same s6
    have same_free : ∀ j ∈ fl', j ∈ fl := fun j hj => (fo.mem j).mpr ((fo'.mem j).mp hj)
    have lf : fl'.length < 1000000 := by
      have h16 := j1.sol.eq.free
      have : fl'.length ≤ fl.length := by
        have p := perm_sub fl' fl fo'.once same_free
        rcases Nat.lt_or_ge fl.length fl'.length with z | z
        · exact absurd (p (Nat.le_of_lt z)).length_eq (Nat.ne_of_lt z)
        · exact z
      omega
    refine ⟨l, rfl, ⟨_, SqL.of hl⟩, fun S nS => lc_list (xs := fl'.map V.str) (fun i H' => ∃ acc, H' S = some (.lst acc) ∧ Paired (fun v (e : Str × Rat) => ∃ t u, v = .ref t ∧ SqT K H' t [.str e.1, u] ∧ RatAt K H' u e.2) acc ((fl'.take i).map fun j => (j, (potT o ties fl st).at j)) ∧ Same H6 H') ⟨[], upd_same, .nil, same_upd nS⟩
      (fun i H' _ ⟨_, _, _, s'⟩ => SqL.of (s' _ _ hl)) ?_ ?_⟩
    · rintro i x9 H' hx9 ⟨acc, hS, pa, s'⟩
      obtain ⟨j, ej, rfl⟩ : ∃ j, fl'[i]? = some j ∧ x9 = V.str j := by
        rw [List.getElem?_map] at hx9
        cases q9 : fl'[i]? with
        | none => rw [q9] at hx9; cases hx9
        | some b => rw [q9] at hx9; exact ⟨b, rfl, (Option.some.inj hx9).symm⟩
      obtain ⟨r, er⟩ := j3 j (same_free j (List.mem_of_getElem? ej))
      obtain ⟨u9, g9, q9⟩ := (hd6.same s').get er
      refine into_name ⟨rfl, yes_of ?_⟩
      refine ⟨_, rfl, _, rfl, _, rfl, d, u9, rfl, g9, by show 2 ≤ sizeLine; decide, fun p np => ?_⟩
      have s8 := same_upd (o := .tup [V.str j, u9]) np
      have h8 : SqT K (upd H' p (.tup [V.str j, u9])) p [V.str j, u9] := SqT.of upd_same
      generalize upd H' p (.tup [V.str j, u9]) = H8 at *
      have hS8 := s8 _ _ hS
      refine ⟨acc, hS8, ?_, acc ++ [.ref p], upd_same, ?_, same_but (s'.trans s8) nS⟩
      · have l1 := pa.length
        rw [List.length_map] at l1
        have := List.length_take_le' i fl'
        show acc.length < 16777216
        omega
      · rw [take_next ej, List.map_append]
        refine (pa.mono fun _ _ ⟨t, u, e, h, q⟩ => ⟨t, u, e, SqT.list hS8 (SqT.same s8 h), (q.same s8).list hS8⟩).snoc ⟨p, u9, rfl, SqT.list hS8 h8, ?_⟩
        show RatAt K _ u9 ((potT o ties fl st).at j)
        rw [at_of er]
        exact (q9.same s8).list hS8
    · rintro H' ⟨acc, hS, pa, s'⟩
      rw [List.length_map, List.take_length] at pa
      refine ⟨S, acc, rfl, .inl ⟨SqL.of hS, fun l2 nl2 => ?_⟩⟩
      have s9 := same_upd (o := .tup acc) nl2
      exact k fl fl' _ _ fo fo' (g5.trans (s6.trans (s'.trans s9))) ⟨l2, acc, rfl, SqT.of upd_same, pa.mono fun _ _ ⟨t, u, e, h, q⟩ => ⟨t, u, e, SqT.same s9 h, q.same s9⟩⟩
end
end Ct

/-! A circuit made; its parts' tuple has no dict of its own. -/
namespace Ct
open PySem PySem.Spec PyProof.Rows L2 TL
def spInitN (K : PySem.W.Frag) (C : Addr) : Sp := fun vs H Q _ => ∃ (H0 : Hp) (x dx : Addr) (o : Own), vs = [.ref x, .str (textOf o)] ∧ Same H0 H ∧ H0 x = none ∧ H x = some (.ins C dx []) ∧ OwnOk o ∧ ∀ H', Same H0 H' → CircN K C H' (.ref x) o → Q .non H'
section
variable {P : Program} {w : World} {K : PySem.W.Frag} {mg : Str → Option Value} {base : Heap}
theorem k_initN {f C : Addr} {fd : FuncData} (F : Fun K "__init__" "Circuit.__init__" s_Circuit_init f fd) (Z : ClassT K mg C) (T : Plain mg) (G_read_lines : Keeps P w K mg base 6 "_read_lines" ["lines"] (spReadLines K)) : FnOk P w K mg base CX0 7 f fd ["self", "text"] (spInitN K C) := by
  refine F.ok sc_Circuit_init (fun vs H Q E h => ?_) (fun cdv A outer s0 H vs Q E hr h => ?_)
  · obtain ⟨H0, x, dx, o, rfl, _⟩ := h
    rfl
  · obtain ⟨H0, x, dx, o, rfl, s00, x0, hx, ok, k⟩ := h
    refine ⟨_, (pss_cons (ps_if (pt_not (pt_val (pe_callB call_isi (by rfl) T.n_isinstance b_isinstance (pa_cons (pv 1) (pa_cons (pe_bltn (v := .ty "str") (by rfl) T.n_str b_str rfl) pa_nil)))))
        (pss_one (ps_never))
        pss_nil)
      (pss_cons (ps_asg (pe_go G_read_lines (hr.mono (by decide)) rfl (pa_cons (pe_split (pv 1) pe_str) pa_nil)) (pg_tup rfl (pgs_cons (pg_name (i := 2) sc_Circuit_init.nd rfl (Or.inl rfl)) (pgs_cons (pg_name (i := 3) sc_Circuit_init.nd rfl (Or.inl rfl)) (pgs_cons (pg_name (i := 4) sc_Circuit_init.nd rfl (Or.inl rfl)) pgs_nil)))))
      (pss_cons (ps_fld (pv 0) (pv 1) rfl)
      (pss_cons (ps_fld (pv 0) (pe_callTy call_tuple_of (by rfl) T.n_tuple b_tuple (pa_cons (pv 2) pa_nil)) rfl)
      (pss_cons (ps_fld (pv 0) (pe_callTy call_tupleN (by rfl) T.n_tuple b_tuple (pa_cons (pv 3) pa_nil)) rfl)
      (pss_one (ps_fld (pv 0) (pe_callTy call_tuple_of (by rfl) T.n_tuple b_tuple (pa_cons (pe_lc (own := [("name", 5), ("ties", 6)]) (g := gTup K 2 (gCons (gName 5) (gCons (gName 6) gNil))) (tt := tYes) rfl sc_Circuit_init.nd (pi_list (pv 4)) (blkOk_by (N := N_Circuit_init) (sc := defScope s_Circuit_init) (by decide +kernel)) (fun _ _ _ _ _ => pg_tup rfl (pgs_cons (pg_name (i := 5) sc_Circuit_init.nd rfl (Or.inl rfl)) (pgs_cons (pg_name (i := 6) sc_Circuit_init.nd rfl (Or.inl rfl)) pgs_nil))) (fun _ _ _ _ _ => pts_nil) (fun _ _ _ _ _ => by exact (pe_tup (pa_cons (pv 5) (pa_cons (pe_tupleK (K := K) rfl rfl T.n_tuple (pa_cons (pv 6) pa_nil)) pa_nil))))) pa_nil)) rfl))))))), ?_⟩
    refine ⟨_, rfl, _, _, _, _, true, rfl, .ty _, .base (.str _), kit_ty (by decide +kernel), true, rfl, iteF ?_⟩
    refine ⟨_, rfl, ⟨_, rfl⟩, _, _, rfl, rfl, by rw [nl_len]; rfl, text_len ok, fun q nq => ?_⟩
    rw [text_split ok, rows_lines]
    have sq := same_upd (o := .lst ((("circuit" : Str) :: (linesOf o).map Line.text).map V.str)) nq
    refine ⟨q, linesOf o, rfl, SqL.of upd_same, fits_lines ok, lines_few ok, line_short ok, ?_, fun t s p j G1 H1 sG ac ht => ?_⟩
    · rw [fold_lines]
      intro z
      have := ok.j_some
      rw [z] at this
      exact absurd this (by decide)
    rw [fold_lines] at ac
    have s01 : Same H H1 := sq.trans (sG.trans ac.sub)
    have hx1 := s01 _ _ hx
    obtain ⟨vS, hS, pS⟩ := ac.src
    obtain ⟨vP, hP, pP⟩ := ac.prt
    obtain ⟨vJ, hJ, pJ⟩ := ac.jr
    have pS1 : Paired (EntAt K H1) vS o.sources := pS.mono fun _ _ h => h.same ac.sub
    have pP1 : Paired (EntAt K H1) vP o.parts := pP.mono fun _ _ h => h.same ac.sub
    have z01 : Same H0 H1 := s00.trans s01
    refine ⟨t, _, rfl, SqT.of ht, rfl, _, _, rfl, _, _, rfl, _, _, rfl, ⟨rfl, ?_⟩⟩
    -- self.text
    refine ⟨_, rfl, _, rfl, x, C, dx, [], rfl, hx1, Z.cl, Z.nT, by show 0 < 1000; decide, ?_⟩
    generalize hf1 : putF "text" (V.str (textOf o)) [] = f1
    have x2 : (upd H1 x (.ins C dx f1)) x = some (.ins C dx f1) := upd_same
    have z2 : Same H0 (upd H1 x (.ins C dx f1)) := same_but z01 x0
    have S2 : Paired (EntAt K (upd H1 x (.ins C dx f1))) vS o.sources := pS1.mono fun _ _ h => h.ins hx1
    have P2 : Paired (EntAt K (upd H1 x (.ins C dx f1))) vP o.parts := pP1.mono fun _ _ h => h.ins hx1
    have J2 : Paired (JrAt K (upd H1 x (.ins C dx f1))) vJ o.joinings := pJ.mono fun _ _ h => h.ins hx1
    have nx : ∀ {l : Addr} {tv : List V}, H1 l = some (.lst tv) → l ≠ x := fun h => ne_of h hx1 (by intro z; cases z)
    have hS2 : (upd H1 x (.ins C dx f1)) s = some (.lst vS) := (upd_ne (nx hS)).trans hS
    have hP2 : (upd H1 x (.ins C dx f1)) p = some (.lst vP) := (upd_ne (nx hP)).trans hP
    have hJ2 : (upd H1 x (.ins C dx f1)) j = some (.lst vJ) := (upd_ne (nx hJ)).trans hJ
    generalize upd H1 x (.ins C dx f1) = H2 at *
    -- self.sources
    refine ⟨_, rfl, s, _, rfl, .inl ⟨SqL.of hS2, fun ts nts => ?_⟩⟩
    have s3 := same_upd (o := .tup vS) nts
    have x3 := s3 _ _ x2
    refine ⟨_, rfl, x, C, dx, f1, rfl, x3, Z.cl, Z.nS, by rw [← hf1]; show 1 < 1000; decide, ?_⟩
    have q3 : (upd H2 ts (.tup vS)) ts = some (.tup vS) := upd_same
    generalize hf2 : putF "sources" (V.ref ts) f1 = f2
    have z4 : Same H0 (upd (upd H2 ts (.tup vS)) x (.ins C dx f2)) := same_but (z2.trans s3) x0
    have x4 : (upd (upd H2 ts (.tup vS)) x (.ins C dx f2)) x = some (.ins C dx f2) := upd_same
    have Q4 : SqT K (upd (upd H2 ts (.tup vS)) x (.ins C dx f2)) ts vS := SqT.ins x3 (SqT.of q3)
    have S4 : Paired (EntAt K (upd (upd H2 ts (.tup vS)) x (.ins C dx f2))) vS o.sources := S2.mono fun _ _ h => (h.same s3).ins x3
    have P4 : Paired (EntAt K (upd (upd H2 ts (.tup vS)) x (.ins C dx f2))) vP o.parts := P2.mono fun _ _ h => (h.same s3).ins x3
    have J4 : Paired (JrAt K (upd (upd H2 ts (.tup vS)) x (.ins C dx f2))) vJ o.joinings := J2.mono fun _ _ h => (h.same s3).ins x3
    have nx4 : ∀ {l : Addr} {tv : List V}, H2 l = some (.lst tv) → l ≠ x := fun h => ne_of h x2 (by intro z; cases z)
    have hP4 : (upd (upd H2 ts (.tup vS)) x (.ins C dx f2)) p = some (.lst vP) := (upd_ne (nx4 hP2)).trans (s3 _ _ hP2)
    have hJ4 : (upd (upd H2 ts (.tup vS)) x (.ins C dx f2)) j = some (.lst vJ) := (upd_ne (nx4 hJ2)).trans (s3 _ _ hJ2)
    generalize upd (upd H2 ts (.tup vS)) x (.ins C dx f2) = H4 at *
    -- self.parts
    refine ⟨_, rfl, p, _, rfl, SqL.of hP4, fun tp od ntp odn odc => ?_⟩
    have s5 := same_upd (o := .frz od (.tup vP)) ntp
    have x5 := s5 _ _ x4
    refine ⟨_, rfl, x, C, dx, f2, rfl, x5, Z.cl, Z.nP, by rw [← hf2, ← hf1]; exact few2 _ _, ?_⟩
    have q5 : (upd H4 tp (.frz od (.tup vP))) tp = some (.frz od (.tup vP)) := upd_same
    have tpx : tp ≠ x := fun z => by rw [z, x4] at ntp; cases ntp
    generalize hf3 : putF "parts" (V.ref tp) f2 = f3
    have z6 : Same H0 (upd (upd H4 tp (.frz od (.tup vP))) x (.ins C dx f3)) := same_but (z4.trans s5) x0
    have x6 : (upd (upd H4 tp (.frz od (.tup vP))) x (.ins C dx f3)) x = some (.ins C dx f3) := upd_same
    have Q6 : SqT K (upd (upd H4 tp (.frz od (.tup vP))) x (.ins C dx f3)) ts vS := SqT.ins x5 (SqT.same s5 Q4)
    have R6 : (upd (upd H4 tp (.frz od (.tup vP))) x (.ins C dx f3)) tp = some (.frz od (.tup vP)) := (upd_ne tpx).trans q5
    have S6 : Paired (EntAt K (upd (upd H4 tp (.frz od (.tup vP))) x (.ins C dx f3))) vS o.sources := S4.mono fun _ _ h => (h.same s5).ins x5
    have P6 : Paired (EntAt K (upd (upd H4 tp (.frz od (.tup vP))) x (.ins C dx f3))) vP o.parts := P4.mono fun _ _ h => (h.same s5).ins x5
    have J6 : Paired (JrAt K (upd (upd H4 tp (.frz od (.tup vP))) x (.ins C dx f3))) vJ o.joinings := J4.mono fun _ _ h => (h.same s5).ins x5
    have nx6 : ∀ {l : Addr} {tv : List V}, H4 l = some (.lst tv) → l ≠ x := fun h => ne_of h x4 (by intro z; cases z)
    have hJ6 : (upd (upd H4 tp (.frz od (.tup vP))) x (.ins C dx f3)) j = some (.lst vJ) := (upd_ne (nx6 hJ4)).trans (s5 _ _ hJ4)
    generalize upd (upd H4 tp (.frz od (.tup vP))) x (.ins C dx f3) = H6 at *
    -- self.joinings
    dsimp only
    refine into_fld (into_cb (into_args1 (comp_pure (f := fun e : Str × List (Str × Str × Str) => e) (R := JrAt K H6) (R' := fun H' => JoTAt K H') (fun R r => ⟨_, rfl, r⟩) (SqL.of hJ6) J6 ?_ (fun s _ _ h => h.same s) (fun _ hD _ _ h => h.list hD) (fun v e Hi W r he si hz => ?_) (fun H7 D acc hD s7 hL hp => ?_))))
    · rw [J6.length]
      exact Nat.lt_of_le_of_lt ok.j_few (by decide)
    · obtain ⟨t, l, tv, rfl, ht, hl, ties⟩ := r
      refine ⟨t, _, rfl, SqT.same si ht, rfl, _, _, rfl, _, _, rfl, ⟨rfl, rfl, ?_⟩⟩
      refine ⟨_, rfl, _, rfl, l, tv, rfl, .inl ⟨Same.seq si hl, fun l2 nl2 => ⟨by show 2 ≤ sizeLine; decide, fun t2 nt2 => ?_⟩⟩⟩
      have sa := same_upd (o := .tup tv) nl2
      have sb := same_upd (o := .tup [V.str e.1, V.ref l2]) nt2
      exact hz _ _ (sa.trans sb) ⟨t2, l2, tv, rfl, SqT.of upd_same, SqT.of (sb _ _ upd_same), ties.mono fun _ _ h => h.same (si.trans (sa.trans sb))⟩
    · rw [List.map_id'] at hp
      refine ⟨D, _, rfl, .inl ⟨SqL.of hL, fun tj ntj => ?_⟩⟩
      have s8 := same_upd (o := .tup acc) ntj
      have x8 := s8 _ _ (s7 _ _ x6)
      refine ⟨_, rfl, x, C, dx, f3, rfl, x8, Z.cl, Z.nJ, by rw [← hf3, ← hf2, ← hf1]; exact few3 _ _ _, ?_⟩
      have s68 := s7.trans s8
      refine k _ (same_but (z6.trans s68) x0) ⟨x, dx, _, ts, tp, tj, vS, vP, acc, rfl, upd_same, ?_, ?_, ?_, ?_, SqT.ins x8 (SqT.same s68 Q6), ⟨od, (upd_ne tpx).trans (s68 _ _ R6), odn, odc⟩, SqT.ins x8 (SqT.of upd_same), S6.mono fun _ _ h => (h.same s68).ins x8, P6.mono fun _ _ h => (h.same s68).ins x8, hp.mono fun _ _ h => (h.same s8).ins x8⟩
      all_goals rw [← hf3, ← hf2, ← hf1]
      all_goals simp only [lookup_putF]
      · simp [f_ts, f_tp, f_tj]
      · simp [f_sp, f_sj]
      · simp [f_pj]
      · simp
end
end Ct

/-! The law's own fractions, as rationals. -/
namespace Ct
open PySem PySem.Spec PyProof.Rows L2 TL RZ
abbrev s_l_frac_plus : Stmt := top 84
abbrev N_l_frac_plus : List Str := ["one", "other"]
theorem sc_l_frac_plus : FnScope N_l_frac_plus ["one", "other"] (defScope s_l_frac_plus) := ⟨rfl, rfl, rfl, by decide +kernel, rfl, by decide +kernel, by decide +kernel⟩
abbrev s_l_frac_less : Stmt := top 85
abbrev N_l_frac_less : List Str := ["one", "other"]
theorem sc_l_frac_less : FnScope N_l_frac_less ["one", "other"] (defScope s_l_frac_less) := ⟨rfl, rfl, rfl, by decide +kernel, rfl, by decide +kernel, by decide +kernel⟩
abbrev s_l_frac_times : Stmt := top 86
abbrev N_l_frac_times : List Str := ["one", "other"]
theorem sc_l_frac_times : FnScope N_l_frac_times ["one", "other"] (defScope s_l_frac_times) := ⟨rfl, rfl, rfl, by decide +kernel, rfl, by decide +kernel, by decide +kernel⟩
abbrev s_l_frac_sum : Stmt := top 87
abbrev N_l_frac_sum : List Str := ["some", "found", "one"]
theorem sc_l_frac_sum : FnScope N_l_frac_sum ["some"] (defScope s_l_frac_sum) := ⟨rfl, rfl, rfl, by decide +kernel, rfl, by decide +kernel, by decide +kernel⟩
def spLRat (K : PySem.W.Frag) : Sp := fun vs H Q _ => ∃ a b : Int, vs = [.int a, .int b] ∧ b ≠ 0 ∧ b.natAbs < 2 ^ 8999 ∧ ∀ v' H', Same H H' → RatAt K H' v' (Rat.divInt a b) → Q v' H'
section
variable {P : Program} {w : World} {K : PySem.W.Frag} {mg : Str → Option Value} {base : Heap}
theorem k_lfrac (D : Lies K mg "_law_frac" s_l_frac) (T : Plain mg) (G_l_frac_common : Keeps P w K mg base 1 "_law_frac_common" ["one", "other"] spCommon) : Keeps P w K mg base 2 "_law_frac" ["top", "bottom"] (spLRat K) := by
  refine D.keeps sc_l_frac (fun _ _ _ _ _ _ us hl => match us, hl with | [_, _], _ => rfl) (fun vs H Q E h => ?_) (fun f cdv A outer s H vs Q E hr h => ?_)
  · obtain ⟨x, y, rfl, _⟩ := h
    rfl
  · obtain ⟨a, b, rfl, b0, b1, k⟩ := h
    have g0 := gcdZ_pos (a := a) (b := b) (by omega)
    have eg : ((Int.gcd a b : Nat) : Int) = gcdZ a b := rfl
    refine ⟨_, (pss_cons (ps_set (i := 2) sc_l_frac.nd rfl (Or.inl rfl) (pe_go G_l_frac_common (hr.mono (by decide)) rfl (pa_cons (pv 0) (pa_cons (pv 1) pa_nil))))
      (pss_cons (ps_set (i := 2) sc_l_frac.nd rfl (Or.inl rfl) (pe_ifExp (pt_cmpR op_gt (pv 1) pe_int (nomark _)) (pv 2) (pe_un un_neg (pv 2))))
      (pss_one (ps_ret (pe_tup (pa_cons (pe_op op_quo (pv 0) (pv 2)) (pa_cons (pe_op op_quo (pv 1) (pv 2)) pa_nil))))))), ?_⟩
    refine ⟨_, rfl, _, rfl, a, b, rfl, _, rfl, _, _, rfl, rfl, _, rfl, ?_⟩
    rw [eg]
    by_cases hb : 0 < b
    · obtain ⟨e1, e2⟩ := ratio_pos (a := a) hb
      have cq := quo_ok (g := gcdZ a b) (by omega) (gcdZ_right a b) (by omega) b1
      refine if_true_of' (decide_eq_true hb) ⟨_, rfl, _, rfl, _, rfl, _, _, rfl, rfl, cq _, _, rfl, _, rfl, _, _, rfl, rfl, cq _, by show 2 ≤ sizeLine; decide, fun t nt => ?_⟩
      have z := k (.ref t) _ (same_upd (o := .tup [.int (Rat.divInt a b).num, .int ((Rat.divInt a b).den : Int)]) nt) ⟨t, rfl, SqT.of upd_same⟩
      rw [← e1, ← e2] at z
      exact z
    · obtain ⟨e1, e2⟩ := ratio_neg (a := a) (b := b) (by omega)
      have cq := quo_ok (g := -gcdZ a b) (by omega) (Int.neg_dvd.mpr (gcdZ_right a b)) (by omega) b1
      refine no_if (decide_eq_false hb) ⟨_, rfl, _, rfl, _, rfl, _, rfl, _, _, rfl, rfl, cq _, _, rfl, _, rfl, _, _, rfl, rfl, cq _, by show 2 ≤ sizeLine; decide, fun t nt => ?_⟩
      have z := k (.ref t) _ (same_upd (o := .tup [.int (Rat.divInt a b).num, .int ((Rat.divInt a b).den : Int)]) nt) ⟨t, rfl, SqT.of upd_same⟩
      rw [← e1, ← e2] at z
      exact z
theorem dens_pos (r s : Rat) : (0 : Int) < (r.den : Int) * s.den := Int.mul_pos (by have := r.den_pos; omega) (by have := s.den_pos; omega)
theorem k_lplus (D : Lies K mg "_law_frac_plus" s_l_frac_plus) (T : Plain mg) (G_l_frac : Keeps P w K mg base 2 "_law_frac" ["top", "bottom"] (spLRat K)) : Keeps P w K mg base 3 "_law_frac_plus" ["one", "other"] (spRat2 K fun r s => r + s) := by
  refine D.keeps sc_l_frac_plus (fun _ _ _ _ _ _ us hl => match us, hl with | [_, _], _ => rfl) (fun vs H Q E h => ?_) (fun f cdv A outer s0 H vs Q E hr h => ?_)
  · obtain ⟨v, u, r, s, rfl, _⟩ := h
    rfl
  · obtain ⟨v, u, r, s, rfl, ⟨t, rfl, ht⟩, ⟨x, rfl, hx⟩, fr, fs, k⟩ := h
    refine ⟨_, (pss_one (ps_ret (pe_go G_l_frac (hr.mono (by decide)) rfl (pa_cons (pe_op op_add (pe_op op_mulB (pe_ix ix_tup (pv 0) pe_int (fun _ _ => rfl)) (pe_ix ix_tup (pv 1) pe_int (fun _ _ => rfl))) (pe_op op_mulB (pe_ix ix_tup (pv 1) pe_int (fun _ _ => rfl)) (pe_ix ix_tup (pv 0) pe_int (fun _ _ => rfl)))) (pa_cons (pe_op op_mulB (pe_ix ix_tup (pv 0) pe_int (fun _ _ => rfl)) (pe_ix ix_tup (pv 1) pe_int (fun _ _ => rfl))) pa_nil))))), ?_⟩
    refine ⟨_, rfl, t, _, _, _, rfl, rfl, ht, rfl, _, rfl, x, _, _, _, rfl, rfl, hx, rfl, _, _, rfl, rfl, mul_ok fr.1 (den_nat fs), _, rfl, x, _, _, _, rfl, rfl, hx, rfl, _, rfl, t, _, _, _, rfl, rfl, ht, rfl, _, _, rfl, rfl, mul_ok fs.1 (den_nat fr), _, _, rfl, rfl, _, rfl, t, _, _, _, rfl, rfl, ht, rfl, _, rfl, x, _, _, _, rfl, rfl, hx, rfl, _, _, rfl, rfl, mul_ok (den_nat fr) (den_nat fs), _, _, rfl, Int.ne_of_gt (dens_pos r s), den_two fr fs, fun v' H' s' hv => ?_⟩
    rw [← rat_plus] at hv
    exact k v' H' s' hv
theorem k_lless (D : Lies K mg "_law_frac_less" s_l_frac_less) (T : Plain mg) (G_l_frac : Keeps P w K mg base 2 "_law_frac" ["top", "bottom"] (spLRat K)) : Keeps P w K mg base 3 "_law_frac_less" ["one", "other"] (spRat2 K fun r s => r - s) := by
  refine D.keeps sc_l_frac_less (fun _ _ _ _ _ _ us hl => match us, hl with | [_, _], _ => rfl) (fun vs H Q E h => ?_) (fun f cdv A outer s0 H vs Q E hr h => ?_)
  · obtain ⟨v, u, r, s, rfl, _⟩ := h
    rfl
  · obtain ⟨v, u, r, s, rfl, ⟨t, rfl, ht⟩, ⟨x, rfl, hx⟩, fr, fs, k⟩ := h
    refine ⟨_, (pss_one (ps_ret (pe_go G_l_frac (hr.mono (by decide)) rfl (pa_cons (pe_op op_sub (pe_op op_mulB (pe_ix ix_tup (pv 0) pe_int (fun _ _ => rfl)) (pe_ix ix_tup (pv 1) pe_int (fun _ _ => rfl))) (pe_op op_mulB (pe_ix ix_tup (pv 1) pe_int (fun _ _ => rfl)) (pe_ix ix_tup (pv 0) pe_int (fun _ _ => rfl)))) (pa_cons (pe_op op_mulB (pe_ix ix_tup (pv 0) pe_int (fun _ _ => rfl)) (pe_ix ix_tup (pv 1) pe_int (fun _ _ => rfl))) pa_nil))))), ?_⟩
    refine ⟨_, rfl, t, _, _, _, rfl, rfl, ht, rfl, _, rfl, x, _, _, _, rfl, rfl, hx, rfl, _, _, rfl, rfl, mul_ok fr.1 (den_nat fs), _, rfl, x, _, _, _, rfl, rfl, hx, rfl, _, rfl, t, _, _, _, rfl, rfl, ht, rfl, _, _, rfl, rfl, mul_ok fs.1 (den_nat fr), _, _, rfl, rfl, _, rfl, t, _, _, _, rfl, rfl, ht, rfl, _, rfl, x, _, _, _, rfl, rfl, hx, rfl, _, _, rfl, rfl, mul_ok (den_nat fr) (den_nat fs), _, _, rfl, Int.ne_of_gt (dens_pos r s), den_two fr fs, fun v' H' s' hv => ?_⟩
    rw [← rat_minus] at hv
    exact k v' H' s' hv
theorem k_ltimes (D : Lies K mg "_law_frac_times" s_l_frac_times) (T : Plain mg) (G_l_frac : Keeps P w K mg base 2 "_law_frac" ["top", "bottom"] (spLRat K)) : Keeps P w K mg base 3 "_law_frac_times" ["one", "other"] (spRat2 K fun r s => r * s) := by
  refine D.keeps sc_l_frac_times (fun _ _ _ _ _ _ us hl => match us, hl with | [_, _], _ => rfl) (fun vs H Q E h => ?_) (fun f cdv A outer s0 H vs Q E hr h => ?_)
  · obtain ⟨v, u, r, s, rfl, _⟩ := h
    rfl
  · obtain ⟨v, u, r, s, rfl, ⟨t, rfl, ht⟩, ⟨x, rfl, hx⟩, fr, fs, k⟩ := h
    refine ⟨_, (pss_one (ps_ret (pe_go G_l_frac (hr.mono (by decide)) rfl (pa_cons (pe_op op_mulB (pe_ix ix_tup (pv 0) pe_int (fun _ _ => rfl)) (pe_ix ix_tup (pv 1) pe_int (fun _ _ => rfl))) (pa_cons (pe_op op_mulB (pe_ix ix_tup (pv 0) pe_int (fun _ _ => rfl)) (pe_ix ix_tup (pv 1) pe_int (fun _ _ => rfl))) pa_nil))))), ?_⟩
    refine ⟨_, rfl, t, _, _, _, rfl, rfl, ht, rfl, _, rfl, x, _, _, _, rfl, rfl, hx, rfl, _, _, rfl, rfl, mul_ok fr.1 fs.1, _, rfl, t, _, _, _, rfl, rfl, ht, rfl, _, rfl, x, _, _, _, rfl, rfl, hx, rfl, _, _, rfl, rfl, mul_ok (den_nat fr) (den_nat fs), _, _, rfl, Int.ne_of_gt (dens_pos r s), den_two fr fs, fun v' H' s' hv => ?_⟩
    rw [← rat_times] at hv
    exact k v' H' s' hv
theorem k_lsum (D : Lies K mg "_law_frac_sum" s_l_frac_sum) (T : Plain mg) (G_l_frac_plus : Keeps P w K mg base 3 "_law_frac_plus" ["one", "other"] (spRat2 K fun r s => r + s)) : Keeps P w K mg base 4 "_law_frac_sum" ["some"] (spTotal K) := by
  refine D.keeps sc_l_frac_sum (fun _ _ _ _ _ _ us hl => match us, hl with | [_], _ => rfl) (fun vs H Q E h => ?_) (fun f cdv A outer s H vs Q E hr h => ?_)
  · obtain ⟨v, rs, rfl, _⟩ := h
    rfl
  · obtain ⟨v, rs, rfl, ⟨a, xs, rfl, hS, pr⟩, fit, fl, k⟩ := h
    have ln := pr.length
    refine ⟨_, (pss_cons (ps_set (i := 1) sc_l_frac_sum.nd rfl (Or.inl rfl) (pe_tup (pa_cons pe_int (pa_cons pe_int pa_nil))))
      (pss_cons (ps_for PassesOwn.never rfl (pi_list (pv 0)) (pg_name (i := 2) sc_l_frac_sum.nd rfl (Or.inl rfl))
        (pss_one (ps_set (i := 1) sc_l_frac_sum.nd rfl (Or.inl rfl) (pe_go G_l_frac_plus (hr.mono (by decide)) rfl (pa_cons (pv 1) (pa_cons (pv 2) pa_nil))))))
      (pss_one (ps_ret (pv 1))))), ?_⟩
    refine ⟨by show 2 ≤ sizeLine; decide, fun q nq => ?_⟩
    have s1 := same_upd (o := .tup [V.int 0, V.int 1]) nq
    have h1 : RatAt K (upd H q (.tup [V.int 0, V.int 1])) (.ref q) 0 := ⟨q, rfl, SqT.of upd_same⟩
    generalize upd H q (.tup [V.int 0, V.int 1]) = H1 at *
    refine ⟨_, rfl, a, rfl, ⟨_, Same.seq s1 hS⟩, for_list (xs := xs) (fun i σ' H' => ∃ (vf : V) (v2 : Option V), σ' = [some (.ref a), some vf, v2] ∧ Same H H' ∧ RatAt K H' vf (sumL (rs.take i))) ⟨.ref q, _, rfl, s1, h1⟩ (fun i σ' H' _ ⟨_, _, _, s', _⟩ => Same.seq s' hS) ?_ ?_⟩
    · rintro i x σ' H' hx ⟨vf, v2, rfl, s', hv⟩
      obtain ⟨r, er, hr0⟩ := Paired.at pr hx
      have e : sumL (rs.take (i + 1)) = sumL (rs.take i) + r := by
        unfold sumL
        rw [take_next er, List.foldl_append]
        rfl
      refine ⟨_, rfl, _, rfl, vf, x, sumL (rs.take i), r, rfl, hv, hr0.same s', fl i, fit r (List.mem_of_getElem? er), fun v' H2 s2 hv2 => ⟨v', some x, rfl, s'.trans s2, ?_⟩⟩
      rw [e]
      exact hv2
    · rintro σ' H' ⟨vf, v2, rfl, s', hv⟩
      rw [ln, List.take_length] at hv
      exact ⟨_, rfl, k _ _ s' hv⟩
end
end Ct

/-! The text of a circuit by hand. -/
namespace Ct
open PySem PySem.Spec PyProof.Rows L2 TL RZ
theorem getD {H : Hp} {d : Addr} {kvs : List (Key × V)} {x : Str} {u : V} (h : H d = some (.dK kvs)) (e : valV kvs (.inr x) = some u) : DGet H d (.str x) (some u) := e ▸ DGet.k (k := Sum.inr x) h
/-- a drawn circuit's dict, its entries in any sequence -/
def OwnD (K : PySem.W.Frag) (G : Hp) (v : V) (o : Own) : Prop := ∃ d kvs s p j, v = .ref d ∧ G d = some (.dK kvs) ∧ valV kvs (.inr "sources") = some s ∧ valV kvs (.inr "parts") = some p ∧ valV kvs (.inr "joinings") = some j ∧ LsAt K G (EntAt K G) s o.sources ∧ LsAt K G (EntAt K G) p o.parts ∧ LsAt K G (JoiAt K G) j o.joinings
def spTextD (K : PySem.W.Frag) : Sp := fun vs H Q _ => ∃ (v : V) (o : Own), vs = [v] ∧ OwnD K H v o ∧ OwnOk o ∧ ∀ H', Same H H' → Q (.str (textOf o)) H'
section
variable {P : Program} {w : World} {K : PySem.W.Frag} {mg : Str → Option Value} {base : Heap}
theorem k_circuit_textD (D : Lies K mg "_law_circuit_text" s_l_circuit_text) (T : Plain mg) (G_l_frac_text : Keeps P w K mg base 1 "_law_frac_text" ["one"] (spFracText K)) : Keeps P w K mg base 2 "_law_circuit_text" ["own"] (spTextD K) := by
  refine D.keeps sc_l_circuit_text (fun _ _ _ _ _ _ us hl => match us, hl with | [_], _ => rfl) (fun vs H Q E h => ?_) (fun f cdv A outer s H vs Q E hr h => ?_)
  · obtain ⟨v, o, rfl, _⟩ := h
    rfl
  · obtain ⟨v, o, rfl, ⟨d, kvs, vS, vP, vJ, rfl, hd, eS, eP, eJ, ⟨aS, xS, rfl, hS, pS⟩, ⟨aP, xP, rfl, hP, pP⟩, ⟨aJ, xJ, rfl, hJ, pJ⟩⟩, ok, k⟩ := h
    refine ⟨_, (pss_cons (ps_setLc (i := 1) (own := [("name", 2), ("one", 3)]) (g := gTup K 2 (gCons (gName 2) (gCons (gName 3) gNil))) (tt := tYes) rfl sc_l_circuit_text.nd rfl rfl (sw_true rfl rfl rfl (by decide +kernel)) (pi_list (pe_dget (hu_of hr) (pv 0) pe_str (fun _ _ => rfl))) (blkOk_by (N := N_l_circuit_text) (sc := defScope s_l_circuit_text) (by decide +kernel)) (fun _ _ _ _ _ => pg_tup rfl (pgs_cons (pg_name (i := 2) sc_l_circuit_text.nd rfl (Or.inl rfl)) (pgs_cons (pg_name (i := 3) sc_l_circuit_text.nd rfl (Or.inl rfl)) pgs_nil))) (fun _ _ _ _ _ => pts_nil) (fun _ _ _ _ _ => by exact (pe_op op_add_str (pe_op op_add_str (pe_op op_add_str pe_str (pv 2)) pe_str) (pe_go G_l_frac_text (hr.mono (by decide)) rfl (pa_cons (pv 3) pa_nil)))))
      (pss_cons (ps_expr (pe_bm PySem.F.plainAttrs_list PySem.F.slot_list_extend PySem.F.type_list_extend mt_extend (pv 1) (pa_cons (pe_lc (own := [("name", 2), ("one", 3)]) (g := gTup K 2 (gCons (gName 2) (gCons (gName 3) gNil))) (tt := tYes) rfl sc_l_circuit_text.nd (pi_list (pe_dget (hu_of hr) (pv 0) pe_str (fun _ _ => rfl))) (blkOk_by (N := N_l_circuit_text) (sc := defScope s_l_circuit_text) (by decide +kernel)) (fun _ _ _ _ _ => pg_tup rfl (pgs_cons (pg_name (i := 2) sc_l_circuit_text.nd rfl (Or.inl rfl)) (pgs_cons (pg_name (i := 3) sc_l_circuit_text.nd rfl (Or.inl rfl)) pgs_nil))) (fun _ _ _ _ _ => pts_nil) (fun _ _ _ _ _ => by exact (pe_op op_add_str (pe_op op_add_str (pe_op op_add_str pe_str (pv 2)) pe_str) (pe_go G_l_frac_text (hr.mono (by decide)) rfl (pa_cons (pv 3) pa_nil))))) pa_nil)))
      (pss_cons (ps_for PassesOwn.never rfl (pi_list (pe_dget (hu_of hr) (pv 0) pe_str (fun _ _ => rfl))) (pg_tup rfl (pgs_cons (pg_name (i := 2) sc_l_circuit_text.nd rfl (Or.inl rfl)) (pgs_cons (pg_name (i := 4) sc_l_circuit_text.nd rfl (Or.inl rfl)) pgs_nil)))
        (pss_cons (ps_expr (pe_bm PySem.F.plainAttrs_list PySem.F.slot_list_append PySem.F.type_list_append mt_append (pv 1) (pa_cons (pe_op op_add_str pe_str (pv 2)) pa_nil)))
        (pss_one (ps_expr (pe_bm PySem.F.plainAttrs_list PySem.F.slot_list_extend PySem.F.type_list_extend mt_extend (pv 1) (pa_cons (pe_lc (own := [("tie", 5)]) (g := gName 5) (tt := tYes) rfl sc_l_circuit_text.nd (pi_list (pv 4)) (blkOk_by (N := N_l_circuit_text) (sc := defScope s_l_circuit_text) (by decide +kernel)) (fun _ _ _ _ _ => pg_name (i := 5) sc_l_circuit_text.nd rfl (Or.inl rfl)) (fun _ _ _ _ _ => pts_nil) (fun _ _ _ _ _ => by exact (pe_op op_add_str pe_str (pe_joinK (K := K) rfl pe_str (pe_listK (K := K) rfl rfl T.n_list (pa_cons (pv 5) pa_nil)))))) pa_nil))))))
      (pss_one (ps_ret (pe_joinK (K := K) rfl pe_str (pe_op op_cat (pe_lst (pa_cons pe_str pa_nil)) (pv 1)))))))), ?_⟩
    refine into_set (comp_pure (f := entLine "source ") (R := EntAt K H) (R' := fun _ => StrV) (fun R r => ⟨_, rfl, d, _, rfl, getD hd eS, r⟩) hS pS ?_ (fun _ _ _ h => h) (fun _ _ _ _ h => h) (fun x e H0 Z r he s0 hz => ?_) (fun H2 D acc hD s2 hL hp => ?_))
    · rw [pS.length]
      exact Nat.lt_of_le_of_lt ok.s_few (by decide)
    · obtain ⟨t, u, rfl, ht, u', rfl, hu⟩ := r
      have hn := ok.src e he
      have l1 := ent_len (w := "source ") (by rw [src_len]; decide) hn
      refine ⟨t, _, rfl, SqT.same s0 ht, rfl, _, _, rfl, _, _, rfl, ⟨rfl, rfl, ?_⟩⟩
      refine ⟨_, rfl, _, _, rfl, rfl, ?_, _, _, rfl, rfl, ?_, _, rfl, u', e.2, rfl, SqT.same s0 hu, hn.2.2.2.1, hn.2.2.2.2, _, _, rfl, rfl, ?_, hz _ _ (Same.refl _) rfl⟩
      · rw [src_len]
        exact Nat.le_trans (Nat.add_le_add_left hn.1.2.1 7) (by decide)
      · have := l1.1
        rw [len_app] at this
        exact Nat.le_trans this (by decide)
      · have := l1.2
        unfold entLine at this
        rw [len_app] at this
        exact Nat.le_trans this (by decide)
    have eL := strs_are hp
    subst eL
    have dS : (V.ref d) = V.ref d := rfl
    refine into_drop ⟨_, rfl, .inl ⟨rfl, _, SqL.of hL⟩, into_args1 (comp_pure (f := entLine "part ") (R := EntAt K H) (R' := fun _ => StrV) (fun R r => ⟨_, rfl, d, _, rfl, getD (s2 _ _ hd) eP, r⟩) (Same.seq s2 hP) pP ?_ (fun _ _ _ h => h) (fun _ _ _ _ h => h) (fun x e H0 Z r he s0 hz => ?_) (fun H3 D3 acc hD3 s3 hL3 hp3 => ?_))⟩
    · rw [pP.length]
      exact Nat.lt_of_le_of_lt ok.p_few (by decide)
    · obtain ⟨t, u, rfl, ht, u', rfl, hu⟩ := r
      have hn := ok.prt e he
      have l1 := ent_len (w := "part ") (by rw [prt_len]; decide) ⟨hn.1, hn.2.1⟩
      refine ⟨t, _, rfl, SqT.same (s2.trans s0) ht, rfl, _, _, rfl, _, _, rfl, ⟨rfl, rfl, ?_⟩⟩
      refine ⟨_, rfl, _, _, rfl, rfl, ?_, _, _, rfl, rfl, ?_, _, rfl, u', e.2, rfl, SqT.same (s2.trans s0) hu, hn.2.1.2.2.1, hn.2.1.2.2.2, _, _, rfl, rfl, ?_, hz _ _ (Same.refl _) rfl⟩
      · rw [prt_len]
        exact Nat.le_trans (Nat.add_le_add_left hn.1.2.1 5) (by decide)
      · have := l1.1
        rw [len_app] at this
        exact Nat.le_trans this (by decide)
      · have := l1.2
        unfold entLine at this
        rw [len_app] at this
        exact Nat.le_trans this (by decide)
    have eL3 := strs_are hp3
    subst eL3
    have hLD := s3 _ _ hL
    have nDD : D ≠ D3 := fun z => by
      rw [z, hD3] at hL
      cases hL
    have r1 : (o.sources.map (entLine "source ")).length ≤ 4 := by rw [List.length_map]; exact ok.s_few
    have r2 : (o.parts.map (entLine "part ")).length ≤ 8 := by rw [List.length_map]; exact ok.p_few
    refine ⟨D, D3, _, _, rfl, rfl, hLD, hL3, ?_, ?_⟩
    · simp only [List.length_map] at r1 r2 ⊢
      show _ ≤ 16777216
      omega
    rw [← List.map_append]
    have s4 : Same H (upd H3 D (.lst ((o.sources.map (entLine "source ") ++ o.parts.map (entLine "part ")).map V.str))) := fun b z q => by
      rw [upd_ne (ne_of_none q hD)]
      exact s3 _ _ (s2 _ _ q)
    refine ⟨_, rfl, d, _, rfl, getD (s4 _ _ hd) eJ, aJ, rfl, ⟨_, Same.seq s4 hJ⟩, for_list (xs := xJ) (fun i σ' H' => ∃ v2 v3 v4 v5 : Option V, σ' = [some (.ref d), some (.ref D), v2, v3, v4, v5] ∧
      H' D = some (.lst ((o.sources.map (entLine "source ") ++ o.parts.map (entLine "part ") ++ (o.joinings.take i).flatMap joiRows).map V.str)) ∧ Same H H')
      ⟨_, _, _, _, rfl, by rw [List.take_zero, List.flatMap_nil, List.append_nil]; exact upd_same, s4⟩ (fun i σ' H' _ ⟨_, _, _, _, _, _, s⟩ => Same.seq s hJ) ?_ ?_⟩
    · rintro i x σ' H' hx ⟨v2, v3, v4, v5, rfl, hLi, si⟩
      obtain ⟨e, he, t, l, rfl, ht, al, xl, rfl, hl, pl⟩ := Paired.at pJ hx
      have hj := ok.joi e (List.mem_of_getElem? he)
      have hi : i < 6 := Nat.lt_of_lt_of_le (List.getElem?_eq_some_iff.mp he).1 ok.j_few
      have few : ((o.joinings.take i).flatMap joiRows).length ≤ 54 := by
        refine Nat.le_trans (flat_len (B := 9) fun z hz => ?_) (Nat.mul_le_mul_right 9 (Nat.le_trans (List.length_take_le i _) (Nat.le_of_lt hi)))
        have := (ok.joi z (List.mem_of_mem_take hz)).few
        unfold joiRows
        rw [List.length_cons, List.length_map]
        omega
      have rs : (o.sources.map (entLine "source ") ++ o.parts.map (entLine "part ") ++ (o.joinings.take i).flatMap joiRows).length ≤ 66 := by
        rw [List.length_append, List.length_append]
        omega
      generalize hrows : o.sources.map (entLine "source ") ++ o.parts.map (entLine "part ") ++ (o.joinings.take i).flatMap joiRows = rows at hLi rs
      refine ⟨t, _, rfl, SqT.same si ht, rfl, _, _, rfl, _, _, rfl, ⟨rfl, ?_⟩⟩
      refine ⟨_, rfl, .inl ⟨rfl, _, SqL.of hLi⟩, _, rfl, _, _, rfl, rfl, ?_, D, _, _, rfl, rfl, hLi, ?_, ?_⟩
      · rw [joi_len]
        exact Nat.le_trans (Nat.add_le_add_left hj.name.2.1 8) (by decide)
      · rw [List.length_map]
        show rows.length < 16777216
        omega
      have s5 : Same H (upd H' D (.lst (rows.map V.str ++ [V.str ("joining " ++ e.1)]))) := fun b z q => by
        rw [upd_ne (ne_of_none q hD)]
        exact si _ _ q
      refine ⟨_, rfl, .inl ⟨rfl, _, SqL.of upd_same⟩, into_args1 (comp_pure (f := tieLine) (R := TieAt K H) (R' := fun _ => StrV) (fun R r => ⟨_, rfl, r⟩) (Same.seq s5 hl) pl ?_ (fun _ _ _ h => h) (fun _ _ _ _ h => h) (fun x e2 H0 Z r he2 s0 hz => ?_) (fun H6 D6 acc hD6 s6 hL6 hp6 => ?_))⟩
      · rw [pl.length]
        exact Nat.lt_of_le_of_lt hj.few (by decide)
      · obtain ⟨t2, rfl, ht2⟩ := r
        have jt := hj.tie e2 he2
        have l1 : e2.1.length ≤ 6 := by
          obtain ⟨y, hy, ey⟩ := List.mem_map.mp jt.1
          exact ey ▸ (ok.prt y hy).1.2.1
        have l2 := junc_len jt.2.1
        have l3 := junc_len jt.2.2
        refine ⟨rfl, ⟨_, rfl⟩, _, rfl, t2, _, rfl, .inr (SqT.same (s5.trans s0) ht2), fun q hq => ⟨_, q, [e2.1, e2.2.1, e2.2.2], rfl, rfl, .inl (SqL.of upd_same), Nat.le_trans (tie_join l1 l2 l3) (by decide), _, _, rfl, rfl, ?_, hz _ _ (same_upd hq) rfl⟩⟩
        rw [tie_len]
        exact Nat.le_trans (Nat.add_le_add_left (join3_len l1 l2 l3) 4) (by decide)
      have eL6 := strs_are hp6
      subst eL6
      refine ⟨D, D6, _, _, rfl, rfl, s6 _ _ upd_same, hL6, ?_, ?_⟩
      · rw [List.length_append, List.length_map, List.length_map, List.length_map, List.length_singleton]
        have := hj.few
        show rows.length + 1 + e.2.length ≤ 16777216
        omega
      refine ⟨_, _, _, _, rfl, ?_, fun b z q => ?_⟩
      · rw [upd_same, take_snoc he, List.flatMap_append, ← List.append_assoc, hrows, List.map_append, List.flatMap_singleton]
        unfold joiRows joiLine
        simp
      · rw [upd_ne (ne_of_none q hD)]
        exact s6 _ _ (s5 _ _ q)
    · rintro σ' H' ⟨v2, v3, v4, v5, rfl, hLi, si⟩
      rw [show o.joinings.take xJ.length = o.joinings by rw [pJ.length, List.take_length]] at hLi
      have few : (o.joinings.flatMap joiRows).length ≤ 54 := by
        refine Nat.le_trans (flat_len (B := 9) fun z hz => ?_) (Nat.mul_le_mul_right 9 ok.j_few)
        have := (ok.joi z hz).few
        unfold joiRows
        rw [List.length_cons, List.length_map]
        omega
      refine ⟨⟨_, rfl⟩, ⟨by show 1 ≤ sizeLine; decide, fun q hq => ⟨_, rfl, ?_⟩⟩⟩
      have nqD : q ≠ D := fun z => by rw [z, hLi] at hq; cases hq
      refine ⟨q, D, _, _, rfl, rfl, upd_same, (upd_ne nqD.symm).trans hLi, ?_, fun p hp => ?_⟩
      · rw [List.length_singleton, List.length_map, List.length_append, List.length_append]
        show 1 + _ ≤ 16777216
        omega
      refine ⟨_, p, rowsOf o, rfl, rfl, .inl (SqL.of ?_), ?_, k _ fun b z h => ?_⟩
      · rw [upd_same]
        rfl
      · exact rows_join ok
      · rw [upd_ne (ne_of_none (o := z) (by rw [upd_ne (ne_of_none (si _ _ h) hq)]; exact si _ _ h) hp), upd_ne (ne_of_none (si _ _ h) hq)]
        exact si _ _ h
end
end Ct
namespace Ct
open PySem PySem.Spec PyProof.Rows L2 TL RZ
def fr (r : Rat) : Int × Int := (r.num, (r.den : Int))
def ownOf (src prt : List (Str × Int)) (ties : Ties) (sz k : Rat) : Own := ⟨src.map fun e => (e.1, fr (intQ e.2 * k)), prt.map fun e => (e.1, fr (intQ e.2 * sz)), [("j", ties)]⟩
/-- a name with an integer -/
def IntEnt (K : PySem.W.Frag) (H : Hp) (v : V) (e : Str × Int) : Prop := ∃ t, v = .ref t ∧ SqT K H t [.str e.1, .int e.2]
theorem IntEnt.same {K : PySem.W.Frag} {H H' : Hp} (s : Same H H') {v : V} {e : Str × Int} : IntEnt K H v e → IntEnt K H' v e := fun ⟨t, q, h⟩ => ⟨t, q, SqT.same s h⟩
theorem RatAt.fr {K : PySem.W.Frag} {H : Hp} {v : V} {r : Rat} (h : RatAt K H v r) : FrAt K H v (fr r) := h
theorem SqL.dict {K : PySem.W.Frag} {H : Hp} {D a : Addr} {k k' : List (Key × V)} {xs : List V} (hD : H D = some (.dK k)) (h : SqL K H a xs) : SqL K (upd H D (.dK k')) a xs := by
  rcases h with (h | ⟨o, h⟩) | h
  · exact .inl (.inl ((upd_ne (ne_of h hD (by intro z; cases z))).trans h))
  · exact .inl (.inr ⟨o, (upd_ne (ne_of h hD (by intro z; cases z))).trans h⟩)
  · exact .inr h
theorem LsAt.dict {K : PySem.W.Frag} {H : Hp} {β : Type} {R R' : V → β → Prop} {D : Addr} {k k' : List (Key × V)} (hD : H D = some (.dK k)) (m : ∀ v b, R v b → R' v b) {v : V} {es : List β} : LsAt K H R v es → LsAt K (upd H D (.dK k')) R' v es := fun ⟨a, vs, e, h, p⟩ => ⟨a, vs, e, SqL.dict hD h, p.mono m⟩
theorem JoiAt.dict {K : PySem.W.Frag} {H : Hp} {D : Addr} {k k' : List (Key × V)} (hD : H D = some (.dK k)) {v : V} {e : Str × List (Str × Str × Str)} : JoiAt K H v e → JoiAt K (upd H D (.dK k')) v e := fun ⟨t, l, e, h, q⟩ => ⟨t, l, e, SqT.dict hD h, q.dict hD fun _ _ => TieAt.dict hD⟩
def IntsFit (l : List (Str × Int)) : Prop := ∀ e ∈ l, FitR 4400 (intQ e.2)
abbrev s_l_text : Stmt := top 92
abbrev N_l_text : List Str := ["sources", "parts", "ties", "sizes_by", "by", "own", "name", "one"]
theorem sc_l_text : FnScope N_l_text ["sources", "parts", "ties", "sizes_by", "by"] (defScope s_l_text) := ⟨rfl, rfl, rfl, by decide +kernel, rfl, by decide +kernel, by decide +kernel⟩
def spLText (K : PySem.W.Frag) : Sp := fun vs H Q _ => ∃ (s p t z b : V) (src prt : List (Str × Int)) (ties : Ties) (sz k : Rat), vs = [s, p, t, z, b] ∧ LsAt K H (IntEnt K H) s src ∧ LsAt K H (IntEnt K H) p prt ∧ LsAt K H (TieAt K H) t ties ∧ RatAt K H z sz ∧ RatAt K H b k ∧
  IntsFit src ∧ IntsFit prt ∧ FitR 4400 sz ∧ FitR 4400 k ∧ OwnOk (ownOf src prt ties sz k) ∧ ∀ H', Same H H' → Q (.str (textOf (ownOf src prt ties sz k))) H'
section
variable {P : Program} {w : World} {K : PySem.W.Frag} {mg : Str → Option Value} {base : Heap}
theorem k_law_text (D : Lies K mg "_law_text" s_l_text) (T : Plain mg) (G_l_frac_times : Keeps P w K mg base 3 "_law_frac_times" ["one", "other"] (spRat2 K fun r s => r * s)) (G_l_circuit_text : Keeps P w K mg base 2 "_law_circuit_text" ["own"] (spTextD K)) : Keeps P w K mg base 4 "_law_text" ["sources", "parts", "ties", "sizes_by", "by"] (spLText K) := by
  refine D.keeps sc_l_text (fun _ _ _ _ _ _ us hl => match us, hl with | [_, _, _, _, _], _ => rfl) (fun vs H Q E h => ?_) (fun f cdv A outer s0 H vs Q E hr h => ?_)
  · obtain ⟨s, p, t, z, b, src, prt, ties, sz, k, rfl, _⟩ := h
    rfl
  · obtain ⟨s, p, t, z, b, src, prt, ties, sz, k, rfl, ⟨aS, xS, rfl, hS, pS⟩, ⟨aP, xP, rfl, hP, pP⟩, ⟨aT, xT, rfl, hT, pT⟩, hz, hb, fS, fP, fz, fb, ok, q⟩ := h
    have few1 : src.length ≤ 4 := by have := ok.s_few; rw [show (ownOf src prt ties sz k).sources.length = src.length from List.length_map _] at this; exact this
    have few2 : prt.length ≤ 8 := by have := ok.p_few; rw [show (ownOf src prt ties sz k).parts.length = prt.length from List.length_map _] at this; exact this
    have lS := pS.length
    have lP := pP.length
    refine ⟨_, (pss_cons (ps_set (i := 5) sc_l_text.nd rfl (Or.inl rfl) (pe_disp (pps_cons pe_str (pe_lc (own := [("name", 6), ("one", 7)]) (g := gTup K 2 (gCons (gName 6) (gCons (gName 7) gNil))) (tt := tYes) rfl sc_l_text.nd (pi_list (pv 0)) (blkOk_by (N := N_l_text) (sc := defScope s_l_text) (by decide +kernel)) (fun _ _ _ _ _ => pg_tup rfl (pgs_cons (pg_name (i := 6) sc_l_text.nd rfl (Or.inl rfl)) (pgs_cons (pg_name (i := 7) sc_l_text.nd rfl (Or.inl rfl)) pgs_nil))) (fun _ _ _ _ _ => pts_nil) (fun _ _ _ _ _ => by exact (pe_tup (pa_cons (pv 6) (pa_cons (pe_go G_l_frac_times (hr.mono (by decide)) rfl (pa_cons (pe_tup (pa_cons (pv 7) (pa_cons pe_int pa_nil))) (pa_cons (pv 4) pa_nil))) pa_nil))))) (pps_cons pe_str (pe_lst (pa_cons (pe_tup (pa_cons pe_str (pa_cons (pv 2) pa_nil))) pa_nil)) pps_nil)) (by rfl) (by rfl) (fun z => by cases z) (by decide)))
      (pss_cons (ps_dput (hu_of hr) (pv 5) pe_str (pe_lc (own := [("name", 6), ("one", 7)]) (g := gTup K 2 (gCons (gName 6) (gCons (gName 7) gNil))) (tt := tYes) rfl sc_l_text.nd (pi_list (pv 1)) (blkOk_by (N := N_l_text) (sc := defScope s_l_text) (by decide +kernel)) (fun _ _ _ _ _ => pg_tup rfl (pgs_cons (pg_name (i := 6) sc_l_text.nd rfl (Or.inl rfl)) (pgs_cons (pg_name (i := 7) sc_l_text.nd rfl (Or.inl rfl)) pgs_nil))) (fun _ _ _ _ _ => pts_nil) (fun _ _ _ _ _ => by exact (pe_tup (pa_cons (pv 6) (pa_cons (pe_go G_l_frac_times (hr.mono (by decide)) rfl (pa_cons (pe_tup (pa_cons (pv 7) (pa_cons pe_int pa_nil))) (pa_cons (pv 3) pa_nil))) pa_nil))))) rfl)
      (pss_one (ps_ret (pe_go G_l_circuit_text (hr.mono (by decide)) rfl (pa_cons (pv 5) pa_nil)))))), ?_⟩
    refine fun d nd => ?_
    have s1 := same_upd (o := .dK []) nd
    have h1 : (upd H d (.dK [])) d = some (.dK []) := upd_same
    generalize upd H d (.dK []) = H1 at *
    refine into_pairC (comp_pure (f := fun e : Str × Int => (e.1, fr (intQ e.2 * k))) (R := IntEnt K H) (R' := EntAt K) (fun R r => ⟨_, rfl, r⟩) (Same.seq s1 hS) pS (by omega) (fun s _ _ h => h.same s) (fun _ hD _ _ h => h.list hD) (fun x e H0 W re he s2 hw => ?_) (fun H2 D2 accS n2 s2 hL2 pL2 => ?_))
    · obtain ⟨tt, rfl, ht⟩ := re
      refine ⟨tt, _, rfl, SqT.same (s1.trans s2) ht, rfl, _, _, rfl, _, _, rfl, ⟨rfl, rfl, ?_⟩⟩
      refine ⟨_, rfl, _, rfl, by show 2 ≤ sizeLine; decide, fun r1 nr1 => ?_⟩
      have s3 := same_upd (o := .tup [V.int e.2, V.int 1]) nr1
      have h3 : RatAt K (upd H0 r1 (.tup [V.int e.2, V.int 1])) (.ref r1) (intQ e.2) := int_rat (SqT.of upd_same)
      generalize upd H0 r1 (.tup [V.int e.2, V.int 1]) = H3 at *
      refine ⟨_, rfl, .ref r1, b, _, k, rfl, h3, hb.same (s1.trans (s2.trans s3)), fS e he, fb, fun v' H4 s4 hv => ⟨by show 2 ≤ sizeLine; decide, fun r2 nr2 => ?_⟩⟩
      have s5 := same_upd (o := .tup [V.str e.1, v']) nr2
      exact hw _ _ (s3.trans (s4.trans s5)) ⟨r2, v', rfl, SqT.of upd_same, (hv.same s5).fr⟩
    have g2 := s1.trans s2
    refine into_pairC ⟨_, rfl, ?_⟩
    refine ⟨by show 2 ≤ sizeLine; decide, fun r1 nr1 => ?_⟩
    have s3 := same_upd (o := .tup [V.str "j", V.ref aT]) nr1
    have h3 : SqT K (upd H2 r1 (.tup [V.str "j", V.ref aT])) r1 [V.str "j", V.ref aT] := SqT.of upd_same
    generalize upd H2 r1 (.tup [V.str "j", V.ref aT]) = H3 at *
    refine ⟨by show 1 ≤ sizeLine; decide, fun r2 nr2 => ?_⟩
    have s4 := same_upd (o := .lst [V.ref r1]) nr2
    have h4 : (upd H3 r2 (.lst [V.ref r1])) r2 = some (.lst [V.ref r1]) := upd_same
    generalize upd H3 r2 (.lst [V.ref r1]) = H4 at *
    have s14 : Same H1 H4 := s2.trans (s3.trans s4)
    have g4 := s1.trans s14
    refine ⟨s14 _ _ h1, [(.inr "sources", .ref D2), (.inr "joinings", .ref r2)], rfl, by show 2 ≤ 15; decide, ?_⟩
    have kv0 : ∀ y, valV (mergeK [] [((Sum.inr ("sources" : Str) : Key), V.ref D2), (Sum.inr ("joinings" : Str), V.ref r2)]) y = if y = Sum.inr ("joinings" : Str) then some (V.ref r2) else if y = Sum.inr ("sources" : Str) then some (V.ref D2) else none := fun y => by
      have e : mergeK [] [((Sum.inr ("sources" : Str) : Key), V.ref D2), (Sum.inr ("joinings" : Str), V.ref r2)] = putK (putK ([] : List (Key × V)) (Sum.inr ("sources" : Str)) (V.ref D2)) (Sum.inr ("joinings" : Str)) (V.ref r2) := rfl
      rw [e, valV_put, valV_put]
      rfl
    have few0 : (mergeK [] [((Sum.inr ("sources" : Str) : Key), V.ref D2), (Sum.inr ("joinings" : Str), V.ref r2)]).length ≤ 2 := length_mergeK _ _
    generalize mergeK [] [((Sum.inr ("sources" : Str) : Key), V.ref D2), (Sum.inr ("joinings" : Str), V.ref r2)] = kv at *
    have hd4 := s14 _ _ h1
    have LS : LsAt K H4 (EntAt K H4) (.ref D2) (src.map fun e => (e.1, fr (intQ e.2 * k))) := ⟨D2, accS, rfl, SqL.of ((s3.trans s4) _ _ hL2), pL2.mono fun _ _ h => h.same (s3.trans s4)⟩
    have LJ : LsAt K H4 (JoiAt K H4) (.ref r2) [("j", ties)] := ⟨r2, _, rfl, SqL.of h4, .cons ⟨r1, .ref aT, rfl, SqT.same s4 h3, aT, xT, rfl, Same.seq g4 hT, pT.mono fun _ _ h => h.same g4⟩ .nil⟩
    have LS5 := LS.dict (k' := kv) hd4 fun _ _ => EntAt.dict (k' := kv) hd4
    have LJ5 := LJ.dict (k' := kv) hd4 fun _ _ => JoiAt.dict (k' := kv) hd4
    have s5 : Same H (upd H4 d (.dK kv)) := same_but g4 nd
    have hd5 : (upd H4 d (.dK kv)) d = some (.dK kv) := upd_same
    generalize upd H4 d (.dK kv) = H5 at *
    refine into_name ?_
    dsimp only
    refine into_dput (comp_pure (f := fun e : Str × Int => (e.1, fr (intQ e.2 * sz))) (R := IntEnt K H) (R' := EntAt K) (fun R r => ⟨_, rfl, r⟩) (Same.seq s5 hP) pP (by omega) (fun s _ _ h => h.same s) (fun _ hD _ _ h => h.list hD) (fun x e H0 W re he s6 hw => ?_) (fun H6 D6 accP n6 s6 hL6 pL6 => ?_))
    · obtain ⟨tt, rfl, ht⟩ := re
      refine ⟨tt, _, rfl, SqT.same (s5.trans s6) ht, rfl, _, _, rfl, _, _, rfl, ⟨rfl, rfl, ?_⟩⟩
      refine ⟨_, rfl, _, rfl, by show 2 ≤ sizeLine; decide, fun r1 nr1 => ?_⟩
      have s7 := same_upd (o := .tup [V.int e.2, V.int 1]) nr1
      have h7 : RatAt K (upd H0 r1 (.tup [V.int e.2, V.int 1])) (.ref r1) (intQ e.2) := int_rat (SqT.of upd_same)
      generalize upd H0 r1 (.tup [V.int e.2, V.int 1]) = H7 at *
      refine ⟨_, rfl, .ref r1, z, _, sz, rfl, h7, hz.same (s5.trans (s6.trans s7)), fP e he, fz, fun v' H8 s8 hv => ⟨by show 2 ≤ sizeLine; decide, fun r2 nr2 => ?_⟩⟩
      have s9 := same_upd (o := .tup [V.str e.1, v']) nr2
      exact hw _ _ (s7.trans (s8.trans s9)) ⟨r2, v', rfl, SqT.of upd_same, (hv.same s9).fr⟩
    have hd6 := s6 _ _ hd5
    have LP : LsAt K H6 (EntAt K H6) (.ref D6) (prt.map fun e => (e.1, fr (intQ e.2 * sz))) := ⟨D6, accP, rfl, SqL.of hL6, pL6⟩
    have few5 : kv.length < sizeLine := Nat.lt_of_le_of_lt few0 (by decide)
    refine ⟨_, rfl, d, _, rfl, DPut.k (k := Sum.inr ("parts" : Str)) hd6 few5, ?_⟩
    generalize hkk : putK kv (Sum.inr ("parts" : Str)) (V.ref D6) = kk
    have kv1 : ∀ y, valV kk y = if y = Sum.inr ("parts" : Str) then some (V.ref D6) else valV kv y := fun y => by rw [← hkk, valV_put]
    refine ⟨_, rfl, .ref d, ownOf src prt ties sz k, rfl, ⟨d, kk, .ref D2, .ref D6, .ref r2, rfl, upd_same, ?_, ?_, ?_, ?_, ?_, ?_⟩, ok, fun H9 s9 => q H9 ((same_but (s5.trans s6) nd).trans s9)⟩
    · rw [kv1, kv0, if_neg (by intro z; injection z with z; exact n_sp z.symm), if_neg (by intro z; injection z with z; exact n_sj z), if_pos rfl]
    · rw [kv1, if_pos rfl]
    · rw [kv1, kv0, if_neg (by intro z; injection z with z; exact n_jp z), if_pos rfl]
    · exact ((LS5.same s6 fun _ _ => EntAt.same s6).dict hd6 fun _ _ => EntAt.dict hd6)
    · exact LP.dict hd6 fun _ _ => EntAt.dict hd6
    · exact ((LJ5.same s6 fun _ _ => JoiAt.same s6).dict hd6 fun _ _ => JoiAt.dict hd6)
end
end Ct

/-! Promises of defs that are only called where no repr of a container is under way (the law and what it calls itself), and repr of data. -/
namespace Ct
open PySem PySem.Spec PyProof.Rows L2 TL
structure FnG (P : Program) (w : World) (K : PySem.W.Frag) (mg : Str → Option Value) (base : Heap) (k : Nat) (f : Addr) (fd : FuncData) (ps : List Str) (sp : Sp) : Prop where
  len : ∀ vs H Q E, sp vs H Q E → vs.length = ps.length
  run : ∀ (A : Around) (outer : List Env) (s : Shared) (H : Hp) (args : Args) (us : List Value) (vs : List V) (Q : VK),
    Room k A → A.guards = some [] → Env0 P w K mg base A outer s H → BindsTo s fd args (ps.zip us) → Vals vs us → sp vs H Q E0 →
    codeAny (model P w) A (.call (.ref f) args) (CR CX0 outer P w H s Q E0) s
theorem fnG_of {P : Program} {w : World} {K : PySem.W.Frag} {mg : Str → Option Value} {base : Heap} {x qual : Str} {st : Stmt} {f : Addr} {fd : FuncData} {N ps : List Str} {k : Nat} {sp : Sp}
    (D : Fun K x qual st f fd) (S : FnScope N ps (defScope st)) (len : ∀ vs H Q E, sp vs H Q E → vs.length = ps.length)
    (body : ∀ (cdv : Value) (A : Around) (outer : List Env) (s : Shared) (H : Hp) (vs : List V) (Q : VK), A.guards = some [] → Room k (A.deeper (envOfC qual (defScope st) s.heap.objs.size f cdv)) → sp vs H Q E0 →
      ∃ t, PSs (cxOf CX0 P w K mg base N qual (defScope st) f cdv A outer s H E0).nox (defBody st) t ∧ t { nx := fun _ H' => Q .non H', rt := Q } (start N vs) H) : FnG P w K mg base (k + 1) f fd ps sp := by
  obtain ⟨oc, od, kV, doc, pm, an, cdv, ct, osl, efd, look, code⟩ := D.ex
  subst efd
  refine ⟨len, fun A outer s H args us vs Q room hgd e0 bind rv hsp => ?_⟩
  have many := len _ _ _ _ hsp
  have KX : K.In s.heap := e0.mod.kin.keeps fun b ob e => (e0.bs b ob e).1
  have noLim : s.heap.NoLimit := e0.mod.nolimit.keeps fun b ob e => (e0.bs b ob e).1
  have kinds : ∀ y ∈ ps.zip us, (defScope st).names.lookup y.1 = some .local ∨
      ((defScope st).names.lookup y.1 = some .cell ∧ ((cellsFrom (s.heap.objs.size + 1) (defScope st).names []).lookup y.1).isSome = true) := by
    rintro ⟨n, v⟩ hy
    have z := S.par n (List.of_mem_zip hy).1
    exact z.elim .inl fun c => .inr ⟨c, PySem.W.cellsFrom_some _ _ _ (.inl c)⟩
  refine codeAny_call_function room.depth (KX _ _ look) rfl S.co S.gen rfl (PySem.W.codeRec_of KX code) (bind _ _ _ _ ?_)
  refine wpAny_newFunctionEnv_cells S.kind kinds fun env eenv s1 x1 => ?_
  subst eenv
  refine ⟨noLim.keeps x1.toInCall.keep, codeAny_func ?_⟩
  obtain ⟨t, ht, hq⟩ := body cdv A outer s H vs Q hgd (room.deeper _) hsp
  have I : Inv (cxOf CX0 P w K mg base N qual (defScope st) f cdv A outer s H E0) [] (start N vs) H s1 := inv_start S room.hd e0 many rv x1
  refine wpAny_mono (ht.nox.run [] s1 (start N vs) H _ I hq) (fun fl s2 hs => ?_) fun e s2 hs => hs
  have close : ∀ {σ2 : L2.St} {H2 : Hp} {v : V} {u : Value}, Inv (cxOf CX0 P w K mg base N qual (defScope st) f cdv A outer s H E0) [] σ2 H2 s2 → RelV v u → Q v H2 → CE outer P w H s Q u s2 := by
    intro σ2 H2 v u J r q
    exact ⟨v, H2, J.os, J.bare, J.base, J.hok, r, q⟩
  cases fl with
  | ret u =>
    obtain ⟨v, σ2, H2, J, r, q⟩ := hs
    exact close J r q
  | next =>
    obtain ⟨σ2, H2, J, q⟩ := hs
    exact close (v := V.non) (u := Value.none) J rfl q
  | brk =>
    obtain ⟨_, _, _, z⟩ := hs
    exact z.elim
  | cont =>
    obtain ⟨_, _, _, z⟩ := hs
    exact z.elim
/-- called by its name -/
structure KeepsG (P : Program) (w : World) (K : PySem.W.Frag) (mg : Str → Option Value) (base : Heap) (k : Nat) (x : Str) (ps : List Str) (sp : Sp) : Prop where
  ex : ∃ (f : Addr) (fd : FuncData), FnG P w K mg base k f fd ps sp ∧ mg x = some (.ref f) ∧ PySem.W.keepIn K (.ref f) = true ∧ Binds K fd ps []
theorem Lies.keepsG {P : Program} {w : World} {K : PySem.W.Frag} {mg : Str → Option Value} {base : Heap} {x : Str} {st : Stmt} {N ps : List Str} {k : Nat} {sp : Sp} (D : Lies K mg x st) (S : FnScope N ps (defScope st))
    (hb : ∀ (kV doc pm : Value) (an : Option Addr) (cdv ct : Value) (us : List Value), us.length = ps.length → bindArgs (PySem.W.fnOf x x (defArgs st) (defBody st) (defScope st) .none kV doc pm an cdv ct) ⟨us, []⟩ = pure (ps.zip us))
    (len : ∀ vs H Q E, sp vs H Q E → vs.length = ps.length)
    (body : ∀ (f : Addr) (cdv : Value) (A : Around) (outer : List Env) (s : Shared) (H : Hp) (vs : List V) (Q : VK), A.guards = some [] → Room k (A.deeper (envOfC x (defScope st) s.heap.objs.size f cdv)) → sp vs H Q E0 →
      ∃ t, PSs (cxOf CX0 P w K mg base N x (defScope st) f cdv A outer s H E0).nox (defBody st) t ∧ t { nx := fun _ H' => Q .non H', rt := Q } (start N vs) H) : KeepsG P w K mg base (k + 1) x ps sp := by
  obtain ⟨f, fd, F, hm⟩ := D.ex
  exact ⟨f, fd, fnG_of F S len (body f), hm, F.kp, F.binds hb⟩
section
variable {X : Cx}
theorem pe_goG {k : Nat} {x : Str} {p pos : Pos} {e : Expr} {es : List Expr} {ps : List Str} {sp : Sp} {t : TA} (G : KeepsG X.prog X.w X.K X.mg X.base k x ps sp) (hgd : X.A.guards = some []) (hr : Room k X.A) (hg : Gl X x) (ha : PA X (e :: es) t)
    (hdb : (x == ("__debug__" : Str)) = false := by decide) (he : starEach (e :: es) X.env = (false, eval e X.env) :: starEach es X.env := by rfl) (hpl : (backTo pos (starEach es X.env)).any (·.1) = false := by rfl) :
    PE X (.Call (.Name x p) (e :: es) [] pos) (tCall sp [] E0 t) := by
  obtain ⟨f, fd, F, hm, hk, hb⟩ := G.ex
  refine ⟨fun pins s σ H Q I h => wpAny_Call_Name_kw (ld_glob I hg hm ?_ hdb)⟩
  refine PySem.W.callWith_K (h₀ := X.base) I.ok.mod.kin hk (thn (ha.run pos pins s σ H _ I h) fun us s1 z => ?_) he hpl
  obtain ⟨vs, H1, J, rv, q⟩ := z
  have q : sp (vs ++ []) H1 Q E0 := q
  rw [List.append_nil] at q
  refine ⟨J.kIn, ?_⟩
  have many : us.length = ps.length := by
    rw [← rv.length]
    exact F.len _ _ _ _ q
  have bd := hb s1 us J.kIn (by rw [List.append_nil]; exact many)
  rw [List.append_nil] at bd
  refine wpAny_call (codeAny_mono (F.run X.A X.stack s1 H1 ⟨us, []⟩ us vs Q hr hgd J.env0 bd rv q) fun r s2 hq => ?_)
  cases r with
  | error er => exact False.elim hq
  | ok fl =>
    cases fl with
    | ret u => exact J.after hq
    | next => exact hq.elim
    | brk => exact hq.elim
    | cont => exact hq.elim
/-- repr of data: its text -/
theorem call_reprD (hgd : X.A.guards = some []) (hr : Room 1 X.A) : CallR X (.builtin "repr") fun xs H Q =>
    ∃ (a : Addr) (d : PyData), xs = [.ref a] ∧ Dp X.K H (.ref a) d ∧ d.showable = true ∧ d.hasDict = false ∧ d.depth ≤ 20 ∧ d.shown.length ≤ sizeLine ∧ Q (.str d.shown) H := by
  intro pins s σ H xs us Q I r h
  obtain ⟨a, d, rfl, hd, sh, nd, dep, sz, q⟩ := h
  cases r with
  | cons rv rn =>
    cases rn
    obtain ⟨as, rd⟩ := Dp.reads I d _ _ hd rv
    cases rv
    have un := hr.un
    refine repr_of_reads' rd sh (fun z => ?_) hgd (by omega) (fun b o e => e) (fun h' u tk keep => ?_) sz
    · rw [nd] at z
      cases z
    · exact ⟨.str d.shown, H, I.kept (t' := tk) keep, ⟨u, rfl⟩, q⟩
end
end Ct

/-! Entries as data: what repr and == read. -/
namespace Ct
open PySem PySem.Spec PyProof.Rows L2 TL
def frD (f : Int × Int) : PyData := .tuple [.int f.1, .int f.2]
def entD (e : Str × Int × Int) : PyData := .tuple [.str e.1, frD e.2]
section
variable {K : PySem.W.Frag} {H : Hp}
theorem FrAt.dp {v : V} {f : Int × Int} : FrAt K H v f → Dp K H v (frD f) := fun ⟨t, e, h⟩ => e ▸ .tup h (.cons (.int _) (.cons (.int _) .nil))
theorem EntAt.dp {v : V} {e : Str × Int × Int} : EntAt K H v e → Dp K H v (entD e) := fun ⟨t, u, q, h, r⟩ => q ▸ .tup h (.cons (.str _) (.cons r.dp .nil))
theorem ents_dp {xs : List V} {es : List (Str × Int × Int)} (h : Paired (EntAt K H) xs es) : DpAll K H xs (es.map entD) := by
  induction h with
  | nil => exact .nil
  | cons r _ ih => exact .cons r.dp ih
end
structure EntOk (e : Str × Int × Int) : Prop where
  nm : Name e.1
  fr : FrOk e.2
theorem sign_low {x : Str} (h : Name x) : ∀ c ∈ x.cps.toList, c ≤ 122 := fun c hc => (h.2.2.1 c hc).2
theorem int_weight {i : Int} (h : i.natAbs < 2 ^ 1000) : PyData.weight (.int i) ≤ 1000 := by
  simp only [PyData.weight]
  split
  · exact Nat.zero_le _
  · rename_i z
    have n0 : i.natAbs ≠ 0 := fun q => z (by rw [Int.natAbs_eq_zero.mp q]; rfl)
    have := (Nat.log2_lt n0).mpr h
    omega
theorem fr_weight {f : Int × Int} (h : FrOk f) : (frD f).weight ≤ 2002 := by
  have a := int_weight h.2.2.1
  have b := int_weight h.2.2.2
  simp only [frD, PyData.weight, PyData.weightAll] at a b ⊢
  omega
theorem ent_weight {e : Str × Int × Int} (h : EntOk e) : (entD e).weight ≤ 2010 := by
  have a := fr_weight h.fr
  have b : e.1.cps.size ≤ 6 := h.nm.2.1
  simp only [entD, PyData.weight, PyData.weightAll] at a b ⊢
  omega
theorem ents_weight : ∀ {es : List (Str × Int × Int)}, (∀ e ∈ es, EntOk e) → PyData.weightAll (es.map entD) ≤ 2011 * es.length
  | [], _ => by simp [PyData.weightAll]
  | e :: r, h => by
    have a := ent_weight (h e List.mem_cons_self)
    have b := ents_weight fun z hz => h z (List.mem_cons_of_mem _ hz)
    simp only [List.map_cons, PyData.weightAll, List.length_cons] at a b ⊢
    omega
theorem ent_lay {e : Str × Int × Int} (h : EntOk e) : (entD e).canLay0 = true := by
  have q : PyData.strOk e.1 = true := by
    unfold PyData.strOk
    rw [← Array.all_toList, List.all_eq_true]
    intro c hc
    have := sign_low h.nm c hc
    exact decide_eq_true (by omega)
  simp only [entD, frD, PyData.canLay0, PyData.canLayAll0, q, Bool.and_self, Bool.and_true]
theorem ents_lay : ∀ {es : List (Str × Int × Int)}, (∀ e ∈ es, EntOk e) → PyData.canLayAll0 (es.map entD) = true
  | [], _ => by simp only [List.map_nil, PyData.canLayAll0]
  | e :: r, h => by
    simp only [List.map_cons, PyData.canLayAll0, ent_lay (h e List.mem_cons_self), ents_lay fun z hz => h z (List.mem_cons_of_mem _ hz), Bool.and_self]
theorem ent_depth (e : Str × Int × Int) : (entD e).depth = 2 := by
  simp only [entD, frD, PyData.depth, PyData.depthAll]
  decide
theorem ents_depth : ∀ (es : List (Str × Int × Int)), PyData.depthAll (es.map entD) ≤ 2
  | [] => by simp only [List.map_nil, PyData.depthAll]; decide
  | e :: r => by
    have a := ents_depth r
    simp only [List.map_cons, PyData.depthAll, ent_depth]
    omega
theorem ents_shaped {es : List (Str × Int × Int)} (h : ∀ e ∈ es, EntOk e) : SeqAt.shaped (.list (es.map entD)) = true := by
  have a := ents_depth es
  unfold SeqAt.shaped
  simp only [PyData.canLay0, PyData.depth, ents_lay h, Bool.true_and]
  exact decide_eq_true (by omega)
theorem int_show {i : Int} (h : i.natAbs < 2 ^ 1000) : (PyData.int i).showable = true := by
  simp only [PyData.showable]
  exact decide_eq_true (log_of h)
theorem ent_show {e : Str × Int × Int} (h : EntOk e) : (entD e).showable = true := by
  have a := int_show h.fr.2.2.1
  have b := int_show h.fr.2.2.2
  simp only [PyData.showable] at a b
  simp only [entD, frD, PyData.showable, PyData.showableAll, a, b, Bool.and_self]
theorem ents_show : ∀ {es : List (Str × Int × Int)}, (∀ e ∈ es, EntOk e) → PyData.showableAll (es.map entD) = true
  | [], _ => by simp only [List.map_nil, PyData.showableAll]
  | e :: r, h => by
    simp only [List.map_cons, PyData.showableAll, ent_show (h e List.mem_cons_self), ents_show fun z hz => h z (List.mem_cons_of_mem _ hz), Bool.and_self]
theorem ents_nodict : ∀ (es : List (Str × Int × Int)), PyData.hasDictAll (es.map entD) = false
  | [] => by simp only [List.map_nil, PyData.hasDictAll]
  | e :: r => by
    simp only [List.map_cons, PyData.hasDictAll, ents_nodict r, entD, frD, PyData.hasDict, Bool.or_self]
theorem int_short {i : Int} (h : i.natAbs < 2 ^ 1000) : (PyData.int i).leavesShort 303 = true := by
  simp only [PyData.leavesShort]
  exact decide_eq_true (numText_len h)
theorem ent_short {e : Str × Int × Int} (h : EntOk e) : (entD e).leavesShort 303 = true := by
  have a := int_short h.fr.2.2.1
  have b := int_short h.fr.2.2.2
  have c : (e.1.cps.toList.all fun c => decide (c < 16 ^ 8)) = true := by
    rw [List.all_eq_true]
    intro c hc
    have := sign_low h.nm c hc
    exact decide_eq_true (Nat.lt_of_le_of_lt this (by decide))
  simp only [PyData.leavesShort] at a b
  simp only [entD, frD, PyData.leavesShort, PyData.leavesShortAll, a, b, c, Bool.and_self]
theorem ents_short : ∀ {es : List (Str × Int × Int)}, (∀ e ∈ es, EntOk e) → PyData.leavesShortAll 303 (es.map entD) = true
  | [], _ => by simp only [List.map_nil, PyData.leavesShortAll]
  | e :: r, h => by
    simp only [List.map_cons, PyData.leavesShortAll, ent_short (h e List.mem_cons_self), ents_short fun z hz => h z (List.mem_cons_of_mem _ hz), Bool.and_self]

/-- fractions of fewer than 1000 bits -/
def Fits1 (a : List Rat) : Prop := ∀ r ∈ a, FitR 1000 r
theorem frOk_fr {r : Rat} (h : FitR 1000 r) : FrOk (fr r) := by
  have d0 := r.den_pos
  have h1 := h.1
  have h2 := h.2
  refine ⟨?_, ?_, h1, ?_⟩
  · show 0 < (r.den : Int)
    omega
  · show Int.gcd r.num (r.den : Int) = 1
    have := r.reduced
    rw [Nat.Coprime] at this
    unfold Int.gcd
    simpa using this
  · show ((r.den : Int)).natAbs < 2 ^ 1000
    simpa using h2
theorem ratD_fr (r : Rat) : ratD r = frD (fr r) := rfl
theorem fr_lay (f : Int × Int) : (frD f).canLay0 = true := rfl
theorem fr_depth (f : Int × Int) : (frD f).depth ≤ 2 := by
  simp only [frD, PyData.depth, PyData.depthAll]
  decide
theorem fr_show {f : Int × Int} (h : FrOk f) : (frD f).showable = true := by
  have a := int_show h.2.2.1
  have b := int_show h.2.2.2
  simp only [frD, PyData.showable, PyData.showableAll] at a b ⊢
  simp only [a, b, Bool.and_self]
theorem fr_short {f : Int × Int} (h : FrOk f) : (frD f).leavesShort 303 = true := by
  have a := int_short h.2.2.1
  have b := int_short h.2.2.2
  simp only [frD, PyData.leavesShort, PyData.leavesShortAll] at a b ⊢
  simp only [a, b, Bool.and_self]
structure Shows (d : PyData) : Prop where
  show_ : d.showable = true
  nodict : d.hasDict = false
  flat : d.depth ≤ 20
  short : d.shown.length ≤ sizeLine
theorem rat_shows {r : Rat} (h : FitR 1000 r) : Shows (ratD r) := by
  have f := frOk_fr h
  refine ⟨by rw [ratD_fr]; exact fr_show f, rfl, ?_, ?_⟩
  · rw [ratD_fr]
    have := fr_depth (fr r)
    omega
  · have w := fr_weight f
    have l := fr_short f
    rw [← ratD_fr] at w l
    have := PyData.shown_le 303 (by decide) _ l
    show _ ≤ 16777216
    omega
theorem rats_weight : ∀ {rs : List Rat}, Fits1 rs → PyData.weightAll (rs.map ratD) ≤ 2011 * rs.length
  | [], _ => by simp [PyData.weightAll]
  | r :: rs, h => by
    have a := fr_weight (frOk_fr (h r List.mem_cons_self))
    have b := rats_weight fun z hz => h z (List.mem_cons_of_mem _ hz)
    simp only [List.map_cons, PyData.weightAll, List.length_cons, ratD_fr] at a b ⊢
    omega
theorem rats_showA : ∀ {rs : List Rat}, Fits1 rs → PyData.showableAll (rs.map ratD) = true
  | [], _ => by simp only [List.map_nil, PyData.showableAll]
  | r :: rs, h => by
    have a := fr_show (frOk_fr (h r List.mem_cons_self))
    rw [← ratD_fr] at a
    simp only [List.map_cons, PyData.showableAll, a, rats_showA fun z hz => h z (List.mem_cons_of_mem _ hz), Bool.and_self]
theorem rats_nodict : ∀ (rs : List Rat), PyData.hasDictAll (rs.map ratD) = false
  | [] => by simp only [List.map_nil, PyData.hasDictAll]
  | r :: rs => by
    simp only [List.map_cons, PyData.hasDictAll, rats_nodict rs, ratD, PyData.hasDict, Bool.or_self]
theorem rats_shortA : ∀ {rs : List Rat}, Fits1 rs → PyData.leavesShortAll 303 (rs.map ratD) = true
  | [], _ => by simp only [List.map_nil, PyData.leavesShortAll]
  | r :: rs, h => by
    have a := fr_short (frOk_fr (h r List.mem_cons_self))
    rw [← ratD_fr] at a
    simp only [List.map_cons, PyData.leavesShortAll, a, rats_shortA fun z hz => h z (List.mem_cons_of_mem _ hz), Bool.and_self]
theorem rats_shows {rs : List Rat} (h : Fits1 rs) (few : rs.length ≤ 8) : Shows (ratsD rs) := by
  refine ⟨?_, ?_, ?_, ?_⟩
  · simp only [ratsD, PyData.showable, rats_showA h]
  · simp only [ratsD, PyData.hasDict, rats_nodict]
  · have := rats_depth rs
    simp only [ratsD, PyData.depth]
    omega
  · have w : (ratsD rs).weight ≤ 20000 := by
      have a := rats_weight h
      simp only [ratsD, PyData.weight]
      omega
    have l : (ratsD rs).leavesShort 303 = true := by
      simp only [ratsD, PyData.leavesShort, rats_shortA h]
    have := PyData.shown_le 303 (by decide) _ l
    show _ ≤ 16777216
    omega
/-- told pairs of a name and a fraction -/
def potsD (es : List (Str × Rat)) : PyData := .tuple (es.map fun e => entD (e.1, fr e.2))
theorem pots_shows {es : List (Str × Rat)} (h : ∀ e ∈ es, Name e.1 ∧ FitR 1000 e.2) (few : es.length ≤ 8) : Shows (potsD es) := by
  have ok : ∀ e ∈ es.map (fun e => (e.1, fr e.2)), EntOk e := by
    intro e he
    obtain ⟨x, hx, rfl⟩ := List.mem_map.mp he
    exact ⟨(h x hx).1, frOk_fr (h x hx).2⟩
  have q : potsD es = .tuple ((es.map fun e => (e.1, fr e.2)).map entD) := by
    unfold potsD
    rw [List.map_map]
    rfl
  have len : (es.map fun e => (e.1, fr e.2)).length = es.length := List.length_map ..
  rw [q]
  generalize es.map (fun e => (e.1, fr e.2)) = l at *
  refine ⟨?_, ?_, ?_, ?_⟩
  · simp only [PyData.showable, ents_show ok]
  · simp only [PyData.hasDict, ents_nodict]
  · have := ents_depth l
    simp only [PyData.depth]
    omega
  · have w : (PyData.tuple (l.map entD)).weight ≤ 20000 := by
      have a := ents_weight ok
      simp only [PyData.weight]
      omega
    have s : (PyData.tuple (l.map entD)).leavesShort 303 = true := by
      simp only [PyData.leavesShort, ents_short ok]
    have := PyData.shown_le 303 (by decide) _ s
    show _ ≤ 16777216
    omega
theorem dpAll_pots {K : PySem.W.Frag} {H : Hp} {xs : List V} {es : List (Str × Rat)} (p : Paired (fun v (e : Str × Rat) => ∃ t u, v = .ref t ∧ SqT K H t [.str e.1, u] ∧ RatAt K H u e.2) xs es) : DpAll K H xs (es.map fun e => entD (e.1, fr e.2)) := by
  induction p with
  | nil => exact .nil
  | cons r _ ih =>
    obtain ⟨t, u, rfl, ht, hu⟩ := r
    exact .cons (.tup ht (.cons (.str _) (.cons hu.dp .nil))) ih
theorem PotsAt.dp {K : PySem.W.Frag} {H : Hp} {v : V} {es : List (Str × Rat)} : PotsAt K H v es → Dp K H v (potsD es) := fun ⟨a, xs, e, h, p⟩ => e ▸ .tup h (dpAll_pots p)
end Ct

/-! Circuits by hand: the written data. -/
namespace Ct
open PySem PySem.Spec PyProof.Rows L2 TL RZ
structure Hand where
  src : List (Str × Int)
  prt : List (Str × Int)
  ties : Ties
  start : List (Int × Int)
  due : List (Int × Int)
  told : Option (List (Str × Int × Int))
structure Firm {β : Type} (R : Hp → V → β → Prop) : Prop where
  same : ∀ {H H' : Hp}, Same H H' → ∀ v e, R H v e → R H' v e
  list : ∀ {H : Hp} {D : Addr} {acc acc' : List V}, H D = some (.lst acc) → ∀ v e, R H v e → R (upd H D (.lst acc')) v e
section
variable {K : PySem.W.Frag}
theorem IntEnt.list {H : Hp} {D : Addr} {acc acc' : List V} (hD : H D = some (.lst acc)) {v : V} {e : Str × Int} : IntEnt K H v e → IntEnt K (upd H D (.lst acc')) v e := fun ⟨t, e, h⟩ => ⟨t, e, SqT.list hD h⟩
theorem firm_int : Firm (fun H v e => IntEnt K H v e) := ⟨fun s _ _ h => h.same s, fun hD _ _ h => h.list hD⟩
theorem firm_tie : Firm (fun H v e => TieAt K H v e) := ⟨fun s _ _ h => h.same s, fun hD _ _ h => h.list hD⟩
theorem firm_fr : Firm (fun H v e => FrAt K H v e) := ⟨fun s _ _ h => h.same s, fun hD _ _ h => h.list hD⟩
theorem firm_ent : Firm (fun H v e => EntAt K H v e) := ⟨fun s _ _ h => h.same s, fun hD _ _ h => h.list hD⟩
/-- a list that is not F -/
def LsX {β : Type} (F : Addr) (H : Hp) (R : Hp → V → β → Prop) (v : V) (es : List β) : Prop := ∃ a vs, v = .ref a ∧ a ≠ F ∧ H a = some (.lst vs) ∧ Paired (R H) vs es
theorem LsX.same {β : Type} {R : Hp → V → β → Prop} (f : Firm R) {F : Addr} {H H' : Hp} (s : Same H H') {v : V} {es : List β} : LsX F H R v es → LsX F H' R v es := fun ⟨a, vs, e, n, h, p⟩ => ⟨a, vs, e, n, s _ _ h, p.mono (f.same s)⟩
theorem LsX.list {β : Type} {R : Hp → V → β → Prop} (f : Firm R) {F : Addr} {H : Hp} {acc acc' : List V} (hF : H F = some (.lst acc)) {v : V} {es : List β} : LsX F H R v es → LsX F (upd H F (.lst acc')) R v es := fun ⟨a, vs, e, n, h, p⟩ => ⟨a, vs, e, n, (upd_ne n).trans h, p.mono (f.list hF)⟩
def ToX (K : PySem.W.Frag) (F : Addr) (H : Hp) (v : V) : Option (List (Str × Int × Int)) → Prop
  | none => v = .non
  | some l => LsX F H (fun H v e => EntAt K H v e) v l
theorem ToX.same {F : Addr} {H H' : Hp} (s : Same H H') {v : V} {o : Option (List (Str × Int × Int))} (h : ToX K F H v o) : ToX K F H' v o := by
  cases o with
  | none => exact h
  | some l => exact LsX.same firm_ent s h
theorem ToX.list {F : Addr} {H : Hp} {acc acc' : List V} (hF : H F = some (.lst acc)) {v : V} {o : Option (List (Str × Int × Int))} (h : ToX K F H v o) : ToX K F (upd H F (.lst acc')) v o := by
  cases o with
  | none => exact h
  | some l => exact LsX.list firm_ent hF h
def HandX (K : PySem.W.Frag) (F : Addr) (H : Hp) (v : V) (h : Hand) : Prop := ∃ t s p ti st du to, v = .ref t ∧ SqT K H t [s, p, ti, st, du, to] ∧ LsX F H (fun H v e => IntEnt K H v e) s h.src ∧ LsX F H (fun H v e => IntEnt K H v e) p h.prt ∧ LsX F H (fun H v e => TieAt K H v e) ti h.ties ∧
  LsX F H (fun H v e => FrAt K H v e) st h.start ∧ LsX F H (fun H v e => FrAt K H v e) du h.due ∧ ToX K F H to h.told
theorem HandX.same {F : Addr} {H H' : Hp} (s : Same H H') {v : V} {h : Hand} : HandX K F H v h → HandX K F H' v h := fun ⟨t, a, b, c, d, e, f, q, g, h1, h2, h3, h4, h5, h6⟩ =>
  ⟨t, a, b, c, d, e, f, q, SqT.same s g, h1.same firm_int s, h2.same firm_int s, h3.same firm_tie s, h4.same firm_fr s, h5.same firm_fr s, h6.same s⟩
theorem HandX.list {F : Addr} {H : Hp} {acc acc' : List V} (hF : H F = some (.lst acc)) {v : V} {h : Hand} : HandX K F H v h → HandX K F (upd H F (.lst acc')) v h := fun ⟨t, a, b, c, d, e, f, q, g, h1, h2, h3, h4, h5, h6⟩ =>
  ⟨t, a, b, c, d, e, f, q, SqT.list hF g, h1.list firm_int hF, h2.list firm_int hF, h3.list firm_tie hF, h4.list firm_fr hF, h5.list firm_fr hF, h6.list hF⟩
/-- written items, told as es -/
def YsL {β : Type} (R : Hp → V → β → Prop) (ta : TA) (es : List β) : Prop := ∀ (σ : L2.St) (H : Hp) (Q : List V → Hp → Prop), (∀ vs H', Same H H' → Paired (R H') vs es → Q vs H') → ta σ H Q
theorem y_nil {β : Type} {R : Hp → V → β → Prop} : YsL R tNil [] := fun _ H _ k => k [] H (Same.refl H) .nil
theorem y_item {β : Type} {R : Hp → V → β → Prop} (f : Firm R) {te : TE} {t : TA} {e : β} {es : List β} (h : ∀ (σ : L2.St) (H : Hp) (Q : VK), (∀ v H', Same H H' → R H' v e → Q v H') → te σ H Q) (r : YsL R t es) : YsL R (tCons te t) (e :: es) := fun σ H Q k =>
  h σ H _ fun v H1 s1 h1 => r σ H1 _ fun vs H2 s2 h2 => k (v :: vs) H2 (s1.trans s2) (.cons (f.same s2 _ _ h1) h2)
theorem y_int {x : Str} {i : Int} {t : TA} {es : List (Str × Int)} (r : YsL (fun H v e => IntEnt K H v e) t es) : YsL (fun H v e => IntEnt K H v e) (tCons (tTup (tCons (tC (.str x)) (tCons (tC (.int i)) tNil))) t) ((x, i) :: es) :=
  y_item firm_int (fun σ H Q k => ⟨by show 2 ≤ sizeLine; decide, fun p np => k _ _ (same_upd np) ⟨p, rfl, SqT.of upd_same⟩⟩) r
theorem y_tie {x y z : Str} {t : TA} {es : Ties} (r : YsL (fun H v e => TieAt K H v e) t es) : YsL (fun H v e => TieAt K H v e) (tCons (tTup (tCons (tC (.str x)) (tCons (tC (.str y)) (tCons (tC (.str z)) tNil)))) t) ((x, y, z) :: es) :=
  y_item firm_tie (fun σ H Q k => ⟨by show 3 ≤ sizeLine; decide, fun p np => k _ _ (same_upd np) ⟨p, rfl, SqT.of upd_same⟩⟩) r
theorem y_fr {a b : Int} {t : TA} {es : List (Int × Int)} (r : YsL (fun H v e => FrAt K H v e) t es) : YsL (fun H v e => FrAt K H v e) (tCons (tTup (tCons (tC (.int a)) (tCons (tC (.int b)) tNil))) t) ((a, b) :: es) :=
  y_item firm_fr (fun σ H Q k => ⟨by show 2 ≤ sizeLine; decide, fun p np => k _ _ (same_upd np) ⟨p, rfl, SqT.of upd_same⟩⟩) r
theorem y_frn {a b : Int} {t : TA} {es : List (Int × Int)} (r : YsL (fun H v e => FrAt K H v e) t es) : YsL (fun H v e => FrAt K H v e) (tCons (tTup (tCons (tUn (rU fun i => .int (-i)) (tC (.int a))) (tCons (tC (.int b)) tNil))) t) ((-a, b) :: es) :=
  y_item firm_fr (fun σ H Q k => ⟨a, rfl, by show 2 ≤ sizeLine; decide, fun p np => k _ _ (same_upd np) ⟨p, rfl, SqT.of upd_same⟩⟩) r
theorem y_ent {x : Str} {a b : Int} {t : TA} {es : List (Str × Int × Int)} (r : YsL (fun H v e => EntAt K H v e) t es) : YsL (fun H v e => EntAt K H v e) (tCons (tTup (tCons (tC (.str x)) (tCons (tTup (tCons (tC (.int a)) (tCons (tC (.int b)) tNil))) tNil))) t) ((x, a, b) :: es) :=
  y_item firm_ent (fun σ H Q k => ⟨by show 2 ≤ sizeLine; decide, fun p np => ⟨by show 2 ≤ sizeLine; decide, fun q nq => k _ _ ((same_upd np).trans (same_upd nq)) ⟨q, .ref p, rfl, SqT.of upd_same, p, rfl, SqT.of ((same_upd nq) _ _ upd_same)⟩⟩⟩) r
theorem into_par {i j : Nat} {ta : TA} {D : Ends} {σ : L2.St} {H : Hp} (h : ta σ H fun vs H1 => ∃ v w, vs = [v, w] ∧ D.nx ((σ.set i (some v)).set j (some w)) H1) : tPar i j ta D σ H := h
theorem into_lst {t : TA} {σ : L2.St} {H : Hp} {Q : VK} (h : t σ H fun xs H1 => xs.length ≤ sizeLine ∧ ∀ p, H1 p = none → Q (.ref p) (upd H1 p (.lst xs))) : tLst t σ H Q := h
theorem into_tup {t : TA} {σ : L2.St} {H : Hp} {Q : VK} (h : t σ H fun xs H1 => xs.length ≤ sizeLine ∧ ∀ p, H1 p = none → Q (.ref p) (upd H1 p (.tup xs))) : tTup t σ H Q := h
theorem into_cons {te : TE} {t : TA} {σ : L2.St} {H : Hp} {Q : List V → Hp → Prop} (h : te σ H fun x H1 => t σ H1 fun xs H2 => Q (x :: xs) H2) : tCons te t σ H Q := h
/-- what stands while the rows are gathered in F -/
structure Cur (K : PySem.W.Frag) (H0 : Hp) (F : Addr) (H : Hp) (hs : List Hand) : Prop where
  sub : Same H0 H
  new : H0 F = none
  rows : ∃ acc, H F = some (.lst acc) ∧ acc.length ≤ 100 ∧ acc.length = hs.length ∧ Paired (HandX K F H) acc hs
/-- lists go on -/
def Move (F : Addr) (H H' : Hp) : Prop := ∀ (β : Type) (R : Hp → V → β → Prop), Firm R → ∀ v es, LsX F H R v es → LsX F H' R v es
theorem Cur.same {H0 H H' : Hp} {F : Addr} {hs : List Hand} (s : Same H H') (c : Cur K H0 F H hs) : Cur K H0 F H' hs ∧ Move F H H' := by
  obtain ⟨acc, h1, h2, h3, h4⟩ := c.rows
  exact ⟨⟨c.sub.trans s, c.new, acc, s _ _ h1, h2, h3, h4.mono fun _ _ h => h.same s⟩, fun _ _ f _ _ h => h.same f s⟩
theorem cur_lst {β : Type} {R : Hp → V → β → Prop} (f : Firm R) {ta : TA} {es : List β} {σ : L2.St} {H0 H : Hp} {Q : VK} {F : Addr} {hs : List Hand} (c : Cur K H0 F H hs) (few : es.length ≤ 100) (y : YsL R ta es) (k : ∀ v H', Cur K H0 F H' hs → Move F H H' → LsX F H' R v es → Q v H') : tLst ta σ H Q := by
  refine y σ H _ fun vs H1 s1 p1 => ⟨?_, fun l nl => ?_⟩
  · rw [p1.length]
    exact Nat.le_trans few (by decide)
  · have s2 := same_upd (o := .lst vs) nl
    obtain ⟨c2, m2⟩ := c.same (s1.trans s2)
    refine k _ _ c2 m2 ⟨l, vs, rfl, fun e => ?_, upd_same, p1.mono (f.same s2)⟩
    obtain ⟨acc, h1, _⟩ := c.rows
    rw [e, s1 _ _ h1] at nl
    cases nl
theorem cur_rep {e : Int × Int} {ta : TA} {n : Nat} {σ : L2.St} {H0 H : Hp} {Q : VK} {F : Addr} {hs : List Hand} (c : Cur K H0 F H hs) (few : n ≤ 100) (y : YsL (fun H v e => FrAt K H v e) ta [e]) (k : ∀ v H', Cur K H0 F H' hs → Move F H H' → LsX F H' (fun H v e => FrAt K H v e) v (List.replicate n e) → Q v H') : tOp rRep (tLst ta) (tC (.int (n : Int))) σ H Q := by
  refine cur_lst firm_fr c (by show 1 ≤ 100; decide) y fun v H1 c1 m1 h1 => ?_
  obtain ⟨a, vs, rfl, ne, ha, p1⟩ := h1
  cases p1 with
  | cons r t =>
    cases t
    rename_i x
    refine ⟨a, (n : Int), [x], rfl, rfl, ha, by omega, by omega, by show 1 * ((n : Int)).toNat ≤ 16777216; omega, fun p np => ?_⟩
    rw [show (List.replicate ((n : Int)).toNat [x]).flatten = List.replicate n x by rw [Int.toNat_natCast, flat_one]]
    have s2 := same_upd (o := .lst (List.replicate n x)) np
    obtain ⟨c2, m2⟩ := c1.same s2
    refine k _ _ c2 (fun β R f v es h => m2 β R f v es (m1 β R f v es h)) ⟨p, _, rfl, fun e => ?_, upd_same, ?_⟩
    · obtain ⟨acc, h1, _⟩ := c1.rows
      rw [e, h1] at np
      cases np
    · exact pair_rep (r.same s2) n
/-- one more row -/
theorem cur_app {H0 H : Hp} {Q : VK} {F : Addr} {hs : List Hand} {s pp ti st du to : V} (h : Hand) (c : Cur K H0 F H hs) (few : hs.length < 100) (h1 : LsX F H (fun H v e => IntEnt K H v e) s h.src) (h2 : LsX F H (fun H v e => IntEnt K H v e) pp h.prt) (h3 : LsX F H (fun H v e => TieAt K H v e) ti h.ties)
    (h4 : LsX F H (fun H v e => FrAt K H v e) st h.start) (h5 : LsX F H (fun H v e => FrAt K H v e) du h.due) (h6 : ToX K F H to h.told) (k : ∀ H', Cur K H0 F H' (hs ++ [h]) → Move F H H' → Q .non H') :
    ([s, pp, ti, st, du, to] : List V).length ≤ sizeLine ∧ ∀ p, H p = none → rAppend (.ref F) [.ref p] (upd H p (.tup [s, pp, ti, st, du, to])) Q := by
  refine ⟨by show 6 ≤ sizeLine; decide, fun p np => ?_⟩
  obtain ⟨acc, hF, e1, e2, pa⟩ := c.rows
  have s1 := same_upd (o := .tup [s, pp, ti, st, du, to]) np
  have hT : SqT K (upd H p (.tup [s, pp, ti, st, du, to])) p [s, pp, ti, st, du, to] := SqT.of upd_same
  generalize upd H p (.tup [s, pp, ti, st, du, to]) = H1 at *
  have hF1 := s1 _ _ hF
  refine ⟨F, acc, .ref p, rfl, rfl, hF1, by show acc.length < 16777216; omega, ?_⟩
  refine k _ ⟨same_but (c.sub.trans s1) c.new, c.new, acc ++ [.ref p], upd_same, ?_, ?_, ?_⟩ fun β R f v es q => (q.same f s1).list f hF1
  · rw [List.length_append, List.length_singleton]
    omega
  · rw [List.length_append, List.length_append, e2]
    rfl
  · exact (pa.mono fun _ _ q => (q.same s1).list hF1).snoc (HandX.list hF1 ⟨p, s, pp, ti, st, du, to, rfl, hT, h1.same firm_int s1, h2.same firm_int s1, h3.same firm_tie s1, h4.same firm_fr s1, h5.same firm_fr s1, h6.same s1⟩)
theorem cur_end {H0 H : Hp} {Q : VK} {F : Addr} {hs : List Hand} {s pp ti st du to : V} (h : Hand) (c : Cur K H0 F H hs) (h1 : LsX F H (fun H v e => IntEnt K H v e) s h.src) (h2 : LsX F H (fun H v e => IntEnt K H v e) pp h.prt) (h3 : LsX F H (fun H v e => TieAt K H v e) ti h.ties)
    (h4 : LsX F H (fun H v e => FrAt K H v e) st h.start) (h5 : LsX F H (fun H v e => FrAt K H v e) du h.due) (h6 : ToX K F H to h.told) (k : ∀ q xs H', Same H0 H' → H' q = some (.lst xs) → Paired (HandX K F H') xs (hs ++ [h]) → Q (.ref q) H') :
    ([s, pp, ti, st, du, to] : List V).length ≤ sizeLine ∧ ∀ p, H p = none → ([V.ref p] : List V).length ≤ sizeLine ∧ ∀ l, (upd H p (.tup [s, pp, ti, st, du, to])) l = none → rCat (.ref F) (.ref l) (upd (upd H p (.tup [s, pp, ti, st, du, to])) l (.lst [.ref p])) Q := by
  refine ⟨by show 6 ≤ sizeLine; decide, fun p np => ⟨by show 1 ≤ sizeLine; decide, fun l nl => ?_⟩⟩
  obtain ⟨acc, hF, e1, e2, pa⟩ := c.rows
  have s1 := same_upd (o := .tup [s, pp, ti, st, du, to]) np
  have hT : SqT K (upd H p (.tup [s, pp, ti, st, du, to])) p [s, pp, ti, st, du, to] := SqT.of upd_same
  generalize upd H p (.tup [s, pp, ti, st, du, to]) = H1 at *
  have s2 := same_upd (o := .lst [V.ref p]) nl
  have hl : (upd H1 l (.lst [V.ref p])) l = some (.lst [V.ref p]) := upd_same
  generalize upd H1 l (.lst [V.ref p]) = H2 at *
  refine ⟨F, l, acc, [.ref p], rfl, rfl, s2 _ _ (s1 _ _ hF), hl, by show acc.length + 1 ≤ 16777216; omega, fun q nq => ?_⟩
  have s3 := same_upd (o := .lst (acc ++ [V.ref p])) nq
  have s13 := s1.trans (s2.trans s3)
  refine k q _ _ (c.sub.trans s13) upd_same ?_
  exact (pa.mono fun _ _ h => h.same s13).snoc ⟨p, s, pp, ti, st, du, to, rfl, SqT.same (s2.trans s3) hT, h1.same firm_int s13, h2.same firm_int s13, h3.same firm_tie s13, h4.same firm_fr s13, h5.same firm_fr s13, h6.same s13⟩
end
def hand1 : Hand := ⟨[("e", 3)], [("a", 1), ("b", 2)], [("a", "x", "e"), ("b", "x", "gnd")], [(3, 1), (0, 1)], [(-1, 1), (2, 1)], some [("x", 2, 1)]⟩
def hand2 : Hand := ⟨[("e", 6)], [("a", 1), ("b", 2), ("c", 3)], [("a", "e", "m"), ("b", "m", "n"), ("c", "n", "gnd")], [(0, 1), (0, 1), (0, 1)], [(36, 11), (18, 11), (12, 11)], some [("m", 30, 11), ("n", 12, 11)]⟩
def hand3 : Hand := ⟨[("e", 5)], [("a", 1), ("b", 2), ("c", 3), ("d", 1), ("f", 1)], [("a", "e", "m"), ("b", "m", "gnd"), ("c", "e", "n"), ("d", "n", "gnd"), ("f", "m", "n")], [(0, 1), (0, 1), (0, 1), (0, 1), (0, 1)], [(55, 19), (40, 19), (30, 19), (65, 19), (-25, 19)], some [("m", 40, 19), ("n", 65, 19)]⟩
def hand4 : Hand := ⟨[], [("a", 2), ("b", 1)], [("a", "x", "y"), ("b", "x", "y")], [(4, 1), (1, 1)], [(3, 1), (3, 1)], none⟩
def hand5 : Hand := ⟨[], [("a", 2), ("b", 1)], [("a", "x", "y"), ("b", "y", "x")], [(4, 1), (1, 1)], [(7, 3), (-7, 3)], none⟩
def hand6 : Hand := ⟨[("e", 2), ("h", 1)], [("a", 5), ("b", 1), ("c", 2), ("d", 4)], [("a", "p", "p"), ("b", "q", "gnd"), ("d", "e", "h")], [(9, 2), (7, 1), (-1, 3), (0, 1)], [(0, 1), (7, 1), (-1, 3), (1, 1)], none⟩
def hands : List Hand := [hand1, hand2, hand3, hand4, hand5, hand6]
abbrev s_l_hand : Stmt := top 91
abbrev N_l_hand : List Str := ["found", "ties", "due", "parts", "ring", "start"]
theorem sc_l_hand : FnScope N_l_hand [] (defScope s_l_hand) := ⟨rfl, rfl, rfl, by decide +kernel, rfl, by decide +kernel, by decide +kernel⟩
def spHand (K : PySem.W.Frag) : Sp := fun vs H Q _ => vs = [] ∧ ∀ F q xs H', Same H H' → H' q = some (.lst xs) → Paired (HandX K F H') xs hands → Q (.ref q) H'
section
variable {P : Program} {w : World} {K : PySem.W.Frag} {mg : Str → Option Value} {base : Heap}
theorem k_law_hand (D : Lies K mg "_law_hand" s_l_hand) (T : Plain mg) : Keeps P w K mg base 1 "_law_hand" [] (spHand K) := by
  refine D.keeps sc_l_hand (fun _ _ _ _ _ _ us hl => match us, hl with | [], _ => rfl) (fun vs H Q E h => ?_) (fun f cdv A outer s0 H vs Q E hr h => ?_)
  · obtain ⟨rfl, _⟩ := h
    rfl
  · obtain ⟨rfl, k⟩ := h
    refine ⟨_, (pss_cons (ps_set (i := 0) sc_l_hand.nd rfl (Or.inl rfl) (pe_lst pa_nil))
      (pss_cons (ps_set (i := 1) sc_l_hand.nd rfl (Or.inl rfl) (pe_lst (pa_cons (pe_tup (pa_cons pe_str (pa_cons pe_str (pa_cons pe_str pa_nil)))) (pa_cons (pe_tup (pa_cons pe_str (pa_cons pe_str (pa_cons pe_str pa_nil)))) pa_nil))))
      (pss_cons (ps_expr (pe_bm PySem.F.plainAttrs_list PySem.F.slot_list_append PySem.F.type_list_append mt_append (pv 0) (pa_cons (pe_tup (pa_cons (pe_lst (pa_cons (pe_tup (pa_cons pe_str (pa_cons pe_int pa_nil))) pa_nil)) (pa_cons (pe_lst (pa_cons (pe_tup (pa_cons pe_str (pa_cons pe_int pa_nil))) (pa_cons (pe_tup (pa_cons pe_str (pa_cons pe_int pa_nil))) pa_nil))) (pa_cons (pv 1) (pa_cons (pe_lst (pa_cons (pe_tup (pa_cons pe_int (pa_cons pe_int pa_nil))) (pa_cons (pe_tup (pa_cons pe_int (pa_cons pe_int pa_nil))) pa_nil))) (pa_cons (pe_lst (pa_cons (pe_tup (pa_cons (pe_un un_neg pe_int) (pa_cons pe_int pa_nil))) (pa_cons (pe_tup (pa_cons pe_int (pa_cons pe_int pa_nil))) pa_nil))) (pa_cons (pe_lst (pa_cons (pe_tup (pa_cons pe_str (pa_cons (pe_tup (pa_cons pe_int (pa_cons pe_int pa_nil))) pa_nil))) pa_nil)) pa_nil))))))) pa_nil)))
      (pss_cons (ps_set (i := 1) sc_l_hand.nd rfl (Or.inl rfl) (pe_lst (pa_cons (pe_tup (pa_cons pe_str (pa_cons pe_str (pa_cons pe_str pa_nil)))) (pa_cons (pe_tup (pa_cons pe_str (pa_cons pe_str (pa_cons pe_str pa_nil)))) (pa_cons (pe_tup (pa_cons pe_str (pa_cons pe_str (pa_cons pe_str pa_nil)))) pa_nil)))))
      (pss_cons (ps_set (i := 2) sc_l_hand.nd rfl (Or.inl rfl) (pe_lst (pa_cons (pe_tup (pa_cons pe_int (pa_cons pe_int pa_nil))) (pa_cons (pe_tup (pa_cons pe_int (pa_cons pe_int pa_nil))) (pa_cons (pe_tup (pa_cons pe_int (pa_cons pe_int pa_nil))) pa_nil)))))
      (pss_cons (ps_set (i := 3) sc_l_hand.nd rfl (Or.inl rfl) (pe_lst (pa_cons (pe_tup (pa_cons pe_str (pa_cons pe_int pa_nil))) (pa_cons (pe_tup (pa_cons pe_str (pa_cons pe_int pa_nil))) (pa_cons (pe_tup (pa_cons pe_str (pa_cons pe_int pa_nil))) pa_nil)))))
      (pss_cons (ps_expr (pe_bm PySem.F.plainAttrs_list PySem.F.slot_list_append PySem.F.type_list_append mt_append (pv 0) (pa_cons (pe_tup (pa_cons (pe_lst (pa_cons (pe_tup (pa_cons pe_str (pa_cons pe_int pa_nil))) pa_nil)) (pa_cons (pv 3) (pa_cons (pv 1) (pa_cons (pe_op op_rep (pe_lst (pa_cons (pe_tup (pa_cons pe_int (pa_cons pe_int pa_nil))) pa_nil)) pe_int) (pa_cons (pv 2) (pa_cons (pe_lst (pa_cons (pe_tup (pa_cons pe_str (pa_cons (pe_tup (pa_cons pe_int (pa_cons pe_int pa_nil))) pa_nil))) (pa_cons (pe_tup (pa_cons pe_str (pa_cons (pe_tup (pa_cons pe_int (pa_cons pe_int pa_nil))) pa_nil))) pa_nil))) pa_nil))))))) pa_nil)))
      (pss_cons (ps_set (i := 1) sc_l_hand.nd rfl (Or.inl rfl) (pe_lst (pa_cons (pe_tup (pa_cons pe_str (pa_cons pe_str (pa_cons pe_str pa_nil)))) (pa_cons (pe_tup (pa_cons pe_str (pa_cons pe_str (pa_cons pe_str pa_nil)))) (pa_cons (pe_tup (pa_cons pe_str (pa_cons pe_str (pa_cons pe_str pa_nil)))) (pa_cons (pe_tup (pa_cons pe_str (pa_cons pe_str (pa_cons pe_str pa_nil)))) (pa_cons (pe_tup (pa_cons pe_str (pa_cons pe_str (pa_cons pe_str pa_nil)))) pa_nil)))))))
      (pss_cons (ps_set (i := 2) sc_l_hand.nd rfl (Or.inl rfl) (pe_lst (pa_cons (pe_tup (pa_cons pe_int (pa_cons pe_int pa_nil))) (pa_cons (pe_tup (pa_cons pe_int (pa_cons pe_int pa_nil))) (pa_cons (pe_tup (pa_cons pe_int (pa_cons pe_int pa_nil))) (pa_cons (pe_tup (pa_cons pe_int (pa_cons pe_int pa_nil))) (pa_cons (pe_tup (pa_cons (pe_un un_neg pe_int) (pa_cons pe_int pa_nil))) pa_nil)))))))
      (pss_cons (ps_set (i := 3) sc_l_hand.nd rfl (Or.inl rfl) (pe_lst (pa_cons (pe_tup (pa_cons pe_str (pa_cons pe_int pa_nil))) (pa_cons (pe_tup (pa_cons pe_str (pa_cons pe_int pa_nil))) (pa_cons (pe_tup (pa_cons pe_str (pa_cons pe_int pa_nil))) (pa_cons (pe_tup (pa_cons pe_str (pa_cons pe_int pa_nil))) (pa_cons (pe_tup (pa_cons pe_str (pa_cons pe_int pa_nil))) pa_nil)))))))
      (pss_cons (ps_expr (pe_bm PySem.F.plainAttrs_list PySem.F.slot_list_append PySem.F.type_list_append mt_append (pv 0) (pa_cons (pe_tup (pa_cons (pe_lst (pa_cons (pe_tup (pa_cons pe_str (pa_cons pe_int pa_nil))) pa_nil)) (pa_cons (pv 3) (pa_cons (pv 1) (pa_cons (pe_op op_rep (pe_lst (pa_cons (pe_tup (pa_cons pe_int (pa_cons pe_int pa_nil))) pa_nil)) pe_int) (pa_cons (pv 2) (pa_cons (pe_lst (pa_cons (pe_tup (pa_cons pe_str (pa_cons (pe_tup (pa_cons pe_int (pa_cons pe_int pa_nil))) pa_nil))) (pa_cons (pe_tup (pa_cons pe_str (pa_cons (pe_tup (pa_cons pe_int (pa_cons pe_int pa_nil))) pa_nil))) pa_nil))) pa_nil))))))) pa_nil)))
      (pss_cons (ps_set (i := 4) sc_l_hand.nd rfl (Or.inl rfl) (pe_lst (pa_cons (pe_tup (pa_cons pe_str (pa_cons pe_int pa_nil))) (pa_cons (pe_tup (pa_cons pe_str (pa_cons pe_int pa_nil))) pa_nil))))
      (pss_cons (ps_expr (pe_bm PySem.F.plainAttrs_list PySem.F.slot_list_append PySem.F.type_list_append mt_append (pv 0) (pa_cons (pe_tup (pa_cons (pe_lst pa_nil) (pa_cons (pv 4) (pa_cons (pe_lst (pa_cons (pe_tup (pa_cons pe_str (pa_cons pe_str (pa_cons pe_str pa_nil)))) (pa_cons (pe_tup (pa_cons pe_str (pa_cons pe_str (pa_cons pe_str pa_nil)))) pa_nil))) (pa_cons (pe_lst (pa_cons (pe_tup (pa_cons pe_int (pa_cons pe_int pa_nil))) (pa_cons (pe_tup (pa_cons pe_int (pa_cons pe_int pa_nil))) pa_nil))) (pa_cons (pe_lst (pa_cons (pe_tup (pa_cons pe_int (pa_cons pe_int pa_nil))) (pa_cons (pe_tup (pa_cons pe_int (pa_cons pe_int pa_nil))) pa_nil))) (pa_cons pe_non pa_nil))))))) pa_nil)))
      (pss_cons (ps_expr (pe_bm PySem.F.plainAttrs_list PySem.F.slot_list_append PySem.F.type_list_append mt_append (pv 0) (pa_cons (pe_tup (pa_cons (pe_lst pa_nil) (pa_cons (pv 4) (pa_cons (pe_lst (pa_cons (pe_tup (pa_cons pe_str (pa_cons pe_str (pa_cons pe_str pa_nil)))) (pa_cons (pe_tup (pa_cons pe_str (pa_cons pe_str (pa_cons pe_str pa_nil)))) pa_nil))) (pa_cons (pe_lst (pa_cons (pe_tup (pa_cons pe_int (pa_cons pe_int pa_nil))) (pa_cons (pe_tup (pa_cons pe_int (pa_cons pe_int pa_nil))) pa_nil))) (pa_cons (pe_lst (pa_cons (pe_tup (pa_cons pe_int (pa_cons pe_int pa_nil))) (pa_cons (pe_tup (pa_cons (pe_un un_neg pe_int) (pa_cons pe_int pa_nil))) pa_nil))) (pa_cons pe_non pa_nil))))))) pa_nil)))
      (pss_cons (ps_set (i := 1) sc_l_hand.nd rfl (Or.inl rfl) (pe_lst (pa_cons (pe_tup (pa_cons pe_str (pa_cons pe_str (pa_cons pe_str pa_nil)))) (pa_cons (pe_tup (pa_cons pe_str (pa_cons pe_str (pa_cons pe_str pa_nil)))) (pa_cons (pe_tup (pa_cons pe_str (pa_cons pe_str (pa_cons pe_str pa_nil)))) pa_nil)))))
      (pss_cons (ps_set (i := 3) sc_l_hand.nd rfl (Or.inl rfl) (pe_lst (pa_cons (pe_tup (pa_cons pe_str (pa_cons pe_int pa_nil))) (pa_cons (pe_tup (pa_cons pe_str (pa_cons pe_int pa_nil))) (pa_cons (pe_tup (pa_cons pe_str (pa_cons pe_int pa_nil))) (pa_cons (pe_tup (pa_cons pe_str (pa_cons pe_int pa_nil))) pa_nil))))))
      (pss_cons (ps_par (i := 5) (j := 2) (by rfl) sc_l_hand.nd rfl rfl (by decide) rfl rfl (pa_cons (pe_lst (pa_cons (pe_tup (pa_cons pe_int (pa_cons pe_int pa_nil))) (pa_cons (pe_tup (pa_cons pe_int (pa_cons pe_int pa_nil))) (pa_cons (pe_tup (pa_cons (pe_un un_neg pe_int) (pa_cons pe_int pa_nil))) (pa_cons (pe_tup (pa_cons pe_int (pa_cons pe_int pa_nil))) pa_nil))))) (pa_cons (pe_lst (pa_cons (pe_tup (pa_cons pe_int (pa_cons pe_int pa_nil))) (pa_cons (pe_tup (pa_cons pe_int (pa_cons pe_int pa_nil))) (pa_cons (pe_tup (pa_cons (pe_un un_neg pe_int) (pa_cons pe_int pa_nil))) (pa_cons (pe_tup (pa_cons pe_int (pa_cons pe_int pa_nil))) pa_nil))))) pa_nil)) (by rfl))
      (pss_one (ps_ret (pe_op op_cat (pv 0) (pe_lst (pa_cons (pe_tup (pa_cons (pe_lst (pa_cons (pe_tup (pa_cons pe_str (pa_cons pe_int pa_nil))) (pa_cons (pe_tup (pa_cons pe_str (pa_cons pe_int pa_nil))) pa_nil))) (pa_cons (pv 3) (pa_cons (pv 1) (pa_cons (pv 5) (pa_cons (pv 2) (pa_cons pe_non pa_nil))))))) pa_nil)))))))))))))))))))))), ?_⟩
    refine into_lst0 fun F nF => ?_
    have s0 := same_upd (o := .lst []) nF
    have hF : (upd H F (.lst [])) F = some (.lst []) := upd_same
    generalize upd H F (.lst []) = H0 at *
    refine into_name ?_
    dsimp only
    have fI := firm_int (K := K)
    have fT := firm_tie (K := K)
    have fF := firm_fr (K := K)
    have fE := firm_ent (K := K)
    have c : Cur K H F H0 [] := ⟨s0, nF, [], hF, by decide, rfl, .nil⟩
    clear hF s0
    -- 1
    refine into_set (cur_lst fT c (Nat.le_of_ble_eq_true rfl) (y_tie (y_tie y_nil)) fun v1 _ c m2 ties => ?_)
    refine into_name ?_
    try dsimp only
    obtain ⟨_, hF, _⟩ := id c.rows
    refine into_drop ⟨_, rfl, .inl ⟨rfl, _, SqL.of hF⟩, into_args1 (into_tup ?_)⟩
    refine into_cons ?_
    refine cur_lst fI c (Nat.le_of_ble_eq_true rfl) (y_int y_nil) fun v3 _ c m4 q5 => ?_
    have ties := m4 _ _ fT _ _ ties
    refine into_cons ?_
    refine cur_lst fI c (Nat.le_of_ble_eq_true rfl) (y_int (y_int y_nil)) fun v6 _ c m7 q8 => ?_
    have ties := m7 _ _ fT _ _ ties
    have q5 := m7 _ _ fI _ _ q5
    refine into_cons ?_
    refine ⟨_, rfl, ?_⟩
    refine into_cons ?_
    refine cur_lst fF c (Nat.le_of_ble_eq_true rfl) (y_fr (y_fr y_nil)) fun v9 _ c m10 q11 => ?_
    have ties := m10 _ _ fT _ _ ties
    have q5 := m10 _ _ fI _ _ q5
    have q8 := m10 _ _ fI _ _ q8
    refine into_cons ?_
    refine cur_lst fF c (Nat.le_of_ble_eq_true rfl) (y_frn (y_fr y_nil)) fun v12 _ c m13 q14 => ?_
    have ties := m13 _ _ fT _ _ ties
    have q5 := m13 _ _ fI _ _ q5
    have q8 := m13 _ _ fI _ _ q8
    have q11 := m13 _ _ fF _ _ q11
    refine into_cons ?_
    refine cur_lst fE c (Nat.le_of_ble_eq_true rfl) (y_ent y_nil) fun v15 _ c m16 q17 => ?_
    have ties := m16 _ _ fT _ _ ties
    have q5 := m16 _ _ fI _ _ q5
    have q8 := m16 _ _ fI _ _ q8
    have q11 := m16 _ _ fF _ _ q11
    have q14 := m16 _ _ fF _ _ q14
    refine cur_app hand1 c (Nat.le_of_ble_eq_true rfl) q5 q8 ties q11 q14 q17 fun _ c m18 => ?_
    have ties := m18 _ _ fT _ _ ties
    refine into_set (cur_lst fT c (Nat.le_of_ble_eq_true rfl) (y_tie (y_tie (y_tie y_nil))) fun v19 _ c m20 ties => ?_)
    refine into_name ?_
    try dsimp only
    refine into_set (cur_lst fF c (Nat.le_of_ble_eq_true rfl) (y_fr (y_fr (y_fr y_nil))) fun v21 _ c m22 due => ?_)
    have ties := m22 _ _ fT _ _ ties
    refine into_name ?_
    try dsimp only
    refine into_set (cur_lst fI c (Nat.le_of_ble_eq_true rfl) (y_int (y_int (y_int y_nil))) fun v23 _ c m24 parts => ?_)
    have ties := m24 _ _ fT _ _ ties
    have due := m24 _ _ fF _ _ due
    refine into_name ?_
    try dsimp only
    obtain ⟨_, hF, _⟩ := id c.rows
    refine into_drop ⟨_, rfl, .inl ⟨rfl, _, SqL.of hF⟩, into_args1 (into_tup ?_)⟩
    refine into_cons ?_
    refine cur_lst fI c (Nat.le_of_ble_eq_true rfl) (y_int y_nil) fun v25 _ c m26 q27 => ?_
    have ties := m26 _ _ fT _ _ ties
    have due := m26 _ _ fF _ _ due
    have parts := m26 _ _ fI _ _ parts
    refine into_cons ?_
    refine ⟨_, rfl, ?_⟩
    refine into_cons ?_
    refine ⟨_, rfl, ?_⟩
    refine into_cons ?_
    refine cur_rep (n := 3) c (Nat.le_of_ble_eq_true rfl) (y_fr y_nil) fun v28 _ c m29 q30 => ?_
    have ties := m29 _ _ fT _ _ ties
    have due := m29 _ _ fF _ _ due
    have parts := m29 _ _ fI _ _ parts
    have q27 := m29 _ _ fI _ _ q27
    refine into_cons ?_
    refine ⟨_, rfl, ?_⟩
    refine into_cons ?_
    refine cur_lst fE c (Nat.le_of_ble_eq_true rfl) (y_ent (y_ent y_nil)) fun v31 _ c m32 q33 => ?_
    have ties := m32 _ _ fT _ _ ties
    have due := m32 _ _ fF _ _ due
    have parts := m32 _ _ fI _ _ parts
    have q27 := m32 _ _ fI _ _ q27
    have q30 := m32 _ _ fF _ _ q30
    refine cur_app hand2 c (Nat.le_of_ble_eq_true rfl) q27 parts ties q30 due q33 fun _ c m34 => ?_
    have ties := m34 _ _ fT _ _ ties
    have due := m34 _ _ fF _ _ due
    have parts := m34 _ _ fI _ _ parts
    refine into_set (cur_lst fT c (Nat.le_of_ble_eq_true rfl) (y_tie (y_tie (y_tie (y_tie (y_tie y_nil))))) fun v35 _ c m36 ties => ?_)
    have due := m36 _ _ fF _ _ due
    have parts := m36 _ _ fI _ _ parts
    refine into_name ?_
    try dsimp only
    refine into_set (cur_lst fF c (Nat.le_of_ble_eq_true rfl) (y_fr (y_fr (y_fr (y_fr (y_frn y_nil))))) fun v37 _ c m38 due => ?_)
    have parts := m38 _ _ fI _ _ parts
    have ties := m38 _ _ fT _ _ ties
    refine into_name ?_
    try dsimp only
    refine into_set (cur_lst fI c (Nat.le_of_ble_eq_true rfl) (y_int (y_int (y_int (y_int (y_int y_nil))))) fun v39 _ c m40 parts => ?_)
    have ties := m40 _ _ fT _ _ ties
    have due := m40 _ _ fF _ _ due
    refine into_name ?_
    try dsimp only
    obtain ⟨_, hF, _⟩ := id c.rows
    refine into_drop ⟨_, rfl, .inl ⟨rfl, _, SqL.of hF⟩, into_args1 (into_tup ?_)⟩
    refine into_cons ?_
    refine cur_lst fI c (Nat.le_of_ble_eq_true rfl) (y_int y_nil) fun v41 _ c m42 q43 => ?_
    have ties := m42 _ _ fT _ _ ties
    have due := m42 _ _ fF _ _ due
    have parts := m42 _ _ fI _ _ parts
    refine into_cons ?_
    refine ⟨_, rfl, ?_⟩
    refine into_cons ?_
    refine ⟨_, rfl, ?_⟩
    refine into_cons ?_
    refine cur_rep (n := 5) c (Nat.le_of_ble_eq_true rfl) (y_fr y_nil) fun v44 _ c m45 q46 => ?_
    have ties := m45 _ _ fT _ _ ties
    have due := m45 _ _ fF _ _ due
    have parts := m45 _ _ fI _ _ parts
    have q43 := m45 _ _ fI _ _ q43
    refine into_cons ?_
    refine ⟨_, rfl, ?_⟩
    refine into_cons ?_
    refine cur_lst fE c (Nat.le_of_ble_eq_true rfl) (y_ent (y_ent y_nil)) fun v47 _ c m48 q49 => ?_
    have ties := m48 _ _ fT _ _ ties
    have due := m48 _ _ fF _ _ due
    have parts := m48 _ _ fI _ _ parts
    have q43 := m48 _ _ fI _ _ q43
    have q46 := m48 _ _ fF _ _ q46
    refine cur_app hand3 c (Nat.le_of_ble_eq_true rfl) q43 parts ties q46 due q49 fun _ c m50 => ?_
    have ties := m50 _ _ fT _ _ ties
    have due := m50 _ _ fF _ _ due
    have parts := m50 _ _ fI _ _ parts
    refine into_set (cur_lst fI c (Nat.le_of_ble_eq_true rfl) (y_int (y_int y_nil)) fun v51 _ c m52 ring => ?_)
    have ties := m52 _ _ fT _ _ ties
    have due := m52 _ _ fF _ _ due
    have parts := m52 _ _ fI _ _ parts
    refine into_name ?_
    try dsimp only
    obtain ⟨_, hF, _⟩ := id c.rows
    refine into_drop ⟨_, rfl, .inl ⟨rfl, _, SqL.of hF⟩, into_args1 (into_tup ?_)⟩
    refine into_cons ?_
    refine cur_lst fI c (Nat.le_of_ble_eq_true rfl) y_nil fun v53 _ c m54 q55 => ?_
    have ties := m54 _ _ fT _ _ ties
    have due := m54 _ _ fF _ _ due
    have parts := m54 _ _ fI _ _ parts
    have ring := m54 _ _ fI _ _ ring
    refine into_cons ?_
    refine ⟨_, rfl, ?_⟩
    refine into_cons ?_
    refine cur_lst fT c (Nat.le_of_ble_eq_true rfl) (y_tie (y_tie y_nil)) fun v56 _ c m57 q58 => ?_
    have ties := m57 _ _ fT _ _ ties
    have due := m57 _ _ fF _ _ due
    have parts := m57 _ _ fI _ _ parts
    have ring := m57 _ _ fI _ _ ring
    have q55 := m57 _ _ fI _ _ q55
    refine into_cons ?_
    refine cur_lst fF c (Nat.le_of_ble_eq_true rfl) (y_fr (y_fr y_nil)) fun v59 _ c m60 q61 => ?_
    have ties := m60 _ _ fT _ _ ties
    have due := m60 _ _ fF _ _ due
    have parts := m60 _ _ fI _ _ parts
    have ring := m60 _ _ fI _ _ ring
    have q55 := m60 _ _ fI _ _ q55
    have q58 := m60 _ _ fT _ _ q58
    refine into_cons ?_
    refine cur_lst fF c (Nat.le_of_ble_eq_true rfl) (y_fr (y_fr y_nil)) fun v62 _ c m63 q64 => ?_
    have ties := m63 _ _ fT _ _ ties
    have due := m63 _ _ fF _ _ due
    have parts := m63 _ _ fI _ _ parts
    have ring := m63 _ _ fI _ _ ring
    have q55 := m63 _ _ fI _ _ q55
    have q58 := m63 _ _ fT _ _ q58
    have q61 := m63 _ _ fF _ _ q61
    refine into_cons ?_
    refine cur_app hand4 c (Nat.le_of_ble_eq_true rfl) q55 ring q58 q61 q64 rfl fun _ c m65 => ?_
    have ties := m65 _ _ fT _ _ ties
    have due := m65 _ _ fF _ _ due
    have parts := m65 _ _ fI _ _ parts
    have ring := m65 _ _ fI _ _ ring
    obtain ⟨_, hF, _⟩ := id c.rows
    refine into_drop ⟨_, rfl, .inl ⟨rfl, _, SqL.of hF⟩, into_args1 (into_tup ?_)⟩
    refine into_cons ?_
    refine cur_lst fI c (Nat.le_of_ble_eq_true rfl) y_nil fun v66 _ c m67 q68 => ?_
    have ties := m67 _ _ fT _ _ ties
    have due := m67 _ _ fF _ _ due
    have parts := m67 _ _ fI _ _ parts
    have ring := m67 _ _ fI _ _ ring
    refine into_cons ?_
    refine ⟨_, rfl, ?_⟩
    refine into_cons ?_
    refine cur_lst fT c (Nat.le_of_ble_eq_true rfl) (y_tie (y_tie y_nil)) fun v69 _ c m70 q71 => ?_
    have ties := m70 _ _ fT _ _ ties
    have due := m70 _ _ fF _ _ due
    have parts := m70 _ _ fI _ _ parts
    have ring := m70 _ _ fI _ _ ring
    have q68 := m70 _ _ fI _ _ q68
    refine into_cons ?_
    refine cur_lst fF c (Nat.le_of_ble_eq_true rfl) (y_fr (y_fr y_nil)) fun v72 _ c m73 q74 => ?_
    have ties := m73 _ _ fT _ _ ties
    have due := m73 _ _ fF _ _ due
    have parts := m73 _ _ fI _ _ parts
    have ring := m73 _ _ fI _ _ ring
    have q68 := m73 _ _ fI _ _ q68
    have q71 := m73 _ _ fT _ _ q71
    refine into_cons ?_
    refine cur_lst fF c (Nat.le_of_ble_eq_true rfl) (y_fr (y_frn y_nil)) fun v75 _ c m76 q77 => ?_
    have ties := m76 _ _ fT _ _ ties
    have due := m76 _ _ fF _ _ due
    have parts := m76 _ _ fI _ _ parts
    have ring := m76 _ _ fI _ _ ring
    have q68 := m76 _ _ fI _ _ q68
    have q71 := m76 _ _ fT _ _ q71
    have q74 := m76 _ _ fF _ _ q74
    refine into_cons ?_
    refine cur_app hand5 c (Nat.le_of_ble_eq_true rfl) q68 ring q71 q74 q77 rfl fun _ c m78 => ?_
    have ties := m78 _ _ fT _ _ ties
    have due := m78 _ _ fF _ _ due
    have parts := m78 _ _ fI _ _ parts
    have ring := m78 _ _ fI _ _ ring
    refine into_set (cur_lst fT c (Nat.le_of_ble_eq_true rfl) (y_tie (y_tie (y_tie y_nil))) fun v79 _ c m80 ties => ?_)
    have due := m80 _ _ fF _ _ due
    have parts := m80 _ _ fI _ _ parts
    have ring := m80 _ _ fI _ _ ring
    refine into_name ?_
    try dsimp only
    refine into_set (cur_lst fI c (Nat.le_of_ble_eq_true rfl) (y_int (y_int (y_int (y_int y_nil)))) fun v81 _ c m82 parts => ?_)
    have due := m82 _ _ fF _ _ due
    have ring := m82 _ _ fI _ _ ring
    have ties := m82 _ _ fT _ _ ties
    refine into_name ?_
    try dsimp only
    -- start, due
    refine into_seq (into_par (into_cons ?_))
    refine cur_lst fF c (Nat.le_of_ble_eq_true rfl) (y_fr (y_fr (y_frn (y_fr y_nil)))) fun va _ c ma start => ?_
    have ring := ma _ _ fI _ _ ring
    have ties := ma _ _ fT _ _ ties
    have parts := ma _ _ fI _ _ parts
    refine into_cons ?_
    refine cur_lst fF c (Nat.le_of_ble_eq_true rfl) (y_fr (y_fr (y_frn (y_fr y_nil)))) fun vb _ c mb due => ?_
    have ring := mb _ _ fI _ _ ring
    have ties := mb _ _ fT _ _ ties
    have parts := mb _ _ fI _ _ parts
    have start := mb _ _ fF _ _ start
    refine ⟨va, vb, rfl, ?_⟩
    dsimp only
    refine into_ret (into_op ⟨_, rfl, into_lst (into_cons (into_tup ?_))⟩)
    refine into_cons ?_
    refine cur_lst fI c (Nat.le_of_ble_eq_true rfl) (y_int (y_int y_nil)) fun v83 _ c m84 q85 => ?_
    have ring := m84 _ _ fI _ _ ring
    have ties := m84 _ _ fT _ _ ties
    have parts := m84 _ _ fI _ _ parts
    have start := m84 _ _ fF _ _ start
    have due := m84 _ _ fF _ _ due
    refine into_cons ?_
    refine ⟨_, rfl, ?_⟩
    refine into_cons ?_
    refine ⟨_, rfl, ?_⟩
    refine into_cons ?_
    refine ⟨_, rfl, ?_⟩
    refine into_cons ?_
    refine ⟨_, rfl, ?_⟩
    refine into_cons ?_
    exact cur_end hand6 c q85 parts ties start due rfl fun q xs H9 s9 hq p9 => k F q xs H9 s9 hq p9
end
end Ct

/-! zip of a list and two tuples of one length. -/
namespace Ct
open PySem PySem.Spec PyProof.Rows L2 TL RZ
/-- the walk of zip(a, b, c), a a list, b and c tuples -/
def Itz3 (K : PySem.W.Frag) (a b c : Addr) : It :=
  ⟨fun i H => ∃ (xs ys zs : List V) (x y u : V), SqL K H a xs ∧ SqT K H b ys ∧ SqT K H c zs ∧ xs.length = ys.length ∧ ys.length = zs.length ∧ xs[i]? = some x ∧ ys[i]? = some y ∧ zs[i]? = some u,
    fun i H v H' => ∃ T x y u, v = .ref T ∧ H T = none ∧ H' = upd H T (.tup [x, y, u]) ∧ (∀ xs, SqL K H a xs → xs[i]? = some x) ∧ (∀ ys, SqT K H b ys → ys[i]? = some y) ∧ ∀ zs, SqT K H c zs → zs[i]? = some u,
    fun i H => ∃ xs ys zs : List V, SqL K H a xs ∧ SqT K H b ys ∧ SqT K H c zs ∧ xs.length = i ∧ ys.length = i ∧ zs.length = i⟩
def tn3 (N a b c : Addr) (i : Nat) (h : Heap) : Prop := IsZip h (N + 5) (N + 3) (N + 4) .none ∧ IsTupOf3 h (N + 3) (.ref N) (.ref (N + 1)) (.ref (N + 2)) ∧ (∃ a1 a2 a3, IsTupOf3 h (N + 4) a1 a2 a3) ∧ h.IsListIter N a i ∧ h.IsTupleIter (N + 1) b i ∧ h.IsTupleIter (N + 2) c i
abbrev fp3 (N : Addr) : List Addr := [N + 5, N + 3, N + 4, N, N + 1, N + 2]
theorem in_fp3 {N x : Addr} (h : x ∈ [N + 5, N + 4, N, N + 1, N + 2]) : x ∈ fp3 N := by
  simp only [List.mem_cons, List.not_mem_nil, or_false] at h ⊢
  rcases h with h | h | h | h | h <;> simp [h]
theorem goes3 {P : Program} {w : World} {A : Around} (hh : A.handled = none) {elts : List Expr} {kk : Nat} {tpos : Pos} {N a b c : Addr} (ha : a < N) (hb : b < N) (hc : c < N) (xs ys zs : Array Value) :
    GoesN P w A (.Tuple elts kk tpos) (N + 5) ((N + 5) :: (N + 3) :: (N + 4) :: ([N, a] ++ [N + 1, b] ++ [N + 2, c])) [N + 5, N + 4, N, N + 1, N + 2] (min (min xs.size ys.size) zs.size) (fun i h0 v h => ∃ T x y u, v = .ref T ∧ h0.objs.size ≤ T ∧ xs[i]? = some x ∧ ys[i]? = some y ∧ zs[i]? = some u ∧ h.IsTuple T #[x, y, u])
      (fun i h => IsZip h (N + 5) (N + 3) (N + 4) .none ∧ IsTupOf3 h (N + 3) (.ref N) (.ref (N + 1)) (.ref (N + 2)) ∧ (∃ a1 a2 a3, IsTupOf3 h (N + 4) a1 a2 a3) ∧ (h.IsListIter N a i ∧ h.IsList a xs) ∧ (h.IsTupleIter (N + 1) b i ∧ h.IsTuple b ys) ∧ (h.IsTupleIter (N + 2) c i ∧ h.IsTuple c zs)) :=
  GoesN.zip3 (prog := P) (w := w) (A := A) (elts := elts) (x1 := kk) (pos := tpos) (zip_sep3 (N := N) (fp1 := [a]) (fp2 := [b]) (fp3 := [c]) (fun x h => by rw [List.mem_singleton.mp h]; exact ha) (fun x h => by rw [List.mem_singleton.mp h]; exact hb) (fun x h => by rw [List.mem_singleton.mp h]; exact hc))
    (Draws.list (show A.in1.handled = none from hh) N a (Nat.ne_of_lt ha) xs) (Draws.tuple (show A.in1.handled = none from hh) (N + 1) b (Nat.ne_of_lt (Nat.lt_succ_of_lt hb)) ys) (Draws.tuple (show A.in1.handled = none from hh) (N + 2) c (Nat.ne_of_lt (Nat.lt_succ_of_lt (Nat.lt_succ_of_lt hc))) zs)
theorem turn_zip3 {P : Program} {w : World} {K : PySem.W.Frag} {elts : List Expr} {kk : Nat} {tpos : Pos} {N a b c : Addr} (ha : a < N) (hb : b < N) (hc : c < N) :
    Turn P w K (.Tuple elts kk tpos) (Itz3 K a b c) (fp3 N) (N + 5) (tn3 N a b c) where
  mem := List.mem_cons_self
  obj := fun i h st x hx => by
    obtain ⟨hz, hTI, ⟨_, _, _, hTO⟩, ⟨o1, e1, _, d1⟩, ⟨o2, e2, _, d2⟩, ⟨o3, e3, _, d3⟩⟩ := st
    simp only [List.mem_cons, List.not_mem_nil, or_false] at hx
    rcases hx with q | q | q | q | q | q
    · rw [q]; exact ⟨_, hz, fun v q => nomatch q⟩
    · rw [q]; exact ⟨_, hTI, fun v q => nomatch q⟩
    · rw [q]; exact ⟨_, hTO, fun v q => nomatch q⟩
    · rw [q]; exact ⟨o1, e1, fun v q => by rw [d1] at q; cases q⟩
    · rw [q]; exact ⟨o2, e2, fun v q => by rw [d2] at q; cases q⟩
    · rw [q]; exact ⟨o3, e3, fun v q => by rw [d3] at q; cases q⟩
  keep := fun i h h' st k => by
    obtain ⟨hz, hTI, ⟨_, _, _, hTO⟩, h1, h2, h3⟩ := st
    exact ⟨k (N + 5) (by simp) _ hz, k (N + 3) (by simp) _ hTI, ⟨_, _, _, k (N + 4) (by simp) _ hTO⟩, h1.at fun o q => k N (by simp) o q, h2.at fun o q => k (N + 1) (by simp) o q, h3.at fun o q => k (N + 2) (by simp) o q⟩
  item := by
    intro X hP hw hK calm i pins s σ H E I hf st hg
    subst hP hw hK
    obtain ⟨hz, hTI, hTO, h1, h2, h3⟩ := st
    obtain ⟨xs, ys, zs, x, y, u, qx, qy, qz, l1, l2, ex, ey, ez⟩ := hg
    obtain ⟨i1, r1, p1, _⟩ := I.list qx
    obtain ⟨i2, r2, p2, _⟩ := I.tuple qy
    obtain ⟨i3, r3, p3, _⟩ := I.tuple qz
    have t2 : s.heap.IsTuple b i2.toArray := p2
    have t3 : s.heap.IsTuple c i3.toArray := p3
    have W := goes3 (P := X.prog) (w := X.w) (A := X.A) (I.ok.hd calm) (elts := elts) (kk := kk) (tpos := tpos) ha hb hc i1.toArray i2.toArray i3.toArray
    have n1 := r1.length
    have n2 := r2.length
    have n3 := r3.length
    have li := (List.getElem?_eq_some_iff.mp ex).1
    refine wpAny_mono (W.goes i s (fun v s' => ∃ x' H', Inv X pins σ H' s' ∧ RelV x' v ∧ (Itz3 X.K a b c).yld i H x' H' ∧ tn3 N a b c (i + 1) s'.heap ∧ ∀ b' ∈ fp3 N, H' b' = none) E ?_ ⟨hz, hTI, hTO, ⟨h1, p1.isList⟩, ⟨h2, t2⟩, h3, t3⟩ fun v h' tk hY st' keep _ => ?_) (fun _ _ q => q) fun _ _ q => q
    · simp only [List.size_toArray]
      omega
    · obtain ⟨T, v1, v2, v3, rfl, new, e1, e2, e3, hT⟩ := hY
      obtain ⟨hz', hTI', hTO', ⟨h1', _⟩, ⟨h2', _⟩, h3', _⟩ := st'
      obtain ⟨w1, q1, rv1⟩ := r1.get ex
      obtain ⟨w2, q2, rv2⟩ := r2.get ey
      obtain ⟨w3, q3, rv3⟩ := r3.get ez
      have s1 : w1 = v1 := by
        have : i1.toArray[i]? = some v1 := e1
        rw [List.getElem?_toArray, q1] at this
        exact Option.some.inj this
      have s2 : w2 = v2 := by
        have : i2.toArray[i]? = some v2 := e2
        rw [List.getElem?_toArray, q2] at this
        exact Option.some.inj this
      have s3 : w3 = v3 := by
        have : i3.toArray[i]? = some v3 := e3
        rw [List.getElem?_toArray, q3] at this
        exact Option.some.inj this
      subst s1 s2 s3
      have obj : ObjOk X.prog X.w (upd H T (.tup [x, y, u])) h' T (.tup [x, y, u]) := by
        obtain ⟨o, g, cl, n, dat⟩ := hT
        exact ⟨by show 3 ≤ sizeLine; decide, [w1, w2, w3], .cons rv1 (.cons rv2 (.cons rv3 .nil)), ⟨o, g, cl, n, dat⟩⟩
      have J : Inv X pins σ (upd H T (.tup [x, y, u])) { s with heap := h', toks := tk } :=
        I.turnedNew (t' := tk) (ch := fp3 N) (fun d o hd q => keep d o (fun z => hd (in_fp3 z)) q) hf new obj
      refine ⟨.ref T, _, J, rfl, ⟨T, x, y, u, rfl, I.hok.fresh new, rfl, fun l hl => by rw [I.list_inj hl qx]; exact ex, fun l hl => by rw [I.tuple_inj hl qy]; exact ey, fun l hl => by rw [I.tuple_inj hl qz]; exact ez⟩, ⟨hz', hTI', hTO', h1', h2', h3'⟩, fun d hd => ?_⟩
      have lt : d < s.heap.objs.size := by
        obtain ⟨_, _, _, hTO⟩ := hTO
        obtain ⟨o1, g1, _⟩ := h1
        obtain ⟨o2, g2, _⟩ := h2
        obtain ⟨o3, g3, _⟩ := h3
        simp only [List.mem_cons, List.not_mem_nil, or_false] at hd
        rcases hd with q | q | q | q | q | q
        · rw [q]; exact Heap.lt_size hz
        · rw [q]; exact Heap.lt_size hTI
        · rw [q]; exact Heap.lt_size hTO
        · rw [q]; exact Heap.lt_size g1
        · rw [q]; exact Heap.lt_size g2
        · rw [q]; exact Heap.lt_size g3
      rw [upd_ne (Nat.ne_of_lt (Nat.lt_of_lt_of_le lt new))]
      exact (hf d hd).1
  done := by
    intro X hP hw hK calm i pins s σ H E I hf st hg
    subst hP hw hK
    obtain ⟨hz, hTI, hTO, h1, h2, h3⟩ := st
    obtain ⟨xs, ys, zs, qx, qy, qz, l1, l2, l3⟩ := hg
    obtain ⟨i1, r1, p1, _⟩ := I.list qx
    obtain ⟨i2, r2, p2, _⟩ := I.tuple qy
    obtain ⟨i3, r3, p3, _⟩ := I.tuple qz
    have t2 : s.heap.IsTuple b i2.toArray := p2
    have t3 : s.heap.IsTuple c i3.toArray := p3
    have W := goes3 (P := X.prog) (w := X.w) (A := X.A) (I.ok.hd calm) (elts := elts) (kk := kk) (tpos := tpos) ha hb hc i1.toArray i2.toArray i3.toArray
    have n1 := r1.length
    have n2 := r2.length
    have n3 := r3.length
    have e : min (min i1.toArray.size i2.toArray.size) i3.toArray.size = i := by
      simp only [List.size_toArray]
      omega
    have stop := W.stops s (fun s' => Inv X pins σ H s') E
    rw [e] at stop
    exact stop ⟨hz, hTI, hTO, ⟨h1, p1.isList⟩, ⟨h2, t2⟩, h3, t3⟩ fun h' tk keep _ => I.turnedL (t' := tk) (ch := fp3 N) (fun d o hd q => keep d o (fun z => hd (in_fp3 z)) q) hf
  self := fun A i s Q E st h => wpAny_pyIter_zip st.1 h
def iZip3 (K : PySem.W.Frag) (ta : TA) : TI := fun σ H R => ta σ H fun vs H1 => ∃ a b c xs ys zs, vs = [.ref a, .ref b, .ref c] ∧ SqL K H1 a xs ∧ SqT K H1 b ys ∧ SqT K H1 c zs ∧ R (Itz3 K a b c) H1
theorem pi_zip3 {X : Cx} {e e2 e3 : Expr} {ta : TA} {p pos tpos : Pos} {elts : List Expr} {kk : Nat} (hg : Gl X "zip") (hm : X.mg "zip" = none) (ha : PA X [e, e2, e3] ta)
    (hs : starEach [e, e2, e3] X.env = (false, eval e X.env) :: starEach [e2, e3] X.env := by rfl) (hpl : (backTo pos (starEach [e2, e3] X.env)).any (·.1) = false := by rfl) :
    PI X (.Tuple elts kk tpos) (.Call (.Name "zip" p) [e, e2, e3] [] pos) (iZip3 X.K ta) := by
  constructor
  intro pins s σ H R I h
  refine Call_ (ld_blt I hg hm PyProof.Rows.boot_zip (PyProof.Rows.callWith_type1 (thn (ha.run pos pins s σ H _ I h) fun us s1 ⟨vs, H1, I1, r1, q1⟩ => ?_) hs hpl))
  obtain ⟨a, b, c, xs, ys, zs, ex, qx, qy, qz, q⟩ := q1
  subst ex
  obtain ⟨u1, u2, u3, rfl, x1, x2, x3⟩ : ∃ u1 u2 u3, us = [u1, u2, u3] ∧ RelV (.ref a) u1 ∧ RelV (.ref b) u2 ∧ RelV (.ref c) u3 := by
    cases r1 with
    | cons y1 r1 =>
      cases r1 with
      | cons y2 r1 =>
        cases r1 with
        | cons y3 r1 =>
          cases r1
          exact ⟨_, _, _, rfl, y1, y2, y3⟩
  cases x1
  cases x2
  cases x3
  obtain ⟨i1, _, p1, _⟩ := I1.list qx
  obtain ⟨i2, _, p2, _⟩ := I1.tuple qy
  obtain ⟨i3, _, p3, _⟩ := I1.tuple qz
  have la : a < s1.heap.objs.size := p1.lt
  obtain ⟨o2, g2, _⟩ := id p2
  obtain ⟨o3, g3, _⟩ := id p3
  refine zip_begins3 (begins_list a i1.toArray) (begins_tuple b i2.toArray) (begins_tuple c i3.toArray) p1.isList (show s1.heap.IsTuple b i2.toArray from p2) (show s1.heap.IsTuple c i3.toArray from p3) fun h' hz hTI hTO h1 h2 h3 size keep => wpAny_pyIter_zip hz ?_
  have I2 : Inv X pins σ H1 { s1 with heap := h' } := I1.kept (t' := s1.toks) keep
  refine ⟨s1.heap.objs.size + 5, fp3 s1.heap.objs.size, tn3 s1.heap.objs.size a b c, _, H1, rfl, I2, turn_zip3 la (Heap.lt_size g2) (Heap.lt_size g3), ⟨hz, hTI, ⟨_, _, _, hTO⟩, ⟨_, h1, rfl, rfl⟩, ⟨_, h2, rfl, rfl⟩, ⟨_, h3, rfl, rfl⟩⟩, fun d hd => ?_, q⟩
  have le : s1.heap.objs.size ≤ d := by
    simp only [List.mem_cons, List.not_mem_nil, or_false] at hd
    rcases hd with q | q | q | q | q | q <;> rw [q] <;> first | exact Nat.le_add_right _ _ | exact Nat.le_refl _
  exact I1.fpOk le (I1.hok.fresh le)
theorem walk_zip3 {K : PySem.W.Frag} {a b c : Addr} {xs ys zs : List V} (h1 : xs.length = ys.length) (h2 : ys.length = zs.length) : Walk (Itz3 K a b c) xs.length (fun H => SqL K H a xs ∧ SqT K H b ys ∧ SqT K H c zs)
    (fun i H v H' => ∃ T x y u, v = .ref T ∧ H T = none ∧ H' = upd H T (.tup [x, y, u]) ∧ xs[i]? = some x ∧ ys[i]? = some y ∧ zs[i]? = some u) := by
  refine ⟨fun i H hi q => ?_, fun H q => ⟨xs, ys, zs, q.1, q.2.1, q.2.2, rfl, h1.symm, by omega⟩, fun i H x H' hi q y => ?_⟩
  · exact ⟨xs, ys, zs, _, _, _, q.1, q.2.1, q.2.2, h1, h2, List.getElem?_eq_getElem hi, List.getElem?_eq_getElem (by omega), List.getElem?_eq_getElem (by omega)⟩
  · obtain ⟨T, x1, x2, x3, e, hT, eH, f1, f2, f3⟩ := y
    exact ⟨T, x1, x2, x3, e, hT, eH, f1 xs q.1, f2 ys q.2.1, f3 zs q.2.2⟩
end Ct

set_option pp.maxSteps 1500
/-! A circuit by hand held against the program. -/
namespace Ct
open PySem PySem.Spec PyProof.Rows L2 TL RZ
def aheadH (h : Hand) (k : Rat) : List Rat := h.start.map fun f => ratF f * k
def behindH (h : Hand) (k : Rat) : List Rat := h.due.map fun f => ratF f * k
def ownH (h : Hand) (sz k : Rat) : Own := ownOf h.src h.prt h.ties sz k
def stepsH (h : Hand) (k : Rat) : List Rat := diffL (behindH h k) (aheadH h k)
def weightsH (h : Hand) (sz : Rat) : List Rat := h.prt.map fun e => intQ e.2 * sz
def chgH (h : Hand) (sz k : Rat) : List Rat := prodL (weightsH h sz) (stepsH h k)
def sqsH (h : Hand) (sz k : Rat) : List Rat := prodL (weightsH h sz) (prodL (stepsH h k) (stepsH h k))
def toldH (l : List (Str × Int × Int)) (k : Rat) : List (Str × Rat) := l.map fun e => (e.1, ratF e.2 * k)
structure FreeOk (h : Hand) (sz k : Rat) (fl : List Str) : Prop where
  ahead : JoinOk (ownH h sz k) h.ties fl (aheadH h k)
  leads : joinL (ownH h sz k) h.ties fl (aheadH h k) = behindH h k
  behind : JoinOk (ownH h sz k) h.ties fl (behindH h k)
  stays : joinL (ownH h sz k) h.ties fl (behindH h k) = behindH h k
  has : ∀ l, h.told = some l → ∀ j ∈ fl, ∃ r, potT (ownH h sz k) h.ties fl (behindH h k) j = some r
  pots : ∀ l, h.told = some l → (fl.map fun j => (j, (potT (ownH h sz k) h.ties fl (behindH h k)).at j)) = toldH l k
structure RowOk (h : Hand) (sz k : Rat) : Prop where
  src : IntsFit h.src
  prt : IntsFit h.prt
  siz : FitR 1000 sz
  by_ : FitR 1000 k
  own : OwnOk (ownH h sz k)
  frs : ∀ f ∈ h.start, FrOk f
  frd : ∀ f ∈ h.due, FrOk f
  lenS : h.start.length = h.prt.length
  lenD : h.due.length = h.prt.length
  a1 : Fits1 (aheadH h k)
  b1 : Fits1 (behindH h k)
  d1 : Fits1 (stepsH h k)
  w1 : Fits1 (weightsH h sz)
  s1 : Fits1 (prodL (stepsH h k) (stepsH h k))
  c1 : Fits1 (chgH h sz k)
  chg : chargeL (ownH h sz k) (stepsH h k) = chgH h sz k
  sq : SqOk (ownH h sz k) (stepsH h k)
  sumq : SumOk (sqsH h sz k)
  q1 : FitR 1000 (sumL (sqsH h sz k))
  same : sqR (ownH h sz k) (stepsH h k) = sumL (sqsH h sz k)
  told : ∀ l, h.told = some l → l.length ≤ 8 ∧ ∀ e ∈ l, Name e.1 ∧ FrOk e.2 ∧ FitR 1000 (ratF e.2 * k)
  free : ∀ fl, FreeOf (ownH h sz k) h.ties fl → FreeOk h sz k fl
  once : ∀ fl fl', FreeOf (ownH h sz k) h.ties fl → FreeOf (ownH h sz k) h.ties fl' → fl = fl'
theorem Fits1.more {a : List Rat} (h : Fits1 a) : Fits4 a := fun r hr => (h r hr).more (by decide)
theorem LsX.ls {β : Type} {K : PySem.W.Frag} {R : Hp → V → β → Prop} {F : Addr} {H : Hp} {v : V} {es : List β} : LsX F H R v es → LsAt K H (R H) v es := fun ⟨a, vs, e, n, h, p⟩ => ⟨a, vs, e, SqL.of h, p⟩
theorem ratF_fit1 {f : Int × Int} (h : FrOk f) : FitR 1000 (ratF f) := ratF_fit h
/-- the texts of two rows of fractions, held against one another -/
theorem shown_ne {d e : PyData} {H : Hp} {Q : Bool → Hp → Prop} (h : d = e) (q : Q false H) : Q (!decide (V.str d.shown = V.str e.shown)) H := by
  subst h
  simpa using q
def rot3 {α : Type} : List α → List α
  | [a, b, c] => [c, a, b]
  | l => l
theorem rot3_len {α : Type} : ∀ l : List α, (rot3 l).length = l.length
  | [] => rfl
  | [_] => rfl
  | [_, _] => rfl
  | [_, _, _] => rfl
  | _ :: _ :: _ :: _ :: _ => rfl
theorem rot3_vals {vs : List V} {us : List Value} (h : Vals vs us) : Vals (rot3 vs) (rot3 us) := by
  cases h with
  | nil => exact .nil
  | cons a r =>
    cases r with
    | nil => exact .cons a .nil
    | cons b r =>
      cases r with
      | nil => exact .cons a (.cons b .nil)
      | cons c r =>
        cases r with
        | nil => exact .cons c (.cons a (.cons b .nil))
        | cons d r => exact .cons a (.cons b (.cons c (.cons d r)))
section
variable {X : Cx}
/-- f(k = v, ..), three keywords, the last of them the first parameter -/
theorem pe_goKr {k : Nat} {x : Str} {st : Stmt} {p pos : Pos} {kws : List Keyword} {ps ks : List Str} {sp : Sp} {tk : TA} (G : Keeps X.prog X.w X.K X.mg X.base k x ps sp) (D : Lies X.K X.mg x st)
    (hbind : ∀ (kV doc pm : Value) (an : Option Addr) (cdv ct : Value) (ws : List Value), ws.length = ps.length → bindArgs (PySem.W.fnOf x x (defArgs st) (defBody st) (defScope st) .none kV doc pm an cdv ct) ⟨[], ks.zip ws⟩ = pure (ps.zip (rot3 ws)))
    (hr : Room k X.A) (hg : Gl X x) (hkw : PK X kws tk) (hall : (backToKw pos (keywordEach kws X.env)).all (·.1.isSome) = true := by rfl) (hks : (backToKw pos (keywordEach kws X.env)).filterMap (·.1) = ks := by rfl) (hps : ps ≠ [] := by decide)
    (hdb : (x == ("__debug__" : Str)) = false := by decide) (hpl : ((backTo pos (starEach [] X.env)).any (·.1) || (backToKw pos (keywordEach kws X.env)).any (·.1.isNone)) = false := by rfl) :
    PE X (.Call (.Name x p) [] kws pos) (fun σ H Q => tk σ H fun zs H2 => sp (rot3 zs) H2 Q E0) := by
  obtain ⟨f, fd, F, hm, hk, _, same⟩ := G.ex
  obtain ⟨f', fd', F', hm'⟩ := D.ex
  have F2 := same st f' fd' F' hm'
  obtain ⟨oc, od, kV, doc, pm, an, cdv, ct, osl, efd, _, _⟩ := F2.ex
  have kb : KBinds X.K fd ps ks (fun us ws => match us with | [] => rot3 ws | _ :: _ => []) (fun us ws => match us with | [] => rot3 ws | _ :: _ => []) := by
    refine ⟨fun s us ws _ hl => ?_, fun {vs us zs ws} r rz => ?_⟩
    · cases us with
      | nil =>
        subst efd
        exact BindsTo.of_eq (hbind kV doc pm an cdv ct ws (by simpa [rot3_len] using hl))
      | cons u r =>
        exact absurd (List.eq_nil_of_length_eq_zero hl.symm) hps
    · cases r with
      | nil => exact rot3_vals rz
      | cons _ _ => exact .nil
  refine ⟨fun pins s σ H Q I h => wpAny_Call_Name_kw (ld_glob I hg hm ?_ hdb)⟩
  refine PySem.W.callWith_KW0 (h₀ := X.base) I.ok.mod.kin hk hall (thn (hkw.run pos pins s σ H _ I h) fun ws s2 z => ?_) hpl
  obtain ⟨zs, H2, I2, rz, q2⟩ := z
  refine ⟨I2.kIn, ?_⟩
  rw [hks]
  exact run_fnk F hr kb pass0 I2 .nil rz q2
end
theorem comp_disp {K : PySem.W.Frag} {ta : TA} {g : TG} {tt : TT} {te : TE} {vs : List Nat} {σ : L2.St} {H : Hp} {Q : VK} (h : ta σ H fun xs H1 => xs.length ≤ sizeLine ∧ ∀ p, H1 p = none → tLc (iTup K fun _ _ R => R (.ref p) (upd H1 p (.tup xs))) g tt te vs σ H Q) : tLc (iTup K (tTup ta)) g tt te vs σ H Q := h
theorem repr_of {K : PySem.W.Frag} {H : Hp} {v : V} {d : PyData} {Q : VK} (hr : ∃ a, v = .ref a) (hd : Dp K H v d) (sh : Shows d) (q : Q (.str d.shown) H) :
    ∃ (a : Addr) (d : PyData), [v] = [.ref a] ∧ Dp K H (.ref a) d ∧ d.showable = true ∧ d.hasDict = false ∧ d.depth ≤ 20 ∧ d.shown.length ≤ sizeLine ∧ Q (.str d.shown) H := by
  obtain ⟨a, rfl⟩ := hr
  exact ⟨a, d, rfl, hd, sh.show_, sh.nodict, sh.flat, sh.short, q⟩
theorem RatsAt.ref {K : PySem.W.Frag} {H : Hp} {v : V} {rs : List Rat} : RatsAt K H v rs → ∃ a, v = .ref a := fun ⟨a, _, e, _⟩ => ⟨a, e⟩
theorem RatAt.ref {K : PySem.W.Frag} {H : Hp} {v : V} {r : Rat} : RatAt K H v r → ∃ a, v = .ref a := fun ⟨a, e, _⟩ => ⟨a, e⟩
theorem PotsAt.ref {K : PySem.W.Frag} {H : Hp} {v : V} {es : List (Str × Rat)} : PotsAt K H v es → ∃ a, v = .ref a := fun ⟨a, _, e, _⟩ => ⟨a, e⟩
theorem ne_eq {x y : V} {H : Hp} {Q : VK} (e : x = y) (s : scal x y = true) (q : Q (.bl false) H) : rNe x y H Q := by
  subst e
  refine ⟨s, ?_⟩
  simpa using q
theorem eq_eq {x y : V} {H : Hp} {Q : VK} (e : x = y) (s : scal x y = true) (q : Q (.bl true) H) : rEq x y H Q := by
  subst e
  refine ⟨s, ?_⟩
  simpa using q
theorem decide_comm {a b : List Rat} : decide (a = b) = decide (b = a) := by
  by_cases h : a = b
  · subst h; rfl
  · rw [decide_eq_false h, decide_eq_false fun q => h q.symm]
theorem st_is {t : TS} {D : Ends} {σ σ' : L2.St} {H : Hp} (e : σ = σ') (h : t D σ' H) : t D σ H := e ▸ h
theorem into_test {t : TE} {σ : L2.St} {H : Hp} {Q : Bool → Hp → Prop} (h : t σ H fun x H' => ∃ k, x = .bl k ∧ Q k H') : tTest t σ H Q := h
abbrev s_l_is_row_right : Stmt := top 93
abbrev N_l_is_row_right : List Str := ["row", "sizes_by", "by", "sources", "parts", "ties", "start", "due", "told", "circuit", "ahead", "behind", "some", "one", "charges_v", "squares", "name", "size", "here", "there", "step", "weight"]
theorem sc_l_is_row_right : FnScope N_l_is_row_right ["row", "sizes_by", "by"] (defScope s_l_is_row_right) := ⟨rfl, rfl, rfl, by decide +kernel, rfl, by decide +kernel, by decide +kernel⟩
def spRow (K : PySem.W.Frag) : Sp := fun vs H Q _ => ∃ (F : Addr) (v z b : V) (h : Hand) (sz k : Rat), vs = [v, z, b] ∧ HandX K F H v h ∧ RatAt K H z sz ∧ RatAt K H b k ∧ RowOk h sz k ∧ ∀ H', Same H H' → Q (.bl true) H'
section
variable {P : Program} {w : World} {K : PySem.W.Frag} {mg : Str → Option Value} {base : Heap} {C : Addr}
theorem k_row (D : Lies K mg "_law_is_row_right" s_l_is_row_right) (D_flow : Lies K mg "flow" s_flow) (T : Plain mg) (T2 : Plain2 mg) (G_Circuit : Makes P w K mg base 7 "Circuit" C ["self", "text"] (spInitN K C))
    (G_l_text : Keeps P w K mg base 4 "_law_text" ["sources", "parts", "ties", "sizes_by", "by"] (spLText K)) (G_l_frac_times : Keeps P w K mg base 3 "_law_frac_times" ["one", "other"] (spRat2 K fun r s => r * s)) (G_l_frac_less : Keeps P w K mg base 3 "_law_frac_less" ["one", "other"] (spRat2 K fun r s => r - s))
    (G_l_frac_sum : Keeps P w K mg base 4 "_law_frac_sum" ["some"] (spTotal K)) (G_joined : Keeps P w K mg base 7 "joined" ["circuit", "joining", "standing"] (spJoined K C)) (G_does_fit : Keeps P w K mg base 8 "does_fit" ["circuit", "joining", "standing"] (spFit K C))
    (G_flow : Keeps P w K mg base 8 "flow" ["circuit", "joining", "standing"] (spFlow K C)) (G_lost : Keeps P w K mg base 8 "lost" ["circuit", "joining", "standing"] (spLost K C)) (G_potentials : Keeps P w K mg base 7 "potentials" ["circuit", "joining", "standing"] (spPots K C)) :
    KeepsG P w K mg base 10 "_law_is_row_right" ["row", "sizes_by", "by"] (spRow K) := by
  refine D.keepsG sc_l_is_row_right (fun _ _ _ _ _ _ us hl => match us, hl with | [_, _, _], _ => rfl) (fun vs H Q E h => ?_) (fun f cdv A outer s0 H vs Q hgd hr h => ?_)
  · obtain ⟨F, v, z, b, h, sz, k, rfl, _⟩ := h
    rfl
  · obtain ⟨F, v, z, b, h, sz, k, rfl, ⟨t, s, p, ti, st, du, to, rfl, ht, hS, hP, hT, hA, hB, hO⟩, hz, hb, ok, kq⟩ := h
    refine ⟨_, (pss_cons (ps_asg (pv 0) (pg_tup rfl (pgs_cons (pg_name (i := 3) sc_l_is_row_right.nd rfl (Or.inl rfl)) (pgs_cons (pg_name (i := 4) sc_l_is_row_right.nd rfl (Or.inl rfl)) (pgs_cons (pg_name (i := 5) sc_l_is_row_right.nd rfl (Or.inl rfl)) (pgs_cons (pg_name (i := 6) sc_l_is_row_right.nd rfl (Or.inl rfl)) (pgs_cons (pg_name (i := 7) sc_l_is_row_right.nd rfl (Or.inl rfl)) (pgs_cons (pg_name (i := 8) sc_l_is_row_right.nd rfl (Or.inl rfl)) pgs_nil))))))))
      (pss_cons (ps_set (i := 9) sc_l_is_row_right.nd rfl (Or.inl rfl) (pe_new G_Circuit (hr.mono (by decide)) rfl (pa_cons (pe_go G_l_text (hr.mono (by decide)) rfl (pa_cons (pv 3) (pa_cons (pv 4) (pa_cons (pv 5) (pa_cons (pv 1) (pa_cons (pv 2) pa_nil)))))) pa_nil)))
      (pss_cons (ps_asg (pe_lc (own := [("some", 12)]) (g := gName 12) (tt := tYes) rfl sc_l_is_row_right.nd (pi_tup (pe_tup (pa_cons (pv 6) (pa_cons (pv 7) pa_nil)))) (blkOk_by (N := N_l_is_row_right) (sc := defScope s_l_is_row_right) (by decide +kernel)) (fun _ _ _ _ _ => pg_name (i := 12) sc_l_is_row_right.nd rfl (Or.inl rfl)) (fun _ _ _ _ _ => pts_nil) (fun _ _ _ _ _ => by exact (pe_tupleK (K := K) rfl rfl T.n_tuple (pa_cons (pe_lc (own := [("one", 13)]) (g := gName 13) (tt := tYes) rfl sc_l_is_row_right.nd (pi_listK (K := K) rfl (pv 12)) (blkOk_in (N := N_l_is_row_right) (blkOk_by (by decide +kernel))) (fun _ _ _ _ _ => pg_name (i := 13) sc_l_is_row_right.nd rfl (Or.inl rfl)) (fun _ _ _ _ _ => pts_nil) (fun _ _ _ _ _ => by exact (pe_go G_l_frac_times (hr.mono (by decide)) rfl (pa_cons (pv 13) (pa_cons (pv 2) pa_nil))))) pa_nil)))) (pg_lst rfl (pgs_cons (pg_name (i := 10) sc_l_is_row_right.nd rfl (Or.inl rfl)) (pgs_cons (pg_name (i := 11) sc_l_is_row_right.nd rfl (Or.inl rfl)) pgs_nil))))
      (pss_cons (ps_if (PW.pt (pw_or (pt_cmpR op_ne (pe_callB (call_reprD hgd (hr.mono (by decide))) (by rfl) T.n_repr b_repr (pa_cons (pe_go G_joined (hr.mono (by decide)) rfl (pa_cons (pv 9) (pa_cons pe_str (pa_cons (pv 10) pa_nil)))) pa_nil)) (pe_callB (call_reprD hgd (hr.mono (by decide))) (by rfl) T.n_repr b_repr (pa_cons (pv 11) pa_nil)) (nomark _)) (pw_or1 (pt_cmpR op_notBl (pe_go G_does_fit (hr.mono (by decide)) rfl (pa_cons (pv 9) (pa_cons pe_str (pa_cons (pv 11) pa_nil)))) pe_bl (nomark _)))))
        (pss_one (ps_ret pe_bl))
        pss_nil)
      (pss_cons (ps_if (pt_cmpR op_ne (pe_go G_does_fit (hr.mono (by decide)) rfl (pa_cons (pv 9) (pa_cons pe_str (pa_cons (pv 10) pa_nil)))) (pe_cmpR (op_eqD hr.units) (pv 10) (pv 11) (nomark _)) (nomark _))
        (pss_one (ps_ret pe_bl))
        pss_nil)
      (pss_cons (ps_par (i := 14) (j := 15) (by rfl) sc_l_is_row_right.nd rfl rfl (by decide) rfl rfl (pa_cons (pe_lst pa_nil) (pa_cons (pe_lst pa_nil) pa_nil)) (by rfl))
      (pss_cons (ps_for PassesOwn.never rfl (pi_zip3 rfl T2.n_zip (pa_cons (pv 4) (pa_cons (pv 10) (pa_cons (pv 11) pa_nil)))) (pg_tup rfl (pgs_cons (pg_tup rfl (pgs_cons (pg_name (i := 16) sc_l_is_row_right.nd rfl (Or.inl rfl)) (pgs_cons (pg_name (i := 17) sc_l_is_row_right.nd rfl (Or.inl rfl)) pgs_nil))) (pgs_cons (pg_name (i := 18) sc_l_is_row_right.nd rfl (Or.inl rfl)) (pgs_cons (pg_name (i := 19) sc_l_is_row_right.nd rfl (Or.inl rfl)) pgs_nil))))
        (pss_cons (ps_par (i := 20) (j := 21) (by rfl) sc_l_is_row_right.nd rfl rfl (by decide) rfl rfl (pa_cons (pe_go G_l_frac_less (hr.mono (by decide)) rfl (pa_cons (pv 19) (pa_cons (pv 18) pa_nil))) (pa_cons (pe_go G_l_frac_times (hr.mono (by decide)) rfl (pa_cons (pe_tup (pa_cons (pv 17) (pa_cons pe_int pa_nil))) (pa_cons (pv 1) pa_nil))) pa_nil)) (by rfl))
        (pss_cons (ps_expr (pe_bm PySem.F.plainAttrs_list PySem.F.slot_list_append PySem.F.type_list_append mt_append (pv 14) (pa_cons (pe_go G_l_frac_times (hr.mono (by decide)) rfl (pa_cons (pv 21) (pa_cons (pv 20) pa_nil))) pa_nil)))
        (pss_one (ps_expr (pe_bm PySem.F.plainAttrs_list PySem.F.slot_list_append PySem.F.type_list_append mt_append (pv 15) (pa_cons (pe_go G_l_frac_times (hr.mono (by decide)) rfl (pa_cons (pv 21) (pa_cons (pe_go G_l_frac_times (hr.mono (by decide)) rfl (pa_cons (pv 20) (pa_cons (pv 20) pa_nil))) pa_nil))) pa_nil)))))))
      (pss_cons (ps_if (pt_cmpR op_ne (pe_callB (call_reprD hgd (hr.mono (by decide))) (by rfl) T.n_repr b_repr (pa_cons (pe_goKr (ks := ["joining", "standing", "circuit"]) G_flow D_flow (fun _ _ _ _ _ _ ws hl => match ws, hl with | [_, _, _], _ => rfl) (hr.mono (by decide)) rfl (pk_cons pe_str (pk_cons (pv 10) (pk_cons (pv 9) pk_nil)))) pa_nil)) (pe_callB (call_reprD hgd (hr.mono (by decide))) (by rfl) T.n_repr b_repr (pa_cons (pe_callTy call_tuple_of (by rfl) T.n_tuple b_tuple (pa_cons (pv 14) pa_nil)) pa_nil)) (nomark _))
        (pss_one (ps_ret pe_bl))
        pss_nil)
      (pss_cons (ps_if (pt_cmpR op_ne (pe_callB (call_reprD hgd (hr.mono (by decide))) (by rfl) T.n_repr b_repr (pa_cons (pe_go G_lost (hr.mono (by decide)) rfl (pa_cons (pv 9) (pa_cons pe_str (pa_cons (pv 10) pa_nil)))) pa_nil)) (pe_callB (call_reprD hgd (hr.mono (by decide))) (by rfl) T.n_repr b_repr (pa_cons (pe_go G_l_frac_sum (hr.mono (by decide)) rfl (pa_cons (pv 15) pa_nil)) pa_nil)) (nomark _))
        (pss_one (ps_ret pe_bl))
        pss_nil)
      (pss_cons (ps_if (pt_cmpR op_isN (pv 8) pe_non (nomark _))
        (pss_one (ps_ret pe_bl))
        pss_nil)
      (pss_one (ps_ret (pe_cmpR op_eq (pe_callB (call_reprD hgd (hr.mono (by decide))) (by rfl) T.n_repr b_repr (pa_cons (pe_go G_potentials (hr.mono (by decide)) rfl (pa_cons (pv 9) (pa_cons pe_str (pa_cons (pv 11) pa_nil)))) pa_nil)) (pe_callB (call_reprD hgd (hr.mono (by decide))) (by rfl) T.n_repr b_repr (pa_cons (pe_callTy call_tuple_of (by rfl) T.n_tuple b_tuple (pa_cons (pe_lc (own := [("name", 16), ("one", 13)]) (g := gTup K 2 (gCons (gName 16) (gCons (gName 13) gNil))) (tt := tYes) rfl sc_l_is_row_right.nd (pi_list (pv 8)) (blkOk_by (N := N_l_is_row_right) (sc := defScope s_l_is_row_right) (by decide +kernel)) (fun _ _ _ _ _ => pg_tup rfl (pgs_cons (pg_name (i := 16) sc_l_is_row_right.nd rfl (Or.inl rfl)) (pgs_cons (pg_name (i := 13) sc_l_is_row_right.nd rfl (Or.inl rfl)) pgs_nil))) (fun _ _ _ _ _ => pts_nil) (fun _ _ _ _ _ => by exact (pe_tup (pa_cons (pv 16) (pa_cons (pe_go G_l_frac_times (hr.mono (by decide)) rfl (pa_cons (pv 13) (pa_cons (pv 2) pa_nil))) pa_nil))))) pa_nil)) pa_nil)) (nomark _)))))))))))))), ?_⟩
    clear D D_flow G_Circuit G_l_text G_l_frac_times G_l_frac_less G_l_frac_sum G_joined G_does_fit G_flow G_lost G_potentials
    refine ⟨_, rfl, t, _, rfl, ht, rfl, _, _, rfl, _, _, rfl, _, _, rfl, _, _, rfl, _, _, rfl, _, _, rfl, rfl, ?_⟩
    dsimp only
    refine ⟨_, rfl, _, rfl, _, rfl, _, rfl, _, rfl, s, p, ti, z, b, h.src, h.prt, h.ties, sz, k, rfl, hS.ls, hP.ls, hT.ls, hz, hb, ok.src, ok.prt, ok.siz.more (by decide), ok.by_.more (by decide), ok.own, fun H1 s1 => ?_⟩
    obtain ⟨aP, xP, rfl, _, hPl, pP⟩ := hP
    obtain ⟨aA, xA, rfl, _, hAl, pA⟩ := hA
    obtain ⟨aB, xB, rfl, _, hBl, pB⟩ := hB
    have lP := pP.length
    have lA := pA.length
    have lB := pB.length
    have few : h.prt.length ≤ 8 := by
      have := ok.own.p_few
      unfold ownH ownOf at this
      rwa [List.length_map] at this
    have lo : (ownH h sz k).parts.length = h.prt.length := List.length_map ..
    have laH : (aheadH h k).length = h.prt.length := (List.length_map ..).trans ok.lenS
    have lbH : (behindH h k).length = h.prt.length := (List.length_map ..).trans ok.lenD
    have inj : (("j" : Str), h.ties) ∈ (ownH h sz k).joinings := List.mem_singleton.mpr rfl
    -- circuit
    refine fun x dx nx ndx nn => ?_
    have sa : Same H1 (upd H1 dx (.own x)) := same_upd ndx
    have sb : Same H1 (upd (upd H1 dx (.own x)) x (.ins C dx [])) := sa.trans (same_upd (by rw [upd_ne (fun z => nn z.symm)]; exact nx))
    refine ⟨H1, x, dx, ownH h sz k, rfl, sb, nx, upd_same, ok.own, fun H3 s3 hc => ⟨rfl, ?_⟩⟩
    have g3 := s1.trans s3
    refine into_name ?_
    dsimp only
    refine st_is (σ' := [some (.ref t), some z, some b, some s, some (.ref aP), some ti, some (.ref aA), some (.ref aB), some to, some (.ref x), none, none, none, none, none, none, none, none, none, none, none, none]) rfl ?_
    -- ahead, behind
    refine into_set ?_
    refine comp_disp ⟨_, rfl, _, rfl, by show 2 ≤ sizeLine; decide, fun q nq => ?_⟩
    have s4 := same_upd (o := .tup [V.ref aA, V.ref aB]) nq
    have h4 : SqT K (upd H3 q (.tup [V.ref aA, V.ref aB])) q [V.ref aA, V.ref aB] := SqT.of upd_same
    have g4 := g3.trans s4
    generalize upd H3 q (.tup [V.ref aA, V.ref aB]) = H4 at *
    have lsA : LsAt K H4 (FrAt K H4) (.ref aA) h.start := ⟨aA, xA, rfl, SqL.of (g4 _ _ hAl), pA.mono fun _ _ h => h.same g4⟩
    have lsB : LsAt K H4 (FrAt K H4) (.ref aB) h.due := ⟨aB, xB, rfl, SqL.of (g4 _ _ hBl), pB.mono fun _ _ h => h.same g4⟩
    refine comp_pureT (f := fun l : List (Int × Int) => l.map fun f => ratF f * k) (R := LsAt K H4 (FrAt K H4)) (R' := fun H' => RatsAt K H') (es := [h.start, h.due]) (fun R r => r) h4 (.cons lsA (.cons lsB .nil)) (by show 2 < 1000000; decide) (fun s _ _ h => h.same s) (fun _ hD _ _ h => h.list hD) (fun v e H0 W re he s5 hw => ?_) (fun H5 D5 acc n5 s5 hL5 pL5 => ?_)
    · obtain ⟨l, vs, rfl, hl, pl⟩ := re
      have fe : (∀ x ∈ e, FrOk x) ∧ e.length ≤ 8 := by
        simp only [List.mem_cons, List.not_mem_nil, or_false] at he
        rcases he with rfl | rfl
        · exact ⟨ok.frs, by rw [ok.lenS]; exact few⟩
        · exact ⟨ok.frd, by rw [ok.lenD]; exact few⟩
      have le := pl.length
      have fe2 := fe.2
      refine ⟨rfl, ?_⟩
      refine into_cb (into_args1 (comp_pure (f := fun x : Int × Int => ratF x * k) (R := FrAt K H4) (R' := RatAt K) (fun R r => ⟨_, rfl, r⟩) (Same.seq s5 hl) pl (by omega) (fun s _ _ h => h.same s) (fun _ hD _ _ h => h.list hD) (fun v x He W1 re hx s6 hw1 => ?_) (fun H6 D6 acc n6 s6 hL6 pL6 => ?_)))
      · exact ⟨rfl, _, rfl, _, rfl, v, b, ratF x, k, rfl, FrAt.rat (fe.1 x hx) (re.same (s5.trans s6)), hb.same (g4.trans (s5.trans s6)), (ratF_fit (fe.1 x hx)).more (by decide), ok.by_.more (by decide), fun v' H' s' hv => hw1 v' H' s' hv⟩
      · refine ⟨D6, acc, rfl, .inl ⟨SqL.of hL6, fun l nl => ?_⟩⟩
        have s7 := same_upd (o := .tup acc) nl
        exact hw _ _ (s6.trans s7) ⟨l, acc, rfl, SqT.of upd_same, pL6.mono fun _ _ h => h.same s7⟩
    · obtain ⟨va, vb, rfl, hva, hvb⟩ : ∃ va vb, acc = [va, vb] ∧ RatsAt K H5 va (aheadH h k) ∧ RatsAt K H5 vb (behindH h k) := by
        cases pL5 with
        | cons r1 p1 =>
          cases p1 with
          | cons r2 p2 =>
            cases p2
            exact ⟨_, _, rfl, r1, r2⟩
      refine ⟨D5, _, rfl, SqL.of hL5, rfl, _, _, rfl, _, _, rfl, rfl, ?_⟩
      refine st_is (σ' := [some (.ref t), some z, some b, some s, some (.ref aP), some ti, some (.ref aA), some (.ref aB), some to, some (.ref x), some va, some vb, none, none, none, none, none, none, none, none, none, none]) rfl ?_
      have g5 := g4.trans s5
      have hc5 := hc.same (s4.trans s5)
      have sA := rats_shows ok.a1 (by omega)
      have sB := rats_shows ok.b1 (by omega)
      have dA := diff_len (a := behindH h k) (b := aheadH h k) (by omega)
      -- joined
      refine into_if (into_or (into_test (into_op (into_cb (into_args1 ?_)))))
      refine ⟨_, rfl, _, rfl, .ref x, va, ownH h sz k, "j", h.ties, aheadH h k, rfl, hc5, ok.own, inj, hva, by omega, fun fl fo => (ok.free fl fo).ahead, fun fl v1 H6 fo s6 hv1 => ?_⟩
      rw [(ok.free fl fo).leads] at hv1
      obtain ⟨a1, rfl⟩ := hv1.ref
      obtain ⟨b1, rfl⟩ := hvb.ref
      refine ⟨a1, _, rfl, hv1.dp, sB.show_, sB.nodict, sB.flat, sB.short, ?_⟩
      refine into_cb (into_args1 ⟨_, rfl, b1, _, rfl, (hvb.same s6).dp, sB.show_, sB.nodict, sB.flat, sB.short, ?_⟩)
      refine ne_eq rfl rfl ⟨false, rfl, iteF ?_⟩
      have g6 := g5.trans s6
      -- does_fit
      refine into_test (into_op ?_)
      refine ⟨_, rfl, _, rfl, .ref x, .ref b1, ownH h sz k, "j", h.ties, behindH h k, rfl, hc5.same s6, ok.own, inj, hvb.same s6, by omega, fun fl fo => (ok.free fl fo).behind, fun fl H7 fo s7 => ?_⟩
      rw [decide_eq_true (ok.free fl fo).stays]
      refine ⟨true, true, rfl, rfl, false, rfl, iteF (into_next ?_)⟩
      dsimp only
      refine into_if (into_test (into_op ?_))
      have s57 := s6.trans s7
      refine ⟨_, rfl, _, rfl, .ref x, va, ownH h sz k, "j", h.ties, aheadH h k, rfl, hc5.same s57, ok.own, inj, hva.same s57, by omega, fun fl fo => (ok.free fl fo).ahead, fun fl H8 fo s8 => ?_⟩
      rw [(ok.free fl fo).leads]
      have s58 := s57.trans s8
      refine into_op ⟨_, rfl, _, rfl, ratsD (aheadH h k), ratsD (behindH h k), (hva.same s58).dp, (hvb.same s58).dp, ratsD_shaped _, ratsD_shaped _, ?_⟩
      rw [ratsD_eqv]
      refine ne_eq (by rw [decide_comm]) rfl ⟨false, rfl, iteF (into_next ?_)⟩
      dsimp only
      have g8 := g5.trans s58
      have hc8 := hc5.same s58
      have hva8 := hva.same s58
      have hvb8 := hvb.same s58
      clear hc5 hva hvb hc
      -- charges_v, squares
      refine into_seq (into_par (into_cons ⟨by show 0 ≤ sizeLine; decide, fun pc npc => into_cons ⟨by show 0 ≤ sizeLine; decide, fun ps nps => ⟨_, _, rfl, ?_⟩⟩⟩))
      have ne : pc ≠ ps := fun e => by
        rw [← e, upd_same] at nps
        cases nps
      have nps8 : H8 ps = none := by rwa [upd_ne (Ne.symm ne)] at nps
      have s9 : Same H8 (upd (upd H8 pc (.lst [])) ps (.lst [])) := (same_upd npc).trans (same_upd nps)
      have hpc : (upd (upd H8 pc (.lst [])) ps (.lst [])) pc = some (.lst []) := by rw [upd_ne ne, upd_same]
      have hps : (upd (upd H8 pc (.lst [])) ps (.lst [])) ps = some (.lst []) := upd_same
      generalize upd (upd H8 pc (.lst [])) ps (.lst []) = H9 at *
      refine st_is (σ' := [some (.ref t), some z, some b, some s, some (.ref aP), some ti, some (.ref aA), some (.ref aB), some to, some (.ref x), some va, some (.ref b1), none, none, some (.ref pc), some (.ref ps), none, none, none, none, none, none]) rfl ?_
      obtain ⟨aA8, xA8, rfl, hqA, pA8⟩ := id hva8
      obtain ⟨aB8, xB8, eB8, hqB, pB8⟩ := id hvb8
      obtain rfl := V.ref.inj eB8
      have lA8 := pA8.length
      have lB8 := pB8.length
      refine into_seq ⟨_, rfl, _, rfl, _, rfl, aP, aA8, b1, xP, xA8, xB8, rfl, SqL.of (s9 _ _ (g8 _ _ hPl)), SqT.same s9 hqA, SqT.same s9 hqB, for_it (walk_zip3 (by omega) (by omega)) (fun i σ' H' => ∃ (w1 w2 w3 w4 w5 w6 : Option V) (aC aS : List V), σ' = [some (.ref t), some z, some b, some s, some (.ref aP), some ti, some (.ref aA), some (.ref aB), some to, some (.ref x), some (.ref aA8), some (.ref b1), none, none, some (.ref pc), some (.ref ps), w1, w2, w3, w4, w5, w6] ∧
        Same H8 H' ∧ H' pc = some (.lst aC) ∧ H' ps = some (.lst aS) ∧ Paired (RatAt K H') aC ((chgH h sz k).take i) ∧ Paired (RatAt K H') aS ((sqsH h sz k).take i)) ⟨none, none, none, none, none, none, [], [], rfl, s9, hpc, hps, .nil, .nil⟩ (fun i σ' H' _ ⟨_, _, _, _, _, _, _, _, _, s', _⟩ => ⟨Same.seq s' (SqL.of (g8 _ _ hPl)), SqT.same s' hqA, SqT.same s' hqB⟩) ?_ ?_⟩
      · rintro i xx σ' H' H'' hi ⟨w1, w2, w3, w4, w5, w6, aC, aS, rfl, s', hC, hS', pC, pS⟩ ⟨Tp, x1, y1, u1, rfl, nT, rfl, ex, ey, eu⟩
        obtain ⟨e, ee, tt, rfl, htt⟩ := Paired.at pP ex
        obtain ⟨r1, er, hr1⟩ := Paired.at pA8 ey
        obtain ⟨r2, er2, hr2⟩ := Paired.at pB8 eu
        have i8 : i < h.prt.length := by omega
        have s2 := same_upd (o := .tup [V.ref tt, y1, u1]) nT
        have hTp : SqT K (upd H' Tp (.tup [V.ref tt, y1, u1])) Tp [V.ref tt, y1, u1] := SqT.of upd_same
        have hC2 := s2 _ _ hC
        have hS2 := s2 _ _ hS'
        have pC2 := pC.mono fun _ _ h => RatAt.same s2 h
        have pS2 := pS.mono fun _ _ h => RatAt.same s2 h
        have s82 := s'.trans s2
        generalize upd H' Tp (.tup [V.ref tt, y1, u1]) = H2 at *
        have en : (stepsH h k)[i]? = some (r2 - r1) := by
          unfold stepsH diffL
          rw [List.getElem?_zipWith, er2, er]
        have ew : (weightsH h sz)[i]? = some (intQ e.2 * sz) := by
          unfold weightsH
          rw [List.getElem?_map, ee]
          rfl
        have esq : (prodL (stepsH h k) (stepsH h k))[i]? = some ((r2 - r1) * (r2 - r1)) := by
          unfold prodL
          rw [List.getElem?_zipWith, en]
        have ec : (chgH h sz k)[i]? = some (intQ e.2 * sz * (r2 - r1)) := by
          unfold chgH prodL
          rw [List.getElem?_zipWith, ew, en]
        have es : (sqsH h sz k)[i]? = some (intQ e.2 * sz * ((r2 - r1) * (r2 - r1))) := by
          unfold sqsH
          unfold prodL at esq ⊢
          rw [List.getElem?_zipWith, ew, esq]
        have f1 : FitR 1000 r1 := ok.a1 _ (List.mem_of_getElem? er)
        have f2 : FitR 1000 r2 := ok.b1 _ (List.mem_of_getElem? er2)
        have fd : FitR 1000 (r2 - r1) := ok.d1 _ (List.mem_of_getElem? en)
        have fw : FitR 1000 (intQ e.2 * sz) := ok.w1 _ (List.mem_of_getElem? ew)
        have fs : FitR 1000 ((r2 - r1) * (r2 - r1)) := ok.s1 _ (List.mem_of_getElem? esq)
        have fe : FitR 4400 (intQ e.2) := ok.prt e (List.mem_of_getElem? ee)
        refine ⟨Tp, _, rfl, hTp, rfl, _, _, rfl, ⟨tt, _, rfl, SqT.same (g8.trans s82) htt, rfl, _, _, rfl, _, _, rfl, ⟨rfl, _, _, rfl, _, _, rfl, rfl, ?_⟩⟩⟩
        refine st_is (σ' := [some (.ref t), some z, some b, some s, some (.ref aP), some ti, some (.ref aA), some (.ref aB), some to, some (.ref x), some (.ref aA8), some (.ref b1), none, none, some (.ref pc), some (.ref ps), some (.str e.1), some (.int e.2), some y1, some u1, w5, w6]) rfl ?_
        refine into_seq (into_par (into_cons ?_))
        refine ⟨_, rfl, _, rfl, u1, y1, r2, r1, rfl, hr2.same s82, hr1.same s82, f2.more (by decide), f1.more (by decide), fun v3 H3 s3 hv3 => ?_⟩
        refine into_cons ?_
        refine ⟨_, rfl, by show 2 ≤ sizeLine; decide, fun q1 nq1 => ?_⟩
        have s4 := same_upd (o := .tup [V.int e.2, V.int 1]) nq1
        have h4 : RatAt K (upd H3 q1 (.tup [V.int e.2, V.int 1])) (.ref q1) (intQ e.2) := int_rat (SqT.of upd_same)
        generalize upd H3 q1 (.tup [V.int e.2, V.int 1]) = H4' at *
        refine ⟨_, rfl, .ref q1, z, _, sz, rfl, h4, hz.same (g8.trans (s82.trans (s3.trans s4))), fe, ok.siz.more (by decide), fun v5 H5' s5' hv5 => ⟨_, _, rfl, ?_⟩⟩
        have s25 := s3.trans (s4.trans s5')
        have hv3' := hv3.same (s4.trans s5')
        refine st_is (σ' := [some (.ref t), some z, some b, some s, some (.ref aP), some ti, some (.ref aA), some (.ref aB), some to, some (.ref x), some (.ref aA8), some (.ref b1), none, none, some (.ref pc), some (.ref ps), some (.str e.1), some (.int e.2), some y1, some u1, some v3, some v5]) rfl ?_
        dsimp only
        refine into_drop ⟨_, rfl, .inl ⟨rfl, _, SqL.of (s25 _ _ hC2)⟩, into_args1 ?_⟩
        refine ⟨_, rfl, _, rfl, v5, v3, _, _, rfl, hv5, hv3', fw.more (by decide), fd.more (by decide), fun v6 H6' s6' hv6 => ?_⟩
        have s26 := s25.trans s6'
        have hC6 := s26 _ _ hC2
        have lC := pC2.length
        have lS := pS2.length
        have lC1 := List.length_take_le i (chgH h sz k)
        have lS1 := List.length_take_le i (sqsH h sz k)
        refine ⟨pc, aC, v6, rfl, rfl, hC6, by show aC.length < 16777216; omega, ?_⟩
        have pC7 : Paired (RatAt K (upd H6' pc (.lst (aC ++ [v6])))) (aC ++ [v6]) ((chgH h sz k).take (i + 1)) := by
          rw [take_next ec]
          exact (pC2.mono fun _ _ h => (h.same s26).list hC6).snoc (hv6.list hC6)
        have pS7 := pS2.mono fun _ _ h => (RatAt.same s26 h).list (acc' := aC ++ [v6]) hC6
        have hS7 : (upd H6' pc (.lst (aC ++ [v6]))) ps = some (.lst aS) := (upd_ne (Ne.symm ne)).trans (s26 _ _ hS2)
        have hv5' := (hv5.same s6').list (acc' := aC ++ [v6]) hC6
        have hv3'' := (hv3'.same s6').list (acc' := aC ++ [v6]) hC6
        have hC7 : (upd H6' pc (.lst (aC ++ [v6]))) pc = some (.lst (aC ++ [v6])) := upd_same
        have s87 : Same H8 (upd H6' pc (.lst (aC ++ [v6]))) := same_but (s82.trans s26) npc
        generalize upd H6' pc (.lst (aC ++ [v6])) = H7' at *
        refine into_drop1 ⟨_, rfl, .inl ⟨rfl, _, SqL.of hS7⟩, into_args1 ?_⟩
        refine ⟨_, rfl, _, rfl, _, rfl, v3, v3, _, _, rfl, hv3'', hv3'', fd.more (by decide), fd.more (by decide), fun v8 H8' s8' hv8 => ?_⟩
        refine ⟨v5, v8, _, _, rfl, hv5'.same s8', hv8, fw.more (by decide), fs.more (by decide), fun v9 H9' s9' hv9 => ?_⟩
        have s79 := s8'.trans s9'
        have hS9 := s79 _ _ hS7
        refine ⟨ps, aS, v9, rfl, rfl, hS9, by show aS.length < 16777216; omega, ?_⟩
        refine ⟨_, _, _, _, _, _, aC ++ [v6], aS ++ [v9], rfl, same_but (s87.trans s79) nps8, (upd_ne ne).trans (s79 _ _ hC7), upd_same, pC7.mono fun _ _ h => (h.same s79).list hS9, ?_⟩
        rw [take_next es]
        exact (pS7.mono fun _ _ h => (h.same s79).list hS9).snoc (hv9.list hS9)
      · rintro σ' H10 ⟨w1, w2, w3, w4, w5, w6, aC, aS, rfl, s10, hC, hS', pC, pS⟩
        have lc : (chgH h sz k).length = h.prt.length := by
          unfold chgH prodL weightsH
          rw [List.length_zipWith, List.length_map]
          show min h.prt.length (stepsH h k).length = _
          unfold stepsH
          omega
        have ls : (sqsH h sz k).length = h.prt.length := by
          unfold sqsH prodL weightsH
          rw [List.length_zipWith, List.length_map, List.length_zipWith]
          show min h.prt.length (min (stepsH h k).length (stepsH h k).length) = _
          unfold stepsH
          omega
        have lxp : xP.length = h.prt.length := lP
        rw [List.take_of_length_le (by omega)] at pC
        rw [List.take_of_length_le (by omega)] at pS
        have g10 := g8.trans s10
        have hc10 := hc8.same s10
        have hvaX : RatsAt K H10 (.ref aA8) (aheadH h k) := hva8.same s10
        have hvbX : RatsAt K H10 (.ref b1) (behindH h k) := hvb8.same s10
        have sC := rats_shows ok.c1 (by omega)
        dsimp only
        -- flow
        refine into_if (into_test (into_op (into_cb (into_args1 ?_))))
        refine ⟨_, rfl, _, rfl, .ref x, .ref aA8, ownH h sz k, "j", h.ties, aheadH h k, rfl, hc10, ok.own, inj, hvaX, by omega, ok.a1.more, fun fl fo => ⟨(ok.free fl fo).ahead, by rw [(ok.free fl fo).leads]; exact ok.b1.more, by rw [(ok.free fl fo).leads]; exact ok.d1.more⟩, fun fl v1 H11 fo s11 hv1 => ?_⟩
        rw [(ok.free fl fo).leads] at hv1
        have hv1 : RatsAt K H11 v1 (chgH h sz k) := by
          rw [← ok.chg]
          exact hv1
        obtain ⟨a11, rfl⟩ := hv1.ref
        refine ⟨a11, _, rfl, hv1.dp, sC.show_, sC.nodict, sC.flat, sC.short, ?_⟩
        refine into_cb (into_args1 (into_cb (into_args1 ⟨_, rfl, pc, aC, rfl, .inl ⟨SqL.of (s11 _ _ hC), fun q11 nq11 => ?_⟩⟩)))
        have s12 := same_upd (o := .tup aC) nq11
        have hT12 : RatsAt K (upd H11 q11 (.tup aC)) (.ref q11) (chgH h sz k) := ⟨q11, aC, rfl, SqT.of upd_same, pC.mono fun _ _ h => h.same (s11.trans s12)⟩
        generalize upd H11 q11 (.tup aC) = H12 at *
        refine ⟨q11, _, rfl, hT12.dp, sC.show_, sC.nodict, sC.flat, sC.short, ?_⟩
        refine ne_eq rfl rfl ⟨false, rfl, iteF (into_next ?_)⟩
        dsimp only
        -- lost
        have s10' := s11.trans s12
        refine into_if (into_test (into_op (into_cb (into_args1 ?_))))
        refine ⟨_, rfl, _, rfl, .ref x, .ref aA8, ownH h sz k, "j", h.ties, aheadH h k, rfl, hc10.same s10', ok.own, inj, hvaX.same s10', by omega, ok.a1.more, fun fl fo => ⟨(ok.free fl fo).ahead, by rw [(ok.free fl fo).leads]; exact ok.b1.more, by rw [(ok.free fl fo).leads]; exact ok.sq⟩, fun fl v2 H13 fo s13 hv2 => ?_⟩
        rw [(ok.free fl fo).leads] at hv2
        have hv2 : RatAt K H13 v2 (sumL (sqsH h sz k)) := by
          rw [← ok.same]
          exact hv2
        obtain ⟨a13, rfl⟩ := hv2.ref
        have sS := rat_shows ok.q1
        refine ⟨a13, _, rfl, hv2.dp, sS.show_, sS.nodict, sS.flat, sS.short, ?_⟩
        refine into_cb (into_args1 ?_)
        refine ⟨_, rfl, .ref ps, sqsH h sz k, rfl, ⟨ps, aS, rfl, SqL.of ((s10'.trans s13) _ _ hS'), pS.mono fun _ _ h => h.same (s10'.trans s13)⟩, ok.sumq.1, ok.sumq.2, fun v3 H14 s14 hv3 => ?_⟩
        obtain ⟨a14, rfl⟩ := hv3.ref
        refine ⟨a14, _, rfl, hv3.dp, sS.show_, sS.nodict, sS.flat, sS.short, ?_⟩
        refine ne_eq rfl rfl ⟨false, rfl, iteF (into_next ?_)⟩
        dsimp only
        have s1014 := s10'.trans (s13.trans s14)
        have g14 := g10.trans s1014
        -- told
        refine into_if (into_test (into_op ⟨_, rfl, rfl, _, rfl, ?_⟩))
        cases ho : h.told with
        | none =>
          rw [ho] at hO
          have hO : to = .non := hO
          subst hO
          rw [if_pos (by simp)]
          exact kq _ g14
        | some l =>
          rw [ho] at hO
          obtain ⟨aO, xO, rfl, _, hOl, pO⟩ := hO
          rw [if_neg (by simp)]
          refine into_next ?_
          dsimp only
          obtain ⟨l8, lk⟩ := ok.told l ho
          have lO := pO.length
          refine into_ret (into_op (into_cb (into_args1 ?_)))
          refine ⟨_, rfl, _, rfl, .ref x, .ref b1, ownH h sz k, "j", h.ties, behindH h k, rfl, hc10.same s1014, ok.own, inj, hvbX.same s1014, by omega, fun fl fo => ⟨(ok.free fl fo).behind, (ok.free fl fo).stays, (ok.free fl fo).has l ho⟩, fun fl fl' v4 H15 fo fo' s15 hv4 => ?_⟩
          rw [← ok.once fl fl' fo fo', (ok.free fl fo).pots l ho] at hv4
          obtain ⟨a15, rfl⟩ := hv4.ref
          have sT := pots_shows (es := toldH l k) (fun e he => by
            obtain ⟨y, hy, rfl⟩ := List.mem_map.mp he
            exact ⟨(lk y hy).1, (lk y hy).2.2⟩) (by rw [toldH, List.length_map]; exact l8)
          refine ⟨a15, _, rfl, hv4.dp, sT.show_, sT.nodict, sT.flat, sT.short, ?_⟩
          have g15 := g14.trans s15
          refine into_cb (into_args1 (into_cb (into_args1 (comp_pure (f := fun e : Str × Int × Int => (e.1, ratF e.2 * k)) (R := EntAt K H) (R' := fun H v (e : Str × Rat) => ∃ t u, v = .ref t ∧ SqT K H t [.str e.1, u] ∧ RatAt K H u e.2) (fun R r => ⟨_, rfl, r⟩) (SqL.of (g15 _ _ hOl)) pO (by omega)
            (fun s _ _ ⟨t, u, e, a, b⟩ => ⟨t, u, e, SqT.same s a, b.same s⟩) (fun _ hD _ _ ⟨t, u, e, a, b⟩ => ⟨t, u, e, SqT.list hD a, b.list hD⟩) (fun v e He W re he s16 hw => ?_) (fun H17 D17 acc n17 s17 hL17 pL17 => ?_)))))
          · obtain ⟨t1, u1, rfl, ht1, hu1⟩ := re
            have g := g15.trans s16
            have hu2 := FrAt.rat (lk e he).2.1 hu1
            refine ⟨t1, _, rfl, SqT.same g ht1, rfl, _, _, rfl, _, _, rfl, rfl, rfl, ?_⟩
            exact ⟨_, rfl, _, rfl, _, rfl, u1, b, ratF e.2, k, rfl, hu2.same g, hb.same g, (ratF_fit (lk e he).2.1).more (by decide), ok.by_.more (by decide), fun v' H' s' hv => ⟨by show 2 ≤ sizeLine; decide, fun r nr => hw _ _ (s'.trans (same_upd nr)) ⟨r, v', rfl, SqT.of upd_same, hv.same (same_upd nr)⟩⟩⟩
          · refine ⟨D17, acc, rfl, .inl ⟨SqL.of hL17, fun q17 nq17 => ?_⟩⟩
            have s18 := same_upd (o := .tup acc) nq17
            have hT18 : PotsAt K (upd H17 q17 (.tup acc)) (.ref q17) (toldH l k) := ⟨q17, acc, rfl, SqT.of upd_same, pL17.mono fun _ _ ⟨t, u, e, a, b⟩ => ⟨t, u, e, SqT.same s18 a, b.same s18⟩⟩
            refine ⟨q17, _, rfl, hT18.dp, sT.show_, sT.nodict, sT.flat, sT.short, ?_⟩
            exact eq_eq rfl rfl (kq _ (g15.trans (s17.trans s18)))
end
end Ct

/-! The free junctions are told in one way; sides that can be asked. -/
namespace Ct
open PySem PySem.Spec PyProof.Rows L2 TL RZ
theorem str_ext {x y : Str} (h : x.cps.toList = y.cps.toList) : x = y := by
  cases x with
  | mk a =>
    cases y with
    | mk b =>
      have : a = b := Array.toList_inj.mp h
      rw [this]
def LeS (x y : Str) : Prop := ¬ y.cps.toList < x.cps.toList
theorem LeS.trans {x y z : Str} (a : LeS x y) (b : LeS y z) : LeS x z := by
  unfold LeS at *
  rw [List.not_lt] at *
  exact List.le_trans a b
theorem LeS.anti {x y : Str} (a : LeS x y) (b : LeS y x) : x = y := by
  unfold LeS at *
  rw [List.not_lt] at *
  exact str_ext (List.le_antisymm a b)
theorem rising_pair : ∀ {l : List Str} {p : Str}, risingS p l = true → (p :: l).Pairwise LeS
  | [], p, _ => List.pairwise_cons.mpr ⟨(fun _ h => nomatch h), List.Pairwise.nil⟩
  | x :: r, p, h => by
    unfold risingS at h
    rw [Bool.and_eq_true] at h
    have ih := rising_pair h.2
    have hp : LeS p x := by
      unfold LeS
      have := h.1
      rw [ltCps_eq] at this
      simpa using this
    refine List.pairwise_cons.mpr ⟨fun y hy => ?_, ih⟩
    rcases List.mem_cons.mp hy with rfl | hm
    · exact hp
    · exact hp.trans ((List.pairwise_cons.mp ih).1 y hm)
theorem sorted_pair : ∀ {l : List Str}, sortedS l = true → l.Pairwise LeS
  | [], _ => List.Pairwise.nil
  | _ :: _, h => rising_pair h
theorem free_once {o : Own} {ties : Ties} {a b : List Str} (ha : FreeOf o ties a) (hb : FreeOf o ties b) : a = b := by
  have p : a.Perm b := (List.perm_ext_iff_of_nodup ha.once hb.once).mpr fun x => (ha.mem x).trans (hb.mem x).symm
  exact List.Perm.eq_of_pairwise (le := LeS) (fun x y _ _ h1 h2 => LeS.anti h1 h2) (sorted_pair ha.rise) (sorted_pair hb.rise) p
/-- asked by a Bool -/
theorem all_take {P : List Rat → Prop} {rs : List Rat} (h : ∀ i ∈ List.range (rs.length + 1), P (rs.take i)) (i : Nat) : P (rs.take i) := by
  by_cases l : i ≤ rs.length
  · exact h i (List.mem_range.mpr (by omega))
  · have e : rs.take i = rs.take rs.length := by
      rw [List.take_of_length_le (by omega), List.take_of_length_le (Nat.le_refl _)]
    rw [e]
    exact h rs.length (List.mem_range.mpr (by omega))
end Ct

/-! The elimination on plain lists: widths and sizes. -/
namespace Ct
theorem least_len (ns : List Int) : (leastL ns).length = ns.length := by
  unfold leastL
  split
  · rfl
  · rw [List.length_map]
theorem wo_len {p r : List Int} {c wd : Nat} (hp : p.length = wd) (hr : r.length = wd) : (wo p c r).length = wd := by
  unfold wo withoutL
  split
  · exact hr
  · rw [least_len]
    unfold crossL
    rw [List.length_zipWith, hp, hr, Nat.min_self]
def Below (B : Nat) (ns : List Int) : Prop := ∀ n ∈ ns, n.natAbs < 2 ^ B
theorem Below.more {B C : Nat} {ns : List Int} (h : Below B ns) (l : B ≤ C) : Below C ns := fun n hn => Nat.lt_of_lt_of_le (h n hn) (Nat.pow_le_pow_right (by decide) l)
theorem least_below {B : Nat} {ns : List Int} (h : Below B ns) : Below B (leastL ns) := by
  unfold leastL
  split
  · exact h
  · rename_i h2
    intro n hn
    obtain ⟨m, hm, rfl⟩ := List.mem_map.mp hn
    have d := gcdL_dvd hm
    rw [Int.fdiv_eq_ediv_of_dvd d]
    exact Nat.lt_of_le_of_lt (Int.natAbs_ediv_le_natAbs m _) (h m hm)
theorem idx_mem {r : List Int} {c : Nat} {B : Nat} (h : Below B r) : (idx r c).natAbs < 2 ^ B := by
  unfold idx
  cases q : r[c]? with
  | none => exact Nat.pow_pos (by decide)
  | some x => exact h x (List.mem_of_getElem? q)
theorem cross_below {B : Nat} {own its : Int} {ns ps : List Int} (ho : own.natAbs < 2 ^ B) (hi : its.natAbs < 2 ^ B) (hn : Below B ns) (hp : Below B ps) : Below (2 * B + 1) (crossL own its ns ps) := by
  intro n h
  obtain ⟨x, y, hx, hy, rfl⟩ : ∃ x y, x ∈ ns ∧ y ∈ ps ∧ n = x * its - y * own := by
    unfold crossL at h
    obtain ⟨j, hj, e⟩ := List.mem_iff_getElem.mp h
    rw [List.getElem_zipWith] at e
    exact ⟨_, _, List.getElem_mem _, List.getElem_mem _, e.symm⟩
  have h1 : x.natAbs * its.natAbs < 2 ^ B * 2 ^ B := Nat.mul_lt_mul'' (hn x hx) hi
  have h2 : y.natAbs * own.natAbs < 2 ^ B * 2 ^ B := Nat.mul_lt_mul'' (hp y hy) ho
  have h3 : (x * its - y * own).natAbs ≤ x.natAbs * its.natAbs + y.natAbs * own.natAbs := by
    rw [← Int.natAbs_mul, ← Int.natAbs_mul]
    exact Int.natAbs_sub_le _ _
  have e : 2 ^ (2 * B + 1) = 2 ^ B * 2 ^ B + 2 ^ B * 2 ^ B := by
    rw [Nat.pow_succ, Nat.two_mul, Nat.pow_add, Nat.mul_two]
  rw [e]
  omega
theorem wo_below {B : Nat} {p r : List Int} {c : Nat} (hp : Below B p) (hr : Below B r) : Below (2 * B + 1) (wo p c r) := by
  unfold wo withoutL
  split
  · exact hr.more (by omega)
  · exact least_below (cross_below (idx_mem hr) (idx_mem hp) hr hp)
/-- each row as wide, each number below 2^B -/
def Ok (wd B : Nat) (rows : Rowss) : Prop := ∀ r ∈ rows, r.length = wd ∧ Below B r
theorem step_ok {wd B c : Nat} {st : Rowss × Rowss} (h1 : Ok wd B st.1) (h2 : Ok wd B st.2) : Ok wd (2 * B + 1) (stepL c st).1 ∧ Ok wd (2 * B + 1) (stepL c st).2 ∧ (stepL c st).1.length = st.1.length ∧ (stepL c st).2.length ≤ st.2.length + 1 := by
  unfold stepL
  split
  · exact ⟨fun r hr => ⟨(h1 r hr).1, (h1 r hr).2.more (by omega)⟩, fun r hr => ⟨(h2 r hr).1, (h2 r hr).2.more (by omega)⟩, rfl, Nat.le_succ _⟩
  · rename_i p ps e
    have hp : p ∈ st.1 := (List.mem_filter.mp (show p ∈ leadL c st.1 by rw [e]; exact List.mem_cons_self)).1
    refine ⟨fun r hr => ?_, fun r hr => ?_, ?_, ?_⟩
    · obtain ⟨q, hq, rfl⟩ := List.mem_map.mp hr
      exact ⟨wo_len (h1 p hp).1 (h1 q hq).1, wo_below (h1 p hp).2 (h1 q hq).2⟩
    · rcases List.mem_append.mp hr with hr | hr
      · obtain ⟨q, hq, rfl⟩ := List.mem_map.mp hr
        exact ⟨wo_len (h1 p hp).1 (h2 q hq).1, wo_below (h1 p hp).2 (h2 q hq).2⟩
      · obtain rfl := List.mem_singleton.mp hr
        exact ⟨(h1 _ hp).1, (h1 _ hp).2.more (by omega)⟩
    · rw [List.length_map]
    · rw [List.length_append, List.length_map]
      exact Nat.le_refl _
/-- n columns on: the bits doubled and one more, n times -/
def bitsAt (B : Nat) : Nat → Nat
  | 0 => B
  | n + 1 => 2 * bitsAt B n + 1
theorem elim_ok {wd B : Nat} {rows : Rowss} (h : Ok wd B rows) : ∀ n, Ok wd (bitsAt B n) (elimL n rows).1 ∧ Ok wd (bitsAt B n) (elimL n rows).2 ∧ (elimL n rows).1.length = rows.length ∧ (elimL n rows).2.length ≤ n
  | 0 => ⟨h, (fun _ hr => nomatch hr), rfl, Nat.le_refl _⟩
  | n + 1 => by
    obtain ⟨a, b, c, d⟩ := elim_ok h n
    obtain ⟨a', b', c', d'⟩ := step_ok (c := n) a b
    rw [elim_next]
    exact ⟨a', b', c'.trans c, by omega⟩
end Ct

/-! The elimination on plain lists: what each step makes of a row, and that no led row is all noughts. -/
namespace Ct
theorem least_at (ns : List Int) : ∃ g : Int, 0 < g ∧ ∀ j, g * idx (leastL ns) j = idx ns j := by
  unfold leastL
  split
  · exact ⟨1, by decide, fun j => Int.one_mul _⟩
  · rename_i h2
    refine ⟨gcdL ns, by omega, fun j => ?_⟩
    unfold idx
    rw [List.getElem?_map]
    cases q : ns[j]? with
    | none => exact Int.mul_zero _
    | some x =>
      have d := gcdL_dvd (List.mem_of_getElem? q)
      show gcdL ns * x.fdiv (gcdL ns) = x
      rw [Int.fdiv_eq_ediv_of_dvd d]
      exact Int.mul_ediv_cancel' d
theorem cross_at {own its : Int} {r p : List Int} (l : r.length = p.length) (j : Nat) : idx (crossL own its r p) j = idx r j * its - idx p j * own := by
  unfold idx crossL
  rw [List.getElem?_zipWith]
  cases q : r[j]? with
  | none =>
    have : p[j]? = none := by
      rw [List.getElem?_eq_none_iff] at q ⊢
      omega
    rw [this]
    simp
  | some x =>
    cases q2 : p[j]? with
    | none =>
      rw [List.getElem?_eq_none_iff] at q2
      have := (List.getElem?_eq_some_iff.mp q).1
      omega
    | some y => rfl
theorem wo_at {p r : List Int} {c : Nat} (l : r.length = p.length) : ∃ g u v : Int, 0 < g ∧ (idx p c ≠ 0 → u ≠ 0) ∧ u * idx r c = v * idx p c ∧ ∀ j, g * idx (wo p c r) j = u * idx r j - v * idx p j := by
  unfold wo withoutL
  split
  · rename_i h0
    refine ⟨1, 1, 0, by decide, fun _ => by decide, by rw [h0]; simp, fun j => ?_⟩
    simp
  · obtain ⟨g, g0, hg⟩ := least_at (crossL (idx r c) (idx p c) r p)
    refine ⟨g, idx p c, idx r c, g0, fun h => h, Int.mul_comm _ _, fun j => ?_⟩
    rw [hg, cross_at l, Int.mul_comm (idx r j), Int.mul_comm (idx p j)]
theorem wo_zero {p r : List Int} {c : Nat} (l : r.length = p.length) : idx (wo p c r) c = 0 := by
  obtain ⟨g, u, v, g0, _, e, h⟩ := wo_at (c := c) l
  have := h c
  rw [e, Int.sub_self] at this
  rcases Int.mul_eq_zero.mp this with z | z
  · omega
  · exact z
theorem wo_keeps {p r : List Int} {c j : Nat} (l : r.length = p.length) (hp : idx p j = 0) (hr : idx r j = 0) : idx (wo p c r) j = 0 := by
  obtain ⟨g, u, v, g0, _, e, h⟩ := wo_at (c := c) l
  have := h j
  rw [hp, hr, Int.mul_zero, Int.mul_zero, Int.sub_self] at this
  rcases Int.mul_eq_zero.mp this with z | z
  · omega
  · exact z
theorem wo_not {p r : List Int} {c j : Nat} (l : r.length = p.length) (hc : idx p c ≠ 0) (hp : idx p j = 0) (hr : idx r j ≠ 0) : idx (wo p c r) j ≠ 0 := by
  obtain ⟨g, u, v, g0, hu, e, h⟩ := wo_at (c := c) l
  intro z
  have := h j
  rw [hp, z, Int.mul_zero, Int.mul_zero, Int.sub_zero] at this
  rcases Int.mul_eq_zero.mp this.symm with q | q
  · exact hu hc q
  · exact hr q
/-- behind n columns: the waiting rows are 0 there, each led row has one of them that is not 0 -/
structure Led (wd n : Nat) (st : Rowss × Rowss) : Prop where
  len1 : ∀ r ∈ st.1, r.length = wd
  len2 : ∀ r ∈ st.2, r.length = wd
  wait : ∀ r ∈ st.1, ∀ j, j < n → idx r j = 0
  lead : ∀ r ∈ st.2, ∃ j, j < n ∧ idx r j ≠ 0
theorem step_led {wd n : Nat} {st : Rowss × Rowss} (h : Led wd n st) : Led wd (n + 1) (stepL n st) := by
  unfold stepL
  split
  · rename_i e
    refine ⟨h.len1, h.len2, fun r hr j hj => ?_, fun r hr => ?_⟩
    · rcases Nat.lt_succ_iff_lt_or_eq.mp hj with q | rfl
      · exact h.wait r hr j q
      · have : r ∉ leadL j st.1 := by rw [e]; exact fun z => nomatch z
        unfold leadL at this
        rw [List.mem_filter] at this
        cases Decidable.em (idx r j = 0) with
        | inl z => exact z
        | inr z => exact absurd ⟨hr, decide_eq_true z⟩ this
    · obtain ⟨j, a, b⟩ := h.lead r hr
      exact ⟨j, by omega, b⟩
  · rename_i p ps e
    have hp2 := List.mem_filter.mp (show p ∈ leadL n st.1 by rw [e]; exact List.mem_cons_self)
    have hp := hp2.1
    have pn : idx p n ≠ 0 := of_decide_eq_true hp2.2
    have lp := h.len1 p hp
    refine ⟨fun r hr => ?_, fun r hr => ?_, fun r hr j hj => ?_, fun r hr => ?_⟩
    · obtain ⟨q, hq, rfl⟩ := List.mem_map.mp hr
      exact wo_len lp (h.len1 q hq)
    · rcases List.mem_append.mp hr with hr | hr
      · obtain ⟨q, hq, rfl⟩ := List.mem_map.mp hr
        exact wo_len lp (h.len2 q hq)
      · obtain rfl := List.mem_singleton.mp hr
        exact lp
    · obtain ⟨q, hq, rfl⟩ := List.mem_map.mp hr
      have lq : q.length = p.length := (h.len1 q hq).trans lp.symm
      rcases Nat.lt_succ_iff_lt_or_eq.mp hj with z | rfl
      · exact wo_keeps lq (h.wait p hp j z) (h.wait q hq j z)
      · exact wo_zero lq
    · rcases List.mem_append.mp hr with hr | hr
      · obtain ⟨q, hq, rfl⟩ := List.mem_map.mp hr
        obtain ⟨j, a, b⟩ := h.lead q hq
        exact ⟨j, by omega, wo_not ((h.len2 q hq).trans lp.symm) pn (h.wait p hp j a) b⟩
      · obtain rfl := List.mem_singleton.mp hr
        exact ⟨n, Nat.lt_succ_self n, pn⟩
theorem elim_led {wd : Nat} {rows : Rowss} (h : ∀ r ∈ rows, r.length = wd) : ∀ n, Led wd n (elimL n rows)
  | 0 => ⟨h, (fun _ hr => nomatch hr), fun _ _ _ hj => absurd hj (Nat.not_lt_zero _), fun _ hr => nomatch hr⟩
  | n + 1 => by
    rw [elim_next]
    exact step_led (elim_led h n)
theorem first_of {r : List Int} {j : Nat} (h : idx r j ≠ 0) : firstL r ≠ 0 := by
  have hm : idx r j ∈ notNil r := by
    unfold notNil
    refine List.mem_filter.mpr ⟨?_, decide_eq_true h⟩
    unfold idx at h ⊢
    cases q : r[j]? with
    | none => rw [q] at h; exact absurd rfl h
    | some x => exact List.mem_of_getElem? q
  cases q : notNil r with
  | nil => rw [q] at hm; cases hm
  | cons x t =>
    have hx : x ∈ notNil r := by rw [q]; exact List.mem_cons_self
    unfold firstL
    rw [q]
    exact of_decide_eq_true (List.mem_filter.mp hx).2
/-- what the elimination comes across, from the rows' width and size alone -/
theorem elim_good {wd B : Nat} {rows : Rowss} (h : Ok wd B rows) (few : rows.length < 1000000) (pos : 0 < wd) (wide : wd < 1000000) (small : ∀ n, n ≤ wd → bitsAt B n ≤ 4400) : ElimOk wd rows where
  few := few
  pos := pos
  wide := wide
  state := fun n hn => by
    obtain ⟨a, b, c, d⟩ := elim_ok h n
    exact ⟨fun r hr => ⟨(a r hr).1, (a r hr).2.more (small n hn)⟩, fun r hr => ⟨(b r hr).1, (b r hr).2.more (small n hn)⟩, by omega, by omega⟩
  led := fun r hr => by
    obtain ⟨j, _, q⟩ := (elim_led (fun r hr => (h r hr).1) wd).lead r hr
    exact first_of q
end Ct

/-! All that a circuit by hand wants, asked of numbers. -/
namespace Ct
open PySem PySem.Spec PyProof.Rows L2 TL RZ
instance (n : Nat) (r : Rat) : Decidable (FitR n r) := inferInstanceAs (Decidable (_ ∧ _))
instance (q : Option Rat) : Decidable (Fit? q) := match q with
  | none => isFalse fun ⟨_, e, _⟩ => nomatch e
  | some r => if h : FitR 4400 r then isTrue ⟨r, rfl, h⟩ else isFalse fun ⟨_, e, f⟩ => h (by cases e; exact f)
instance (a : List Rat) : Decidable (Fits4 a) := inferInstanceAs (Decidable (∀ r ∈ a, FitR 4400 r))
instance (a : List Rat) : Decidable (Fits1 a) := inferInstanceAs (Decidable (∀ r ∈ a, FitR 1000 r))
instance (rs : List Rat) : Decidable (SumOk rs) := decidable_of_iff ((∀ r ∈ rs, FitR 4400 r) ∧ ∀ i ∈ List.range (rs.length + 1), FitR 4400 (sumL (rs.take i)))
  ⟨fun h => ⟨h.1, all_take (P := fun l => FitR 4400 (sumL l)) h.2⟩, fun h => ⟨h.1, fun i _ => h.2 i⟩⟩
instance (rs : List Rat) : Decidable (ClearOk rs) := decidable_of_iff (rs.length < 1000000 ∧ (∀ r ∈ rs, FitR 4400 r) ∧ ∀ i ∈ List.range (rs.length + 1), lcmL (rs.take i) < 2 ^ 4400)
  ⟨fun h => ⟨h.1, h.2.1, all_take (P := fun l => lcmL l < 2 ^ 4400) h.2.2⟩, fun h => ⟨h.1, h.2.1, fun i _ => h.2.2 i⟩⟩
instance (m : Tab) (ties : Ties) : Decidable (EndsIn m ties) := inferInstanceAs (Decidable (∀ t ∈ ties, Fit? (m t.2.1) ∧ Fit? (m t.2.2)))
instance (o : Own) (ties : Ties) (fl : List Str) (st : List Rat) : Decidable (EqOk o ties fl st) := decidable_of_iff
  (ties.length ≤ 8 ∧ fl.length ≤ 16 ∧ EndsIn (zeroT o fl) ties ∧ (∀ t ∈ ties, Fit? (sizeT o t.1)) ∧ (∀ t ∈ ties, Fit? (aheadT o st t.1)) ∧ (∀ t ∈ ties, Fit? (tiedT ties (zeroT o fl) t.1)) ∧ (∀ t ∈ ties, FitR 4400 ((aheadT o st).at t.1 - (tiedT ties (zeroT o fl)).at t.1)) ∧
    (∀ t ∈ ties, Fit? (lackT o ties fl st t.1)) ∧ (∀ j ∈ fl, ∀ k ∈ fl, SumOk (weights o ties j k)) ∧ ∀ j ∈ fl, SumOk (mades o ties fl st j))
  ⟨fun ⟨a, b, c, d, e, f, g, h, i, j⟩ => ⟨a, b, c, d, e, f, g, h, i, j⟩, fun ⟨a, b, c, d, e, f, g, h, i, j⟩ => ⟨a, b, c, d, e, f, g, h, i, j⟩⟩
def ElimB (wd : Nat) (rows : Rowss) : Prop := (∀ r ∈ rows, r.length = wd ∧ ∀ n ∈ r, n.natAbs < 2 ^ 400) ∧ rows.length < 1000000 ∧ 0 < wd ∧ wd ≤ 3
instance (wd : Nat) (rows : Rowss) : Decidable (ElimB wd rows) := inferInstanceAs (Decidable (_ ∧ _ ∧ _ ∧ _))
theorem ElimB.ok {wd : Nat} {rows : Rowss} (h : ElimB wd rows) : ElimOk wd rows := by
  obtain ⟨a, b, c, d⟩ := h
  refine elim_good (B := 400) a b c (by omega) fun n hn => ?_
  have : n = 0 ∨ n = 1 ∨ n = 2 ∨ n = 3 := by omega
  rcases this with rfl | rfl | rfl | rfl <;> decide
def BeginsB (many : Nat) (r : List Rat) : Prop := placeOf r < many ∧ placeOf r < r.length
instance (many : Nat) (r : List Rat) : Decidable (BeginsIn many r) := inferInstanceAs (Decidable (_ ∧ _))
def JoinB (o : Own) (ties : Ties) (fl : List Str) (st : List Rat) : Prop := EqOk o ties fl st ∧ (∀ r ∈ eqsL o ties fl st, ClearOk r) ∧ (eqsL o ties fl st = [] ∧ wdOf fl = 0 ∨ eqsL o ties fl st ≠ [] ∧ ElimB (wdOf fl) ((eqsL o ties fl st).map clearedL)) ∧
  (∀ r ∈ plainEq o ties fl st, BeginsIn fl.length r) ∧ EndsIn (potT o ties fl st) ties
instance (o : Own) (ties : Ties) (fl : List Str) (st : List Rat) : Decidable (JoinB o ties fl st) := inferInstanceAs (Decidable (_ ∧ _ ∧ _ ∧ _ ∧ _))
theorem JoinB.ok {o : Own} {ties : Ties} {fl : List Str} {st : List Rat} (h : JoinB o ties fl st) : JoinOk o ties fl st := by
  obtain ⟨a, b, c, d, e⟩ := h
  refine ⟨⟨a, b, ?_, d⟩, e⟩
  rcases c with c | ⟨c1, c2⟩
  · exact .inl c
  · exact .inr ⟨c1, c2.ok⟩
instance (o : Own) (row : List Rat) : Decidable (SqOk o row) := decidable_of_iff (Fits4 row ∧ Fits4 (chargeL o row) ∧ SumOk (prodL (chargeL o row) row)) ⟨fun ⟨a, b, c⟩ => ⟨a, b, c⟩, fun ⟨a, b, c⟩ => ⟨a, b, c⟩⟩
instance (x : Str) : Decidable (Name x) := inferInstanceAs (Decidable (_ ∧ _ ∧ (∀ c ∈ tl x, 97 ≤ c ∧ c ≤ 122) ∧ _))
instance (x : Str) : Decidable (Junc x) := inferInstanceAs (Decidable (_ ∨ _))
instance (f : Int × Int) : Decidable (FrOk f) := inferInstanceAs (Decidable (_ ∧ _ ∧ _ ∧ _))
instance (ps : List Str) (j : Str × List (Str × Str × Str)) : Decidable (JoiOk ps j) := decidable_of_iff (Name j.1 ∧ j.2.length ≤ 8 ∧ (j.2.map (·.1)).Nodup ∧ ∀ t ∈ j.2, t.1 ∈ ps ∧ Junc t.2.1 ∧ Junc t.2.2)
  ⟨fun ⟨a, b, c, d⟩ => ⟨a, b, c, d⟩, fun ⟨a, b, c, d⟩ => ⟨a, b, c, d⟩⟩
instance (o : Own) : Decidable (OwnOk o) := decidable_of_iff (o.sources.length ≤ 4 ∧ 1 ≤ o.parts.length ∧ o.parts.length ≤ 8 ∧ 1 ≤ o.joinings.length ∧ o.joinings.length ≤ 6 ∧ (∀ e ∈ o.sources, Name e.1 ∧ FrOk e.2) ∧ (∀ e ∈ o.parts, Name e.1 ∧ FrOk e.2 ∧ 0 < e.2.1) ∧
    (o.sources.map (·.1)).Nodup ∧ (o.parts.map (·.1)).Nodup ∧ (o.joinings.map (·.1)).Nodup ∧ ∀ j ∈ o.joinings, JoiOk (o.parts.map (·.1)) j)
  ⟨fun ⟨a, b, c, d, e, f, g, h, i, j, k⟩ => ⟨a, b, c, d, e, f, g, h, i, j, k⟩, fun ⟨a, b, c, d, e, f, g, h, i, j, k⟩ => ⟨a, b, c, d, e, f, g, h, i, j, k⟩⟩
instance (l : List (Str × Int)) : Decidable (IntsFit l) := inferInstanceAs (Decidable (∀ e ∈ l, FitR 4400 (intQ e.2)))
def FreeB (o : Own) (ties : Ties) (fl : List Str) : Prop := (∀ x ∈ fl, x ∈ named ties ∧ givenT o x = none) ∧ (∀ x ∈ named ties, givenT o x = none → x ∈ fl) ∧ fl.Nodup ∧ sortedS fl = true
instance (o : Own) (ties : Ties) (fl : List Str) : Decidable (FreeB o ties fl) := inferInstanceAs (Decidable (_ ∧ _ ∧ _ ∧ _))
theorem FreeB.ok {o : Own} {ties : Ties} {fl : List Str} (h : FreeB o ties fl) : FreeOf o ties fl := ⟨fun x => ⟨h.1 x, fun q => h.2.1 x q.1 q.2⟩, h.2.2.1, h.2.2.2⟩
/-- the free junctions of a hand -/
def freeH (h : Hand) (sz k : Rat) : List Str := ((named h.ties).eraseDups.filter fun x => (givenT (ownH h sz k) x).isNone).mergeSort fun x y => !ltCps y.cps.toList x.cps.toList
def PotsB (h : Hand) (sz k : Rat) (fl : List Str) : Prop := match h.told with
  | none => True
  | some l => (∀ j ∈ fl, (potT (ownH h sz k) h.ties fl (behindH h k) j).isSome = true) ∧ (fl.map fun j => (j, (potT (ownH h sz k) h.ties fl (behindH h k)).at j)) = toldH l k ∧ l.length ≤ 8 ∧ ∀ e ∈ l, Name e.1 ∧ FrOk e.2 ∧ FitR 1000 (ratF e.2 * k)
instance (h : Hand) (sz k : Rat) (fl : List Str) : Decidable (PotsB h sz k fl) := by
  unfold PotsB
  cases h.told with
  | none => exact isTrue trivial
  | some l => exact inferInstanceAs (Decidable (_ ∧ _ ∧ _ ∧ _))
structure RowB (fl : List Str) (h : Hand) (sz k : Rat) : Prop where
  src : IntsFit h.src
  prt : IntsFit h.prt
  siz : FitR 1000 sz
  by_ : FitR 1000 k
  own : OwnOk (ownH h sz k)
  frs : ∀ f ∈ h.start, FrOk f
  frd : ∀ f ∈ h.due, FrOk f
  lenS : h.start.length = h.prt.length
  lenD : h.due.length = h.prt.length
  a1 : Fits1 (aheadH h k)
  b1 : Fits1 (behindH h k)
  d1 : Fits1 (stepsH h k)
  w1 : Fits1 (weightsH h sz)
  s1 : Fits1 (prodL (stepsH h k) (stepsH h k))
  c1 : Fits1 (chgH h sz k)
  chg : chargeL (ownH h sz k) (stepsH h k) = chgH h sz k
  sq : SqOk (ownH h sz k) (stepsH h k)
  sumq : SumOk (sqsH h sz k)
  q1 : FitR 1000 (sumL (sqsH h sz k))
  same : sqR (ownH h sz k) (stepsH h k) = sumL (sqsH h sz k)
  free : FreeB (ownH h sz k) h.ties fl
  ahead : JoinB (ownH h sz k) h.ties fl (aheadH h k)
  leads : joinL (ownH h sz k) h.ties fl (aheadH h k) = behindH h k
  behind : JoinB (ownH h sz k) h.ties fl (behindH h k)
  stays : joinL (ownH h sz k) h.ties fl (behindH h k) = behindH h k
  pots : PotsB h sz k fl
theorem RowB.ok {fl : List Str} {h : Hand} {sz k : Rat} (b : RowB fl h sz k) : RowOk h sz k where
  src := b.src
  prt := b.prt
  siz := b.siz
  by_ := b.by_
  own := b.own
  frs := b.frs
  frd := b.frd
  lenS := b.lenS
  lenD := b.lenD
  a1 := b.a1
  b1 := b.b1
  d1 := b.d1
  w1 := b.w1
  s1 := b.s1
  c1 := b.c1
  chg := b.chg
  sq := b.sq
  sumq := b.sumq
  q1 := b.q1
  same := b.same
  told := fun l e => by
    have p := b.pots
    unfold PotsB at p
    rw [e] at p
    exact ⟨p.2.2.1, p.2.2.2⟩
  free := fun fl' fo => by
    obtain rfl := free_once fo b.free.ok
    refine ⟨b.ahead.ok, b.leads, b.behind.ok, b.stays, fun l e j hj => ?_, fun l e => ?_⟩
    · have p := b.pots
      unfold PotsB at p
      rw [e] at p
      exact Option.isSome_iff_exists.mp (p.1 j hj)
    · have p := b.pots
      unfold PotsB at p
      rw [e] at p
      exact p.2.1
  once := fun _ _ h1 h2 => free_once h1 h2
instance (fl : List Str) (h : Hand) (sz k : Rat) : Decidable (RowB fl h sz k) := decidable_of_iff
  (((IntsFit h.src ∧ IntsFit h.prt ∧ FitR 1000 sz ∧ FitR 1000 k ∧ OwnOk (ownH h sz k)) ∧ ((∀ f ∈ h.start, FrOk f) ∧ (∀ f ∈ h.due, FrOk f) ∧ h.start.length = h.prt.length ∧ h.due.length = h.prt.length)) ∧
   (Fits1 (aheadH h k) ∧ Fits1 (behindH h k) ∧ Fits1 (stepsH h k) ∧ Fits1 (weightsH h sz) ∧ Fits1 (prodL (stepsH h k) (stepsH h k)) ∧ Fits1 (chgH h sz k)) ∧
   (chargeL (ownH h sz k) (stepsH h k) = chgH h sz k ∧ SqOk (ownH h sz k) (stepsH h k) ∧ SumOk (sqsH h sz k) ∧ FitR 1000 (sumL (sqsH h sz k)) ∧ sqR (ownH h sz k) (stepsH h k) = sumL (sqsH h sz k)) ∧
   (FreeB (ownH h sz k) h.ties fl ∧ JoinB (ownH h sz k) h.ties fl (aheadH h k) ∧ joinL (ownH h sz k) h.ties fl (aheadH h k) = behindH h k ∧ JoinB (ownH h sz k) h.ties fl (behindH h k) ∧ joinL (ownH h sz k) h.ties fl (behindH h k) = behindH h k ∧ PotsB h sz k fl))
  ⟨fun ⟨⟨⟨a, b, c, d, e⟩, f, g, h, i⟩, ⟨j, k, l, m, n, o⟩, ⟨p, q, r, s, t⟩, u, v, w, x, y, z⟩ => ⟨a, b, c, d, e, f, g, h, i, j, k, l, m, n, o, p, q, r, s, t, u, v, w, x, y, z⟩,
   fun ⟨a, b, c, d, e, f, g, h, i, j, k, l, m, n, o, p, q, r, s, t, u, v, w, x, y, z⟩ => ⟨⟨⟨a, b, c, d, e⟩, f, g, h, i⟩, ⟨j, k, l, m, n, o⟩, ⟨p, q, r, s, t⟩, u, v, w, x, y, z⟩⟩
def freeOfs : List (List Str × Hand) := [(["x"], hand1), (["m", "n"], hand2), (["m", "n"], hand3), (["x", "y"], hand4), (["x", "y"], hand5), (["p", "q"], hand6)]
end Ct

set_option maxHeartbeats 0
/-! All hands, at all sizes and factors, by evaluation. -/
namespace Ct
open PySem PySem.Spec PyProof.Rows L2 TL RZ
def sizesL : List (Int × Int) := [(1, 1), (2, 1), (1, 2), (3, 2), (2, 3), (3, 1), (1, 3), (5, 3), (4, 5)]
def bysL : List (Int × Int) := [(2, 1), (-1, 1), (3, 7), (-5, 2), (10 ^ 6, 1), (1, 9)]
theorem rows1 : ∀ p ∈ freeOfs, RowB p.1 p.2 (ratF (1, 1)) (ratF (1, 1)) := by decide +kernel
theorem rowsA : ∀ p ∈ freeOfs, ∀ f ∈ sizesL, ∀ g ∈ bysL, RowB p.1 p.2 (ratF f) (ratF g) := by decide +kernel
theorem hand_free {h : Hand} (hh : h ∈ hands) : ∃ p ∈ freeOfs, p.2 = h := by
  simp only [hands, List.mem_cons, List.not_mem_nil, or_false] at hh
  rcases hh with rfl | rfl | rfl | rfl | rfl | rfl
  · exact ⟨(["x"], hand1), by simp [freeOfs], rfl⟩
  · exact ⟨(["m", "n"], hand2), by simp [freeOfs], rfl⟩
  · exact ⟨(["m", "n"], hand3), by simp [freeOfs], rfl⟩
  · exact ⟨(["x", "y"], hand4), by simp [freeOfs], rfl⟩
  · exact ⟨(["x", "y"], hand5), by simp [freeOfs], rfl⟩
  · exact ⟨(["p", "q"], hand6), by simp [freeOfs], rfl⟩
theorem ok_one {h : Hand} (hh : h ∈ hands) : RowOk h (ratF (1, 1)) (ratF (1, 1)) := by
  obtain ⟨p, hp, rfl⟩ := hand_free hh
  exact (rows1 p hp).ok
theorem ok_any {h : Hand} (hh : h ∈ hands) {f g : Int × Int} (hf : f ∈ sizesL) (hg : g ∈ bysL) : RowOk h (ratF f) (ratF g) := by
  obtain ⟨p, hp, rfl⟩ := hand_free hh
  exact (rowsA p hp f hf g hg).ok
theorem fr_sizes : ∀ f ∈ sizesL, FrOk f := by decide +kernel
theorem fr_bys : ∀ f ∈ bysL, FrOk f := by decide +kernel
end Ct

/-! The law's own call, where no repr is under way. -/
namespace Ct
open PySem PySem.Spec PyProof.Rows L2 TL
theorem law_runs {P : Program} {w : World} {K : PySem.W.Frag} {mg mb : Str → Option Value} {k : Nat} {fa a : Addr} {fd : FuncData} {x : Str} {sp : Sp} {s1 : Shared} {vs : List Value} {ns : List Int}
    (KX : K.In s1.heap) (names : s1.heap.Ns mainGlobals mg) (bnames : s1.heap.Ns builtinsNs mb) (bboot : ∀ y : Str, y ≠ "__name__" → mb y = bootBuiltins y) (lim : s1.heap.NoLimit) (ng : s1.gens = #[])
    (at_a : s1.heap.get? a = some { cls := .type "list", data := .seq vs.toArray }) (hints0 : IntsAre vs ns) (few : ns.length ≤ sizeLine) (room : Room k callerA)
    (F : ∀ base : Heap, K.In base → base.Ns mainGlobals mg → FnG P w K mg base k fa fd [x] sp) (bind : ∀ (s : Shared) (u : Value), BindsTo s fd ⟨[u], []⟩ [(x, u)])
    (sat : ∀ H : Hp, Only H → SqL K H a (ns.map V.int) → sp [.ref a] H (fun v _ => v = .bl true) E0) :
    codeAny (model P w) callerA (.call (.ref fa) ⟨[.ref a], []⟩) (fun r s' => r = .ok (.ret (.bool true)) ∧ OldK s1.heap s'.heap ∧ s'.os = s1.os ∧ AllBare s'.gens) s1 := by
  have rints := vals_ints hints0
  have same := hints0.length
  have main : ∀ H : Hp, Only H → SqL K H a (ns.map V.int) → HOk P w H s1.heap → (∀ b, H b ≠ none → b = a) → (H a ≠ none → K.lookup a = none) →
      codeAny (model P w) callerA (.call (.ref fa) ⟨[.ref a], []⟩) (fun r s' => r = .ok (.ret (.bool true)) ∧ OldK s1.heap s'.heap ∧ s'.os = s1.os ∧ AllBare s'.gens) s1 := by
    intro H only told fine alone apart
    have low : ∀ {b : Addr} {o : Obj}, s1.heap.get? b = some o → H b = none → (hidT s1.heap H).get? b = some o := fun e n => hidT_get e n
    have nodict : ∀ {b : Addr} {o : Obj} {es : Array DictEntry} {ep : Nat}, s1.heap.get? b = some o → o.data = .dict es ep → H b = none := by
      intro b o es ep e d
      cases q : H b with
      | none => rfl
      | some u =>
        obtain rfl : b = a := alone b (by rw [q]; exact fun z => nomatch z)
        rw [at_a] at e
        cases e
        exact nomatch (show Data.seq vs.toArray _ = Data.dict es ep from d)
    have nsLow : ∀ {b : Addr} {m : Str → Option Value}, s1.heap.Ns b m → (hidT s1.heap H).Ns b m := by
      rintro b m ⟨o, es, ep, e, d, r⟩
      exact ⟨o, es, ep, low e (nodict e d), d, r⟩
    have KLow : K.In (hidT s1.heap H) := by
      intro b o e
      refine low (KX b o e) ?_
      cases q : H b with
      | none => rfl
      | some u =>
        obtain rfl : b = a := alone b (by rw [q]; exact fun z => nomatch z)
        rw [apart (by rw [q]; exact fun z => nomatch z)] at e
        cases e
    have modOk : Mod K mg (hidT s1.heap H) := by
      obtain ⟨mc, l1, l2⟩ := lim
      exact ⟨KLow, nsLow names, ⟨mb, nsLow bnames, bboot⟩, ⟨mc, nsLow l1, l2⟩⟩
    have env : Env0 P w K mg (hidT s1.heap H) callerA [] s1 H :=
      ⟨rfl, modOk, fun b o e => of_hidT e, Nat.le_of_eq (hidT_size _ _), trivial, (fun b hb => nomatch (show b ∈ ([] : List Addr) from hb)), fine, .of_eq ng⟩
    refine codeAny_mono ((F _ KLow (nsLow names)).run callerA [] s1 H ⟨[.ref a], []⟩ [.ref a] [.ref a] _ room rfl env (bind s1 (.ref a)) (.cons rfl .nil) (sat H only told)) fun r s2 h => ?_
    cases r with
    | error e => exact False.elim h
    | ok fl =>
      cases fl with
      | next => exact h.elim
      | brk => exact h.elim
      | cont => exact h.elim
      | ret u =>
        obtain ⟨v, H2, os, bare, un, fine2, rv, q⟩ := h
        obtain rfl : v = .bl true := q
        obtain rfl : u = Value.bool true := rv
        refine ⟨rfl, OldK.of_keep fun b o e => ?_, os, bare⟩
        cases q : H b with
        | none => exact un.keep b o e q (fun z => nomatch (show b ∈ ([] : List Addr) from z)) (by simp)
        | some u =>
          rcases only b with z | ⟨ob, xs, z⟩
          · rw [q] at z
            cases z
          · obtain ⟨i1, _⟩ := fine b _ z
            obtain ⟨i2, _⟩ := fine2 b _ (un.frzs b ob _ z)
            rw [e] at i1
            cases i1
            exact i2
  cases hk : K.lookup a with
  | some o =>
    have e := KX a o hk
    rw [at_a] at e
    cases e
    refine main (fun _ => none) (fun _ => .inl rfl) (.inr ⟨_, vs.toArray, _, hk, rfl, rfl, rfl, ?_, by simpa using rints⟩) (fun b u z => nomatch (show (none : Option HO) = some u from z)) (fun b z => absurd rfl z) (fun z => absurd rfl z)
    rw [List.size_toArray, same]
    exact few
  | none =>
    refine main (fun b => if b = a then some (.frz { cls := .type "list", data := .seq vs.toArray } (.lst (ns.map V.int))) else none) ?_ (.inl (.inr ⟨_, if_pos rfl⟩)) ?_ ?_ (fun _ => hk)
    · intro b
      by_cases q : b = a
      · exact .inr ⟨_, _, if_pos q⟩
      · exact .inl (if_neg q)
    · intro b u z
      by_cases q : b = a
      · subst q
        have z2 := (if_pos rfl).symm.trans z
        cases z2
        exact ⟨at_a, by rw [List.length_map]; exact few, vs, _, rints, at_a⟩
      · exact nomatch (if_neg q).symm.trans z
    · intro b z
      by_cases q : b = a
      · exact q
      · exact absurd (if_neg q) z
theorem walk_runs {l : PySem.W.OpenLaw} {n k : Nat} {q : Program} {loose : List Str} {XP : (Str → Option Value) → Heap → Prop} {YP : World → Heap → Prop} {d : DefRec} {K : Params → PySem.W.Frag} {sp : World → Sp} {x : Str}
    (most : l.most = some n) (few : n ≤ sizeLine) (nodef : d.params.defaults = []) (room : Room k callerA) (kin : ∀ (w : World) (h : Heap), YP w h → (K w.params).In h)
    (F : ∀ (w : World) (mg : Str → Option Value) (fa : Addr) (h : Heap), (K w.params).In h → h.Ns mainGlobals mg → mg d.name = some (.ref fa) →
      ∃ fd : FuncData, (∀ (s : Shared) (u : Value), BindsTo s fd ⟨[u], []⟩ [(x, u)]) ∧ ∀ base : Heap, (K w.params).In base → base.Ns mainGlobals mg → FnG l.prog w (K w.params) mg base k fa fd [x] (sp w))
    (sat : ∀ (w : World) (H : Hp) (a : Addr) (ns : List Int), ns.length ≤ n → Only H → SqL (K w.params) H a (ns.map V.int) → sp w [.ref a] H (fun v _ => v = .bl true) E0) :
    PySem.W.WalkO q loose XP YP l.row.toRowW d [] (fun f vs => PySem.call f vs) := by
  refine Att.attach_call most nodef fun w s0 s1 mg mb fa o pm cd doc a vs ns G Y ho hd hcd hmg hobj hints hlen hg => ?_
  have KX := kin w _ Y
  obtain ⟨fd, hb, hF⟩ := F w mg fa _ KX G.T.g hmg
  exact law_runs KX G.T.g G.T.b G.T.builtins G.T.nolimit hg hobj hints (Nat.le_trans hlen few) room hF hb fun H hO hS => sat w H a ns hlen hO hS
end Ct

namespace Ct
open PySem PySem.Spec PyProof.Rows L2 TL RZ
section
variable {X : Cx}
theorem pe_go0 {k : Nat} {x : Str} {p pos : Pos} {ps : List Str} {sp : Sp} (G : Keeps X.prog X.w X.K X.mg X.base k x ps sp) (hr : Room k X.A) (hg : Gl X x)
    (hdb : (x == ("__debug__" : Str)) = false := by decide) : PE X (.Call (.Name x p) [] [] pos) (tCall sp [] E0 tNil) := by
  obtain ⟨f, fd, g1, g2, g3, g4, _⟩ := G.ex
  exact pe_call0 g1 hr hg g2 g3 g4 .nil pass0 hdb
end
/-! ### what is left when the pot is taken out -/
theorem beside_hide (p : Addr) (H : Hp) : Beside p (hide p H) H := ⟨hide_at, hide_same⟩
theorem PotAt.same' {p : Addr} {H H' : Hp} {n : Nat} (s : Same H H') (h : PotAt p H n) : PotAt p H' n := by
  obtain ⟨x, y, z, e, r⟩ := h
  exact ⟨x, y, z, s _ _ e, r⟩
section
variable {K : PySem.W.Frag} {H : Hp} {p : Addr} {ys : List V}
theorem FrAt.hide (hp : H p = some (.lst ys)) {v : V} {f : Int × Int} : FrAt K H v f → FrAt K (hide p H) v f := fun ⟨t, e, h⟩ => ⟨t, e, SqT.hide hp h⟩
theorem EntAt.hide (hp : H p = some (.lst ys)) {v : V} {e : Str × Int × Int} : EntAt K H v e → EntAt K (hide p H) v e := fun ⟨t, u, q, h, r⟩ => ⟨t, u, q, SqT.hide hp h, r.hide hp⟩
theorem IntEnt.hide (hp : H p = some (.lst ys)) {v : V} {e : Str × Int} : IntEnt K H v e → IntEnt K (hide p H) v e := fun ⟨t, e, h⟩ => ⟨t, e, SqT.hide hp h⟩
theorem LsX.hide {β : Type} {R : Hp → V → β → Prop} {F : Addr} {a b c : Int} (hp : H p = some (.lst [.int a, .int b, .int c])) (step : ∀ v e, R H v e → R (hide p H) v e) (no : ∀ i e, ¬ R H (.int i) e) {v : V} {es : List β} : LsX F H R v es → LsX F (hide p H) R v es :=
  fun ⟨l, vs, e, n, h, pr⟩ => ⟨l, vs, e, n, (hide_ne fun z => by
    subst z
    rw [hp] at h
    cases h
    cases pr with
    | cons r _ => exact no _ _ r).trans h, pr.mono step⟩
theorem no_int (i : Int) (e : Str × Int) : ¬ IntEnt K H (.int i) e := fun ⟨_, z, _⟩ => nomatch z
theorem no_tie (i : Int) (e : Str × Str × Str) : ¬ TieAt K H (.int i) e := fun ⟨_, z, _⟩ => nomatch z
theorem no_fr (i : Int) (e : Int × Int) : ¬ FrAt K H (.int i) e := fun ⟨_, z, _⟩ => nomatch z
theorem no_ent (i : Int) (e : Str × Int × Int) : ¬ EntAt K H (.int i) e := fun ⟨_, _, z, _⟩ => nomatch z
theorem HandX.hide {F : Addr} {a b c : Int} (hp : H p = some (.lst [.int a, .int b, .int c])) {v : V} {h : Hand} : HandX K F H v h → HandX K F (hide p H) v h := by
  rintro ⟨t, s, q, ti, st, du, to, e, ht, h1, h2, h3, h4, h5, h6⟩
  refine ⟨t, s, q, ti, st, du, to, e, SqT.hide hp ht, h1.hide hp (fun _ _ h => h.hide hp) no_int, h2.hide hp (fun _ _ h => h.hide hp) no_int, h3.hide hp (fun _ _ h => h.hide hp) no_tie, h4.hide hp (fun _ _ h => h.hide hp) no_fr, h5.hide hp (fun _ _ h => h.hide hp) no_fr, ?_⟩
  cases ho : h.told with
  | none =>
    rw [ho] at h6
    exact h6
  | some l =>
    rw [ho] at h6
    exact LsX.hide (R := fun H v e => EntAt K H v e) hp (fun _ _ h => h.hide hp) no_ent h6
end
def BlV (v : V) (b : Bool) : Prop := v = .bl b
theorem bls_are {acc : List V} {bs : List Bool} (h : Paired BlV acc bs) : acc = bs.map V.bl := by
  induction h with
  | nil => rfl
  | cons r _ ih => rw [show _ = V.bl _ from r, ih]; rfl
theorem all_true {α : Type} (l : List α) : (l.map fun _ => true).all id = true := by
  induction l with
  | nil => rfl
  | cons x r ih => rw [List.map_cons, List.all_cons, ih]; rfl
theorem y_pow {K : PySem.W.Frag} {t : TA} {es : List (Int × Int)} (r : YsL (fun H v e => FrAt K H v e) t es) : YsL (fun H v e => FrAt K H v e) (tCons (tTup (tCons (tOp (rI CPow fun i j => .int (i ^ j.toNat)) (tC (.int 10)) (tC (.int 6))) (tCons (tC (.int 1)) tNil))) t) ((10 ^ 6, 1) :: es) :=
  y_item firm_fr (fun σ H Q k => ⟨10, 6, rfl, rfl, ⟨by decide, by decide, by decide⟩, by show 2 ≤ sizeLine; decide, fun p np => k _ _ (same_upd np) ⟨p, rfl, SqT.of upd_same⟩⟩) r
abbrev s_l_right : Stmt := top 94
abbrev N_l_right : List Str := ["pot", "rows", "row", "sizes_by", "by"]
theorem sc_l_right : FnScope N_l_right ["pot"] (defScope s_l_right) := ⟨rfl, rfl, rfl, by decide +kernel, rfl, by decide +kernel, by decide +kernel⟩
def spRight : Sp := fun vs H Q _ => ∃ (p : Addr) (G : Hp) (n : Nat), vs = [.ref p] ∧ Beside p G H ∧ PotAt p H n ∧ n + 500 ≤ 1000000 ∧ ∀ H', Same G H' → Q (.bl true) H'
section
variable {P : Program} {w : World} {K : PySem.W.Frag} {mg : Str → Option Value} {base : Heap}
theorem k_right (D : Lies K mg "_law_right" s_l_right) (T : Plain mg) (G_l_hand : Keeps P w K mg base 1 "_law_hand" [] (spHand K)) (G_l_is_row_right : KeepsG P w K mg base 10 "_law_is_row_right" ["row", "sizes_by", "by"] (spRow K))
    (G_l_frac_size : Keeps P w K mg base 3 "_law_frac_size" ["pot"] spFracSize) (G_l_of : Keeps P w K mg base 2 "_law_of" ["pot", "some"] (spOf K)) : KeepsG P w K mg base 12 "_law_right" ["pot"] spRight := by
  refine D.keepsG sc_l_right (fun _ _ _ _ _ _ us hl => match us, hl with | [_], _ => rfl) (fun vs H Q E h => ?_) (fun f cdv A outer s0 H vs Q hgd hr h => ?_)
  · obtain ⟨p, G, n, rfl, _⟩ := h
    rfl
  · obtain ⟨p, G, n, rfl, bs, ht, hn, k⟩ := h
    refine ⟨_, (pss_cons (ps_set (i := 1) sc_l_right.nd rfl (Or.inl rfl) (pe_go0 G_l_hand (hr.mono (by decide)) rfl))
      (pss_cons (ps_if (pt_not (pt_val (pe_callB (cr_all rfl) (by rfl) T.n_all b_all (pa_cons (pe_lc (own := [("row", 2)]) (g := gName 2) (tt := tYes) rfl sc_l_right.nd (pi_list (pv 1)) (blkOk_by (N := N_l_right) (sc := defScope s_l_right) (by decide +kernel)) (fun _ _ _ _ _ => pg_name (i := 2) sc_l_right.nd rfl (Or.inl rfl)) (fun _ _ _ _ _ => pts_nil) (fun _ _ _ _ _ => by exact (pe_goG G_l_is_row_right hgd (hr.mono (by decide)) rfl (pa_cons (pv 2) (pa_cons (pe_tup (pa_cons pe_int (pa_cons pe_int pa_nil))) (pa_cons (pe_tup (pa_cons pe_int (pa_cons pe_int pa_nil))) pa_nil)))))) pa_nil))))
        (pss_one (ps_ret pe_bl))
        pss_nil)
      (pss_cons (ps_asg (pe_tup (pa_cons (pe_go G_l_frac_size (hr.mono (by decide)) rfl (pa_cons (pv 0) pa_nil)) (pa_cons (pe_go G_l_of (hr.mono (by decide)) rfl (pa_cons (pv 0) (pa_cons (pe_lst (pa_cons (pe_tup (pa_cons pe_int (pa_cons pe_int pa_nil))) (pa_cons (pe_tup (pa_cons (pe_un un_neg pe_int) (pa_cons pe_int pa_nil))) (pa_cons (pe_tup (pa_cons pe_int (pa_cons pe_int pa_nil))) (pa_cons (pe_tup (pa_cons (pe_un un_neg pe_int) (pa_cons pe_int pa_nil))) (pa_cons (pe_tup (pa_cons (pe_op op_pow pe_int pe_int) (pa_cons pe_int pa_nil))) (pa_cons (pe_tup (pa_cons pe_int (pa_cons pe_int pa_nil))) pa_nil))))))) pa_nil))) pa_nil))) (pg_tup rfl (pgs_cons (pg_name (i := 3) sc_l_right.nd rfl (Or.inr rfl)) (pgs_cons (pg_name (i := 4) sc_l_right.nd rfl (Or.inr rfl)) pgs_nil))))
      (pss_one (ps_ret (pe_callB (cr_all rfl) (by rfl) T.n_all b_all (pa_cons (pe_lc (own := [("row", 2)]) (g := gName 2) (tt := tYes) rfl sc_l_right.nd (pi_list (pv 1)) (blkOk_by (N := N_l_right) (sc := defScope s_l_right) (by decide +kernel)) (fun _ _ _ _ _ => pg_name (i := 2) sc_l_right.nd rfl (Or.inl rfl)) (fun _ _ _ _ _ => pts_nil) (fun _ _ _ _ _ => by exact (pe_goG G_l_is_row_right hgd (hr.mono (by decide)) rfl (pa_cons (pv 2) (pa_cons (pv 3) (pa_cons (pv 4) pa_nil)))))) pa_nil))))))), ?_⟩
    clear D G_l_hand G_l_is_row_right G_l_frac_size G_l_of
    refine ⟨rfl, fun F q xs H1 s1 hq pr => ?_⟩
    have lx : xs.length = 6 := pr.length
    have t1 := ht.same' s1
    have g1 := bs.sub.trans s1
    refine into_name ?_
    dsimp only
    refine st_is (σ' := [some (.ref p), some (.ref q), none, none, none]) rfl ?_
    refine into_if (into_not (into_b (into_cb (into_args1 (comp_pure (f := fun _ : Hand => true) (R := HandX K F H1) (R' := fun _ => BlV) (fun R r => ⟨_, rfl, r⟩) (SqL.of hq) pr (by omega) (fun _ _ _ h => h) (fun _ _ _ _ h => h) (fun v e H2 Z r he s2 hz => ?_) (fun H2 D acc nD s2 hD hp => ?_))))))
    · refine ⟨rfl, _, rfl, into_cons ?_⟩
      refine ⟨by show 2 ≤ sizeLine; decide, fun r1 n1 => ?_⟩
      have sa := same_upd (o := .tup [V.int 1, V.int 1]) n1
      have ha : FrAt K (upd H2 r1 (.tup [V.int 1, V.int 1])) (.ref r1) (1, 1) := ⟨r1, rfl, SqT.of upd_same⟩
      generalize upd H2 r1 (.tup [V.int 1, V.int 1]) = H3 at *
      refine into_cons ⟨by show 2 ≤ sizeLine; decide, fun r2 n2 => ?_⟩
      have sb := same_upd (o := .tup [V.int 1, V.int 1]) n2
      have hb : FrAt K (upd H3 r2 (.tup [V.int 1, V.int 1])) (.ref r2) (1, 1) := ⟨r2, rfl, SqT.of upd_same⟩
      generalize upd H3 r2 (.tup [V.int 1, V.int 1]) = H4 at *
      exact ⟨F, v, .ref r1, .ref r2, e, ratF (1, 1), ratF (1, 1), rfl, r.same (s2.trans (sa.trans sb)), FrAt.rat (by decide) (ha.same sb), FrAt.rat (by decide) hb, ok_one he, fun H' s' => hz _ _ (sa.trans (sb.trans s')) rfl⟩
    · have e1 := bls_are hp
      subst e1
      refine ⟨D, _, rfl, SqL.of hD, ?_⟩
      rw [all_true]
      refine ⟨true, rfl, iteF (into_next ?_)⟩
      dsimp only
      have t2 := t1.same' s2
      have hq2 := s2 _ _ hq
      obtain ⟨pa, pb, pc, e2, _⟩ := id t2
      have qp : q ≠ p := fun z => by
        rw [z, e2] at hq2
        cases hq2
        exact absurd (show 3 = 6 from lx) (by decide)
      have hqG : (hide p H2) q = some (.lst xs) := (hide_ne qp).trans hq2
      have prG : Paired (HandX K F (hide p H2)) xs hands := pr.mono fun _ _ h => (h.same s2).hide e2
      have gG : Same G (hide p H2) := same_hide (g1.trans s2) bs.out
      -- sizes_by, by
      refine into_set (into_tup (into_cons ?_))
      refine ⟨_, rfl, p, hide p H2, n, rfl, beside_hide p H2, t2, by omega, fun sf t G3 H3 hsf s3 b3 t3 hst => ?_⟩
      refine into_cons (into_call (into_cons ⟨_, rfl, into_cons (into_lst ?_)⟩))
      refine (show YsL (fun H v e => FrAt K H v e) _ bysL from y_fr (y_frn (y_fr (y_frn (y_pow (y_fr y_nil)))))) _ _ _ fun vs H4 s4 pv => ?_
      have lv := pv.length
      have lv : vs.length = 6 := lv
      refine ⟨by rw [lv]; show 6 ≤ 16777216; decide, fun l nl => ?_⟩
      have s5 := same_upd (o := .lst vs) nl
      have t4 := t3.same' s4
      have t5 := t4.same' s5
      obtain ⟨qa, qb, qc, e4, _⟩ := id t4
      have lp : l ≠ p := fun z => by
        rw [z, e4] at nl
        cases nl
      have h5 : (upd H4 l (.lst vs)) l = some (.lst vs) := upd_same
      have g35 : Same G3 (upd H4 l (.lst vs)) := b3.sub.trans (s4.trans s5)
      obtain ⟨ra, rb, rc, e5, _⟩ := id t5
      generalize upd H4 l (.lst vs) = H5 at *
      have h5G : (hide p H5) l = some (.lst vs) := (hide_ne lp).trans h5
      have g5 : Same G3 (hide p H5) := same_hide g35 b3.out
      refine ⟨p, l, hide p H5, n + 1, vs, rfl, beside_hide p H5, t5, by omega, SqL.of h5G, by omega, by omega, fun i v G6 H6 hv s6 b6 t6 => ?_⟩
      obtain ⟨bf, hbf, hvb⟩ := Paired.at pv hv
      have hvG : FrAt K (hide p H5) v bf := FrAt.hide e5 (FrAt.same s5 hvb)
      have s56 : Same (hide p H5) H6 := s6.trans b6.sub
      refine ⟨by show 2 ≤ sizeLine; decide, fun q7 nq7 => ?_⟩
      have s7 := same_upd (o := .tup [V.ref t, v]) nq7
      have h7 : SqT K (upd H6 q7 (.tup [V.ref t, v])) q7 [V.ref t, v] := SqT.of upd_same
      generalize upd H6 q7 (.tup [V.ref t, v]) = H7 at *
      refine ⟨q7, _, rfl, h7, rfl, _, _, rfl, _, _, rfl, rfl, ?_⟩
      refine st_is (σ' := [some (.ref p), some (.ref q), none, some (.ref t), some v]) rfl ?_
      have s37 : Same G3 H7 := g5.trans (s56.trans s7)
      have g7 : Same (hide p H2) H7 := s3.trans s37
      have hz7 : FrAt K H7 (.ref t) sf := ⟨t, rfl, SqT.of (s37 _ _ hst)⟩
      have hb7 : FrAt K H7 v bf := hvG.same (s56.trans s7)
      have hsf : sf ∈ sizesL := hsf
      have hbl : bf ∈ bysL := List.mem_of_getElem? hbf
      refine into_ret (into_cb (into_args1 (comp_pure (f := fun _ : Hand => true) (R := HandX K F H7) (R' := fun _ => BlV) (fun R r => ⟨_, rfl, r⟩) (SqL.of (g7 _ _ hqG)) (prG.mono fun _ _ h => h.same g7) (by omega) (fun _ _ _ h => h) (fun _ _ _ _ h => h) (fun v' e H8 Z r he s8 hz => ?_) (fun H8 D acc nD s8 hD hp => ?_))))
      · refine ⟨rfl, _, rfl, _, rfl, _, rfl, F, v', .ref t, v, e, ratF sf, ratF bf, rfl, r.same s8, FrAt.rat (fr_sizes _ hsf) (hz7.same s8), FrAt.rat (fr_bys _ hbl) (hb7.same s8), ok_any he hsf hbl, fun H' s' => hz _ _ s' rfl⟩
      · have e1 := bls_are hp
        subst e1
        refine ⟨D, _, rfl, SqL.of hD, ?_⟩
        rw [all_true]
        exact k _ (gG.trans (g7.trans s8))
end
end Ct

namespace Ct
open PySem PySem.Spec PyProof.Rows L2 TL
abbrev s_law : Stmt := top 95
abbrev N_law : List Str := ["script", "place"]
theorem sc_law : FnScope N_law ["script"] (defScope s_law) := ⟨rfl, rfl, rfl, by decide +kernel, rfl, by decide +kernel, by decide +kernel⟩
def spLaw (K : PySem.W.Frag) : Sp := fun vs H Q _ => ∃ (a : Addr) (ns : List Int), vs = [.ref a] ∧ SqL K H a (ns.map V.int) ∧ ∀ H', Q (.bl true) H'
def NatV (v : V) (k : Nat) : Prop := v = .int (k : Int)
theorem nats_pair : ∀ l : List Nat, Paired NatV (l.map fun (i : Nat) => V.int (i : Int)) l
  | [] => .nil
  | _ :: r => .cons rfl (nats_pair r)
theorem comp_cells {K : PySem.W.Frag} {Pc : List Nat → Prop} {tl : TE} {g : TG} {te : TE} {vs : List Nat} {σ : L2.St} {H : Hp} {Q : VK}
    (hl : ∀ R : VK, (∀ l H1 es, Pc es → Same H H1 → SqL K H1 l (es.map fun (i : Nat) => V.int (i : Int)) → R (.ref l) H1) → tl σ H R) (few : ∀ es, Pc es → es.length < 1000000)
    (turn : ∀ es x e H1 (Z : VK), Pc es → NatV x e → e ∈ es → Same H H1 → (∀ H4, Same H1 H4 → Z (.bl true) H4) → g x (wipe σ vs) H1 fun σ2 H2 => wipe σ2 vs = wipe σ vs ∧ te σ2 H2 Z)
    (hd : ∀ (es : List Nat) H' D, H' D = some (.lst ((es.map fun _ => true).map V.bl)) → Q (.ref D) H') : tLc (iList K tl) g tYes te vs σ H Q := by
  refine hl _ fun l H1 es pc s1 hl1 => ?_
  have go : tLc (iList K fun _ _ R => R (.ref l) H1) g tYes te vs σ H1 Q :=
    comp_pure (f := fun _ : Nat => true) (R := NatV) (R' := fun _ => BlV) (fun R r => r) hl1 (nats_pair es) (by rw [List.length_map]; exact few es pc) (fun _ _ _ h => h) (fun _ _ _ _ h => h)
      (fun x e H2 Z r he s2 hz => turn es x e H2 Z pc r he (s1.trans s2) fun H4 s4 => hz _ _ s4 rfl) fun H' D acc nD s' hD hp => by
        have e1 := bls_are hp
        subst e1
        exact hd es H' D hD
  exact go
section
variable {P : Program} {w : World} {K : PySem.W.Frag} {mg : Str → Option Value} {base : Heap}
theorem k_law {f : Addr} {fd : FuncData} (D : Fun K "law" "law" s_law f fd) (T : Plain mg) (G_l_cells : Keeps P w K mg base 1 "_law_cells" ["script", "most"] (spCells K)) (G_l_pot : Keeps P w K mg base 1 "_law_pot" ["script", "place"] (spPot K))
    (G_l_right : KeepsG P w K mg base 12 "_law_right" ["pot"] spRight) : FnG P w K mg base 13 f fd ["script"] (spLaw K) := by
  refine fnG_of D sc_law (fun vs H Q E h => ?_) (fun cdv A outer s0 H vs Q hgd hr h => ?_)
  · obtain ⟨a, ns, rfl, _⟩ := h
    rfl
  · obtain ⟨a, ns, rfl, hs, k⟩ := h
    refine ⟨_, (pss_one (ps_ret (pe_callB (cr_all rfl) (by rfl) T.n_all b_all (pa_cons (pe_lc (own := [("place", 1)]) (g := gName 1) (tt := tYes) rfl sc_law.nd (pi_list (pe_go G_l_cells (hr.mono (by decide)) rfl (pa_cons (pv 0) (pa_cons pe_int pa_nil)))) (blkOk_by (N := N_law) (sc := defScope s_law) (by decide +kernel)) (fun _ _ _ _ _ => pg_name (i := 1) sc_law.nd rfl (Or.inl rfl)) (fun _ _ _ _ _ => pts_nil) (fun _ _ _ _ _ => by exact (pe_goG G_l_right hgd (hr.mono (by decide)) rfl (pa_cons (pe_go G_l_pot (hr.mono (by decide)) rfl (pa_cons (pv 0) (pa_cons (pv 1) pa_nil))) pa_nil)))) pa_nil)))), ?_⟩
    refine into_ret (into_cb (into_args1 ?_))
    refine comp_cells (Pc := fun es => ∃ c, 1 ≤ c ∧ c ≤ 3 ∧ es = List.range c) (fun R r => ⟨_, rfl, a, _, 1, rfl, hs, by decide, by decide, fun c q c1 c3 nq => r q _ _ ⟨c, c1, c3, rfl⟩ (same_upd nq) (SqL.of upd_same)⟩) (fun es h => ?_) (fun es x e H2 Z h r he s2 hz => ?_) (fun es H2 D hD => ?_)
    · obtain ⟨c, c1, c3, rfl⟩ := h
      rw [List.length_range]
      omega
    · obtain ⟨c, c1, c3, rfl⟩ := h
      obtain rfl : x = .int (e : Int) := r
      have := List.mem_range.mp he
      refine ⟨rfl, ?_⟩
      refine ⟨_, rfl, _, rfl, a, ns, e, rfl, Same.seq s2 hs, by omega, fun p H3 np b3 t3 => ?_⟩
      exact ⟨p, H2, 0, rfl, b3, t3, by decide, fun H4 s4 => hz _ s4⟩
    · refine ⟨D, _, rfl, SqL.of hD, ?_⟩
      rw [all_true]
      exact k _
end
end Ct

namespace Ct
open PySem PySem.Spec PyProof.Rows L2 TL
/-! ### what the top has written -/
theorem lies_of {K : PySem.W.Frag} {h : Heap} {mg : Str → Option Value} {x : Str} {st : Stmt} {f : Addr} {oc : Value} {od an : Option Addr} {osl : Array (Option Value)} {kV doc pm cdv ct : Value} (X : K.In h) (G : h.Ns mainGlobals mg) (a : PySem.W.nsIn K mainGlobals x = some (some (.ref f)))
    (l : K.lookup f = some ⟨oc, od, .func (PySem.W.fnOf x x (defArgs st) (defBody st) (defScope st) .none kV doc pm an cdv ct), osl⟩) (c : PySem.W.codeIn K cdv x = true) (k : PySem.W.keepIn K (.ref f) = true) : Lies K mg x st := ⟨f, _, fun_mk l c k, PySem.W.mg_of X G a⟩
/-- one def's promise, from the next ones': all of them together -/
theorem all_kept {P : Program} {w : World} {K : PySem.W.Frag} {mg : Str → Option Value} {base : Heap} {C fI fL z : Addr} {fdI fdL : FuncData} (T : Plain mg) (T2 : Plain2 mg) (Z : ClassT K mg C) (mgC : mg "Circuit" = some (.ref C)) (O : ZeroT K mg z) (MC : Mk K C fI)
    (FI : Fun K "__init__" "Circuit.__init__" s_Circuit_init fI fdI) (bI : Binds K fdI ["self", "text"] []) (FL : Fun K "law" "law" s_law fL fdL)
    (D_law_cells : Lies K mg "_law_cells" s_l_cells) (D_law_pot : Lies K mg "_law_pot" s_l_pot) (D_law_right : Lies K mg "_law_right" s_l_right) (D_law_hand : Lies K mg "_law_hand" s_l_hand) (D_law_is_row_right : Lies K mg "_law_is_row_right" s_l_is_row_right) (D_flow : Lies K mg "flow" s_flow) (D_read_lines : Lies K mg "_read_lines" s_read_lines) (D_takes_line : Lies K mg "_takes_line" s_takes_line) (D_takes_source : Lies K mg "_takes_source" s_takes_source) (D_read_fraction : Lies K mg "read_fraction" s_read_fraction) (D_read_integer : Lies K mg "_read_integer" s_read_integer) (D_is_integer_text : Lies K mg "_is_integer_text" s_is_integer_text) (D_is_fraction : Lies K mg "is_fraction" s_is_fraction) (D_is_integer : Lies K mg "is_integer" s_is_integer) (D_is_another : Lies K mg "_is_another" s_is_another) (D_is_name : Lies K mg "is_name" s_is_name) (D_names_of : Lies K mg "names_of" s_names_of) (D_takes_part : Lies K mg "_takes_part" s_takes_part) (D_is_above_nought : Lies K mg "is_above_nought" s_is_above_nought) (D_takes_joining : Lies K mg "_takes_joining" s_takes_joining) (D_takes_tie : Lies K mg "_takes_tie" s_takes_tie) (D_is_junction : Lies K mg "_is_junction" s_is_junction) (D_law_text : Lies K mg "_law_text" s_l_text) (D_law_frac_times : Lies K mg "_law_frac_times" s_l_frac_times) (D_law_frac : Lies K mg "_law_frac" s_l_frac) (D_law_frac_common : Lies K mg "_law_frac_common" s_l_frac_common) (D_law_circuit_text : Lies K mg "_law_circuit_text" s_l_circuit_text) (D_law_frac_text : Lies K mg "_law_frac_text" s_l_frac_text) (D_law_frac_less : Lies K mg "_law_frac_less" s_l_frac_less) (D_law_frac_sum : Lies K mg "_law_frac_sum" s_l_frac_sum) (D_law_frac_plus : Lies K mg "_law_frac_plus" s_l_frac_plus) (D_joined : Lies K mg "joined" s_joined) (D_check_joining : Lies K mg "check_joining" s_check_joining) (D_check_standing : Lies K mg "check_standing" s_check_standing) (D_is_row : Lies K mg "is_row" s_is_row) (D_ties_of : Lies K mg "ties_of" s_ties_of) (D_settled_potentials : Lies K mg "settled_potentials" s_settled_potentials) (D_free_junctions : Lies K mg "free_junctions" s_free_junctions) (D_given_potentials : Lies K mg "given_potentials" s_given_potentials) (D_charge_equations : Lies K mg "_charge_equations" s_charge_equations) (D_given_voltages : Lies K mg "_given_voltages" s_given_voltages) (D_tied_voltages : Lies K mg "tied_voltages" s_tied_voltages) (D_minus : Lies K mg "minus" s_minus) (D_ratio : Lies K mg "ratio" s_ratio) (D_times : Lies K mg "times" s_times) (D_total : Lies K mg "total" s_total) (D_plus : Lies K mg "plus" s_plus) (D_weight : Lies K mg "_weight" s_weight) (D_side : Lies K mg "_side" s_side) (D_solution : Lies K mg "solution" s_solution) (D_plain_rows : Lies K mg "plain_rows" s_plain_rows) (D_cleared : Lies K mg "cleared" s_cleared) (D_least : Lies K mg "_least" s_least) (D_without : Lies K mg "without" s_without) (D_led_by_one : Lies K mg "_led_by_one" s_led_by_one) (D_first_place : Lies K mg "first_place" s_first_place) (D_standing_at : Lies K mg "standing_at" s_standing_at) (D_does_fit : Lies K mg "does_fit" s_does_fit) (D_difference : Lies K mg "difference" s_difference) (D_charges : Lies K mg "charges" s_charges) (D_lost : Lies K mg "lost" s_lost) (D_square : Lies K mg "square" s_square) (D_check_row : Lies K mg "check_row" s_check_row) (D_inner : Lies K mg "inner" s_inner) (D_potentials : Lies K mg "potentials" s_potentials) (D_law_frac_size : Lies K mg "_law_frac_size" s_l_frac_size) (D_law_of : Lies K mg "_law_of" s_l_of) (D_law_take : Lies K mg "_law_take" s_l_take) : FnG P w K mg base 13 fL fdL ["script"] (spLaw K) := by
  have H_cells : Keeps P w K mg base 1 "_law_cells" ["script", "most"] (spCells K) := k_cells D_law_cells T
  have H_pot : Keeps P w K mg base 1 "_law_pot" ["script", "place"] (spPot K) := k_pot D_law_pot T
  have H_law_hand : Keeps P w K mg base 1 "_law_hand" [] (spHand K) := k_law_hand D_law_hand T
  have H_read_integer : Keeps P w K mg base 1 "_read_integer" ["word"] spReadI := k_read_integer D_read_integer T
  have H_is_integer_text : Keeps P w K mg base 1 "_is_integer_text" ["word"] spIsNum := k_is_integer_text D_is_integer_text T
  have H_is_integer : Keeps P w K mg base 1 "is_integer" ["value"] spIsInt := k_is_integer D_is_integer T
  have H_is_fraction : Keeps P w K mg base 2 "is_fraction" ["value"] (spIsFr K) := k_is_fraction D_is_fraction T H_is_integer
  have H_read_fraction : Keeps P w K mg base 3 "read_fraction" ["word"] (spRead K) := k_read_fraction D_read_fraction T H_read_integer H_is_integer_text H_is_fraction
  have H_is_name : Keeps P w K mg base 1 "is_name" ["value"] spIsName := k_is_name D_is_name T
  have H_names_of : Keeps P w K mg base 1 "names_of" ["told"] (spNames K) := k_names_of D_names_of T
  have H_is_another : Keeps P w K mg base 2 "_is_another" ["name", "told", "most"] (spAnother K) := k_is_another D_is_another T H_is_name H_names_of
  have H_takes_source : Keeps P w K mg base 4 "_takes_source" ["words", "sources", "parts"] (spTSrc K) := k_takes_source D_takes_source T H_read_fraction H_is_another
  have H_is_above_nought : Keeps P w K mg base 3 "is_above_nought" ["value"] (spIsSize K) := k_is_above_nought D_is_above_nought T H_is_fraction
  have H_takes_part : Keeps P w K mg base 4 "_takes_part" ["words", "parts", "joinings"] (spTPrt K) := k_takes_part D_takes_part T H_read_fraction H_is_another H_is_above_nought
  have H_takes_joining : Keeps P w K mg base 3 "_takes_joining" ["words", "parts", "joinings"] (spTJoi K) := k_takes_joining D_takes_joining T H_is_another
  have H_is_junction : Keeps P w K mg base 2 "_is_junction" ["word"] spJunc := k_is_junction D_is_junction T H_is_name
  have H_takes_tie : Keeps P w K mg base 3 "_takes_tie" ["words", "parts", "joinings"] (spTTie K) := k_takes_tie D_takes_tie T H_names_of H_is_junction
  have H_takes_line : Keeps P w K mg base 5 "_takes_line" ["words", "sources", "parts", "joinings"] (spTLine K) := k_takes_line D_takes_line T H_takes_source H_takes_part H_takes_joining H_takes_tie
  have H_read_lines : Keeps P w K mg base 6 "_read_lines" ["lines"] (spReadLines K) := k_read_lines D_read_lines T H_takes_line
  have H_initN : FnOk P w K mg base CX0 7 fI fdI ["self", "text"] (spInitN K C) := k_initN FI Z T H_read_lines
  have H_CircuitspInitN : Makes P w K mg base 7 "Circuit" C ["self", "text"] (spInitN K C) := ⟨fI, fdI, MC, H_initN, mgC, bI⟩
  have H_common : Keeps P w K mg base 1 "_law_frac_common" ["one", "other"] spCommon := k_common D_law_frac_common T
  have H_lfrac : Keeps P w K mg base 2 "_law_frac" ["top", "bottom"] (spLRat K) := k_lfrac D_law_frac T H_common
  have H_ltimes : Keeps P w K mg base 3 "_law_frac_times" ["one", "other"] (spRat2 K fun r s => r * s) := k_ltimes D_law_frac_times T H_lfrac
  have H_frac_text : Keeps P w K mg base 1 "_law_frac_text" ["one"] (spFracText K) := k_frac_text D_law_frac_text T
  have H_circuit_textD : Keeps P w K mg base 2 "_law_circuit_text" ["own"] (spTextD K) := k_circuit_textD D_law_circuit_text T H_frac_text
  have H_law_text : Keeps P w K mg base 4 "_law_text" ["sources", "parts", "ties", "sizes_by", "by"] (spLText K) := k_law_text D_law_text T H_ltimes H_circuit_textD
  have H_lless : Keeps P w K mg base 3 "_law_frac_less" ["one", "other"] (spRat2 K fun r s => r - s) := k_lless D_law_frac_less T H_lfrac
  have H_lplus : Keeps P w K mg base 3 "_law_frac_plus" ["one", "other"] (spRat2 K fun r s => r + s) := k_lplus D_law_frac_plus T H_lfrac
  have H_lsum : Keeps P w K mg base 4 "_law_frac_sum" ["some"] (spTotal K) := k_lsum D_law_frac_sum T H_lplus
  have H_names_ofT : Keeps P w K mg base 1 "names_of" ["told"] (spNamesT K) := k_names_ofT D_names_of T
  have H_check_joining : Keeps P w K mg base 2 "check_joining" ["circuit", "value"] (spCheckJoi K C) := k_check_joining D_check_joining T Z H_names_ofT
  have H_is_row : Keeps P w K mg base 3 "is_row" ["circuit", "value"] (spIsRow K C) := k_is_row D_is_row T Z H_is_fraction
  have H_check_standing : Keeps P w K mg base 4 "check_standing" ["circuit", "value"] (spCheckRow K C) := k_check_standing D_check_standing T H_is_row
  have H_ties_of : Keeps P w K mg base 1 "ties_of" ["circuit", "joining"] (spTiesOf K C) := k_ties_of D_ties_of T Z
  have H_given_potentials : Keeps P w K mg base 1 "given_potentials" ["circuit"] (spGiven K C) := k_given_potentials D_given_potentials T Z O
  have H_free_junctions : Keeps P w K mg base 2 "free_junctions" ["circuit", "ties"] (spFree K C) := k_free_junctions D_free_junctions T T2 H_given_potentials
  have H_ratio : Keeps P w K mg base 1 "ratio" ["top", "bottom"] (spRatio K) := k_ratio D_ratio T
  have H_minus : Keeps P w K mg base 2 "minus" ["one", "other"] (spRat2 K fun r s => r - s) := k_minus D_minus T H_ratio
  have H_tied_voltages : Keeps P w K mg base 3 "tied_voltages" ["ties", "potential"] (spTied K) := k_tied_voltages D_tied_voltages T H_minus
  have H_given_voltages : Keeps P w K mg base 4 "_given_voltages" ["circuit", "ties", "free"] (spGivenV K C) := k_given_voltages D_given_voltages T O H_given_potentials H_tied_voltages
  have H_times : Keeps P w K mg base 2 "times" ["one", "other"] (spRat2 K fun r s => r * s) := k_times D_times T H_ratio
  have H_plus : Keeps P w K mg base 2 "plus" ["one", "other"] (spRat2 K fun r s => r + s) := k_plus D_plus T H_ratio
  have H_total : Keeps P w K mg base 3 "total" ["numbers"] (spTotal K) := k_total D_total T O H_plus
  have H_side : Keeps P w K mg base 1 "_side" ["tie", "junction"] (spSide K) := k_side D_side T
  have H_weight : Keeps P w K mg base 3 "_weight" ["tie", "junction", "other", "size"] (spWeight K) := k_weight D_weight T H_side H_times
  have H_charge_equations : Keeps P w K mg base 5 "_charge_equations" ["circuit", "ties", "standing", "free", "taken"] (spEqs K C) := k_charge_equations D_charge_equations T T2 Z O H_given_voltages H_times H_minus H_total H_weight H_side
  have H_least : Keeps P w K mg base 1 "_least" ["row"] (spLeast K) := k_least D_least T
  have H_cleared : Keeps P w K mg base 2 "cleared" ["row"] (spCleared K) := k_cleared D_cleared T T2 H_least
  have H_without : Keeps P w K mg base 2 "without" ["row", "pivot", "column"] (spWithout K) := k_without D_without T T2 H_least
  have H_led_by_one : Keeps P w K mg base 2 "_led_by_one" ["row"] (spLed K) := k_led_by_one D_led_by_one T H_ratio
  have H_plain_rows : Keeps P w K mg base 3 "plain_rows" ["rows"] (spPlain K) := k_plain_rows D_plain_rows T H_cleared H_without H_led_by_one
  have H_first_place : Keeps P w K mg base 1 "first_place" ["row"] (spFirst K) := k_first_place D_first_place T O
  have H_solution : Keeps P w K mg base 4 "solution" ["equations", "many"] (spSolution K) := k_solution D_solution T O H_plain_rows H_first_place
  have H_settled_potentials : Keeps P w K mg base 6 "settled_potentials" ["circuit", "ties", "standing", "taken"] (spSettled K C) := k_settled_potentials D_settled_potentials T T2 H_free_junctions H_given_potentials H_charge_equations H_solution
  have H_standing_at : Keeps P w K mg base 4 "standing_at" ["circuit", "ties", "potential", "standing"] (spStand K C) := k_standing_at D_standing_at T T2 Z H_tied_voltages
  have H_joined : Keeps P w K mg base 7 "joined" ["circuit", "joining", "standing"] (spJoined K C) := k_joined D_joined T H_check_joining H_check_standing H_ties_of H_settled_potentials H_standing_at
  have H_does_fit : Keeps P w K mg base 8 "does_fit" ["circuit", "joining", "standing"] (spFit K C) := k_does_fit D_does_fit T H_joined
  have H_difference : Keeps P w K mg base 3 "difference" ["row", "other"] (spDiff K) := k_difference D_difference T T2 H_minus
  have H_charges : Keeps P w K mg base 3 "charges" ["circuit", "row"] (spCharges K C) := k_charges D_charges T T2 Z H_times
  have H_flow : Keeps P w K mg base 8 "flow" ["circuit", "joining", "standing"] (spFlow K C) := k_flow D_flow T H_joined H_difference H_charges
  have H_check_row : Keeps P w K mg base 4 "check_row" ["circuit", "value"] (spCheckRow K C) := k_check_row D_check_row T H_is_row
  have H_inner : Keeps P w K mg base 4 "inner" ["row", "other"] (spInner K) := k_inner D_inner T T2 H_times H_total
  have H_square : Keeps P w K mg base 5 "square" ["circuit", "row"] (spSquare K C) := k_square D_square T H_check_row H_charges H_inner
  have H_lost : Keeps P w K mg base 8 "lost" ["circuit", "joining", "standing"] (spLost K C) := k_lost D_lost T H_joined H_difference H_square
  have H_potentials : Keeps P w K mg base 7 "potentials" ["circuit", "joining", "standing"] (spPots K C) := k_potentials D_potentials T H_check_joining H_check_standing H_ties_of H_settled_potentials H_standing_at H_free_junctions
  have H_row : KeepsG P w K mg base 10 "_law_is_row_right" ["row", "sizes_by", "by"] (spRow K) := k_row D_law_is_row_right D_flow T T2 H_CircuitspInitN H_law_text H_ltimes H_lless H_lsum H_joined H_does_fit H_flow H_lost H_potentials
  have H_take : Keeps P w K mg base 1 "_law_take" ["pot", "upto"] spTake := k_take D_law_take T
  have H_of : Keeps P w K mg base 2 "_law_of" ["pot", "some"] (spOf K) := k_of D_law_of T H_take
  have H_frac_size : Keeps P w K mg base 3 "_law_frac_size" ["pot"] spFracSize := k_frac_size D_law_frac_size T H_of
  have H_right : KeepsG P w K mg base 12 "_law_right" ["pot"] spRight := k_right D_law_right T H_law_hand H_row H_frac_size H_of
  exact k_law FL T H_cells H_pot H_right
end Ct

namespace Ct
open PySem PySem.Spec PyProof.Rows L2 TL
theorem all_mk {l : PySem.W.OpenLaw} {w : World} {K : PySem.W.Frag} {h : Heap} {mg : Str → Option Value} {fa C fI : Addr} (X : K.In h) (G : h.Ns mainGlobals mg) (hfa : mg "law" = some (.ref fa))
    {od1 an1 : Option Addr} {sl1 : Array (Option Value)} {oc1 kV1 dc1 pm1 cd1 ct1 : Value} {z : Addr} {zd : Option Addr} {zs : Array (Option Value)} {zn : Nat} {zt zu : Tok} {t_DIGITS t_PIECE t_SHIFT t_GROUND t_LETTERS t_LONGEST_NAME t_MOST_SOURCES t_MOST_PARTS t_MOST_JOININGS : Tok}
    (D_law_cells : Lies K mg "_law_cells" s_l_cells) (D_law_pot : Lies K mg "_law_pot" s_l_pot) (D_law_right : Lies K mg "_law_right" s_l_right) (D_law_hand : Lies K mg "_law_hand" s_l_hand) (D_law_is_row_right : Lies K mg "_law_is_row_right" s_l_is_row_right) (D_flow : Lies K mg "flow" s_flow) (D_read_lines : Lies K mg "_read_lines" s_read_lines) (D_takes_line : Lies K mg "_takes_line" s_takes_line) (D_takes_source : Lies K mg "_takes_source" s_takes_source) (D_read_fraction : Lies K mg "read_fraction" s_read_fraction) (D_read_integer : Lies K mg "_read_integer" s_read_integer) (D_is_integer_text : Lies K mg "_is_integer_text" s_is_integer_text) (D_is_fraction : Lies K mg "is_fraction" s_is_fraction) (D_is_integer : Lies K mg "is_integer" s_is_integer) (D_is_another : Lies K mg "_is_another" s_is_another) (D_is_name : Lies K mg "is_name" s_is_name) (D_names_of : Lies K mg "names_of" s_names_of) (D_takes_part : Lies K mg "_takes_part" s_takes_part) (D_is_above_nought : Lies K mg "is_above_nought" s_is_above_nought) (D_takes_joining : Lies K mg "_takes_joining" s_takes_joining) (D_takes_tie : Lies K mg "_takes_tie" s_takes_tie) (D_is_junction : Lies K mg "_is_junction" s_is_junction) (D_law_text : Lies K mg "_law_text" s_l_text) (D_law_frac_times : Lies K mg "_law_frac_times" s_l_frac_times) (D_law_frac : Lies K mg "_law_frac" s_l_frac) (D_law_frac_common : Lies K mg "_law_frac_common" s_l_frac_common) (D_law_circuit_text : Lies K mg "_law_circuit_text" s_l_circuit_text) (D_law_frac_text : Lies K mg "_law_frac_text" s_l_frac_text) (D_law_frac_less : Lies K mg "_law_frac_less" s_l_frac_less) (D_law_frac_sum : Lies K mg "_law_frac_sum" s_l_frac_sum) (D_law_frac_plus : Lies K mg "_law_frac_plus" s_l_frac_plus) (D_joined : Lies K mg "joined" s_joined) (D_check_joining : Lies K mg "check_joining" s_check_joining) (D_check_standing : Lies K mg "check_standing" s_check_standing) (D_is_row : Lies K mg "is_row" s_is_row) (D_ties_of : Lies K mg "ties_of" s_ties_of) (D_settled_potentials : Lies K mg "settled_potentials" s_settled_potentials) (D_free_junctions : Lies K mg "free_junctions" s_free_junctions) (D_given_potentials : Lies K mg "given_potentials" s_given_potentials) (D_charge_equations : Lies K mg "_charge_equations" s_charge_equations) (D_given_voltages : Lies K mg "_given_voltages" s_given_voltages) (D_tied_voltages : Lies K mg "tied_voltages" s_tied_voltages) (D_minus : Lies K mg "minus" s_minus) (D_ratio : Lies K mg "ratio" s_ratio) (D_times : Lies K mg "times" s_times) (D_total : Lies K mg "total" s_total) (D_plus : Lies K mg "plus" s_plus) (D_weight : Lies K mg "_weight" s_weight) (D_side : Lies K mg "_side" s_side) (D_solution : Lies K mg "solution" s_solution) (D_plain_rows : Lies K mg "plain_rows" s_plain_rows) (D_cleared : Lies K mg "cleared" s_cleared) (D_least : Lies K mg "_least" s_least) (D_without : Lies K mg "without" s_without) (D_led_by_one : Lies K mg "_led_by_one" s_led_by_one) (D_first_place : Lies K mg "first_place" s_first_place) (D_standing_at : Lies K mg "standing_at" s_standing_at) (D_does_fit : Lies K mg "does_fit" s_does_fit) (D_difference : Lies K mg "difference" s_difference) (D_charges : Lies K mg "charges" s_charges) (D_lost : Lies K mg "lost" s_lost) (D_square : Lies K mg "square" s_square) (D_check_row : Lies K mg "check_row" s_check_row) (D_inner : Lies K mg "inner" s_inner) (D_potentials : Lies K mg "potentials" s_potentials) (D_law_frac_size : Lies K mg "_law_frac_size" s_l_frac_size) (D_law_of : Lies K mg "_law_of" s_l_of) (D_law_take : Lies K mg "_law_take" s_l_take) (D_law : Lies K mg "law" s_law)
    (aC : PySem.W.nsIn K mainGlobals "Circuit" = some (some (.ref C)))
    (i1 : PySem.W.findIn K (.ref C) "__init__" = some (some (.ref fI)))
    (i2 : PySem.W.isFn K (.ref fI) = true)
    (i3 : K.lookup fI = some ⟨oc1, od1, .func (PySem.W.fnOf "__init__" "Circuit.__init__" (defArgs s_Circuit_init) (defBody s_Circuit_init) (defScope s_Circuit_init) .none kV1 dc1 pm1 an1 cd1 ct1), sl1⟩)
    (i4 : PySem.W.codeIn K cd1 "Circuit.__init__" = true)
    (i5 : PySem.W.keepIn K (.ref fI) = true)
    (pg : PySem.W.plainGet K C Str.empty = true)
    (hd : PySem.W.hasDictIn K C = true)
    (po : PySem.W.plainOver K C = true)
    (sa : PySem.W.findIn K (.ref C) "__setattr__" = some (some (.builtin "object.__setattr__")))
    (mk : PySem.W.makesIn K C = true)
    (kc : PySem.W.keepIn K (.ref C) = true)
    (nT : PySem.W.findIn K (.ref C) "text" = some none)
    (nS : PySem.W.findIn K (.ref C) "sources" = some none)
    (nP : PySem.W.findIn K (.ref C) "parts" = some none)
    (nJ : PySem.W.findIn K (.ref C) "joinings" = some none)
    (gcd : PySem.W.nsIn K mainGlobals "gcd" = some (some (.builtin "math.gcd")))
    (zA : PySem.W.nsIn K mainGlobals "ZERO" = some (some (.ref z)))
    (zL : K.lookup z = some ⟨.type "tuple", zd, .seq #[.int 0 zt, .int 1 zu] zn, zs⟩)
    (lcm : PySem.W.nsIn K mainGlobals "lcm" = some (some (.builtin "math.lcm")))
    (m_zip : PySem.W.nsIn K mainGlobals "zip" = some none)
    (m_sorted : PySem.W.nsIn K mainGlobals "sorted" = some none)
    (n_len : PySem.W.nsIn K mainGlobals "len" = some none)
    (n_abs : PySem.W.nsIn K mainGlobals "abs" = some none)
    (n_sum : PySem.W.nsIn K mainGlobals "sum" = some none)
    (n_all : PySem.W.nsIn K mainGlobals "all" = some none)
    (n_min : PySem.W.nsIn K mainGlobals "min" = some none)
    (n_max : PySem.W.nsIn K mainGlobals "max" = some none)
    (n_repr : PySem.W.nsIn K mainGlobals "repr" = some none)
    (n_isinstance : PySem.W.nsIn K mainGlobals "isinstance" = some none)
    (n_int : PySem.W.nsIn K mainGlobals "int" = some none)
    (n_str : PySem.W.nsIn K mainGlobals "str" = some none)
    (n_bool : PySem.W.nsIn K mainGlobals "bool" = some none)
    (n_list : PySem.W.nsIn K mainGlobals "list" = some none)
    (n_tuple : PySem.W.nsIn K mainGlobals "tuple" = some none)
    (n_dict : PySem.W.nsIn K mainGlobals "dict" = some none)
    (n_range : PySem.W.nsIn K mainGlobals "range" = some none)
    (n_enumerate : PySem.W.nsIn K mainGlobals "enumerate" = some none)
    (c_DIGITS : PySem.W.nsIn K mainGlobals "DIGITS" = some (some (.str "0123456789" t_DIGITS)))
    (c_PIECE : PySem.W.nsIn K mainGlobals "PIECE" = some (some (.int 18 t_PIECE)))
    (c_SHIFT : PySem.W.nsIn K mainGlobals "SHIFT" = some (some (.int 1000000000000000000 t_SHIFT)))
    (c_GROUND : PySem.W.nsIn K mainGlobals "GROUND" = some (some (.str "gnd" t_GROUND)))
    (c_LETTERS : PySem.W.nsIn K mainGlobals "LETTERS" = some (some (.str "abcdefghijklmnopqrstuvwxyz" t_LETTERS)))
    (c_LONGEST_NAME : PySem.W.nsIn K mainGlobals "LONGEST_NAME" = some (some (.int 6 t_LONGEST_NAME)))
    (c_MOST_SOURCES : PySem.W.nsIn K mainGlobals "MOST_SOURCES" = some (some (.int 4 t_MOST_SOURCES)))
    (c_MOST_PARTS : PySem.W.nsIn K mainGlobals "MOST_PARTS" = some (some (.int 8 t_MOST_PARTS)))
    (c_MOST_JOININGS : PySem.W.nsIn K mainGlobals "MOST_JOININGS" = some (some (.int 6 t_MOST_JOININGS))) :
    ∃ fd : FuncData, (∀ (s : Shared) (v : Value), BindsTo s fd ⟨[v], []⟩ [("script", v)]) ∧ ∀ base : Heap, K.In base → base.Ns mainGlobals mg → FnG l.prog w K mg base 13 fa fd ["script"] (spLaw K) := by
  obtain ⟨f0, fdL, FL, e0⟩ := D_law.ex
  have e := hfa.symm.trans e0
  cases e
  have T : Plain mg := ⟨PySem.W.mg_none_of X G n_len, PySem.W.mg_none_of X G n_abs, PySem.W.mg_none_of X G n_sum, PySem.W.mg_none_of X G n_all, PySem.W.mg_none_of X G n_min, PySem.W.mg_none_of X G n_max, PySem.W.mg_none_of X G n_repr, PySem.W.mg_none_of X G n_isinstance, PySem.W.mg_none_of X G n_int, PySem.W.mg_none_of X G n_str, PySem.W.mg_none_of X G n_bool, PySem.W.mg_none_of X G n_list, PySem.W.mg_none_of X G n_tuple, PySem.W.mg_none_of X G n_dict, PySem.W.mg_none_of X G n_range, PySem.W.mg_none_of X G n_enumerate, PySem.W.mg_of X G gcd, ⟨_, PySem.W.mg_of X G c_DIGITS⟩, ⟨_, PySem.W.mg_of X G c_PIECE⟩, ⟨_, PySem.W.mg_of X G c_SHIFT⟩, ⟨_, PySem.W.mg_of X G c_GROUND⟩, ⟨_, PySem.W.mg_of X G c_LETTERS⟩, ⟨_, PySem.W.mg_of X G c_LONGEST_NAME⟩, ⟨_, PySem.W.mg_of X G c_MOST_SOURCES⟩, ⟨_, PySem.W.mg_of X G c_MOST_PARTS⟩, ⟨_, PySem.W.mg_of X G c_MOST_JOININGS⟩⟩
  have O : ZeroT K mg z := ⟨PySem.W.mg_of X G zA, fun H => .inr ⟨_, _, _, zL, rfl, rfl, by show 2 ≤ 16777216; decide, .cons ⟨_, rfl⟩ (.cons ⟨_, rfl⟩ .nil)⟩⟩
  have T2 : Plain2 mg := ⟨PySem.W.mg_none_of X G m_zip, PySem.W.mg_of X G lcm, PySem.W.mg_none_of X G m_sorted⟩
  have Z : ClassT K mg C := ⟨⟨pg, hd, po, sa⟩, nT, nS, nP, nJ⟩
  have FI := fun_mk (st := s_Circuit_init) i3 i4 i5
  have bI := FI.binds (ps := ["self", "text"]) fun _ _ _ _ _ _ us hl => match us, hl with | [_, _], _ => rfl
  refine ⟨fdL, fun s v => ?_, fun base _ _ => all_kept T T2 Z (PySem.W.mg_of X G aC) O ⟨mk, i1, i2, kc⟩ FI bI FL D_law_cells D_law_pot D_law_right D_law_hand D_law_is_row_right D_flow D_read_lines D_takes_line D_takes_source D_read_fraction D_read_integer D_is_integer_text D_is_fraction D_is_integer D_is_another D_is_name D_names_of D_takes_part D_is_above_nought D_takes_joining D_takes_tie D_is_junction D_law_text D_law_frac_times D_law_frac D_law_frac_common D_law_circuit_text D_law_frac_text D_law_frac_less D_law_frac_sum D_law_frac_plus D_joined D_check_joining D_check_standing D_is_row D_ties_of D_settled_potentials D_free_junctions D_given_potentials D_charge_equations D_given_voltages D_tied_voltages D_minus D_ratio D_times D_total D_plus D_weight D_side D_solution D_plain_rows D_cleared D_least D_without D_led_by_one D_first_place D_standing_at D_does_fit D_difference D_charges D_lost D_square D_check_row D_inner D_potentials D_law_frac_size D_law_of D_law_take⟩
  obtain ⟨oc, od, kV, doc, pm, an, cdv, ct, osl, efd, _, _⟩ := FL.ex
  subst efd
  exact .of_eq rfl
theorem walk {l : PySem.W.OpenLaw} {q : Program} {loose : List Str} {XP : (Str → Option Value) → Heap → Prop} {YP : World → Heap → Prop} {d : DefRec} {K : Params → PySem.W.Frag} (hn : l.most = some 63) (hdf : d.params.defaults = [])
    (hY : ∀ (w : World) (h : Heap), YP w h → (K w.params).In h)
    (F : ∀ (w : World) (mg : Str → Option Value) (fa : Addr) (h : Heap), (K w.params).In h → h.Ns mainGlobals mg → mg d.name = some (.ref fa) →
      ∃ fd : FuncData, (∀ (s : Shared) (u : Value), BindsTo s fd ⟨[u], []⟩ [("script", u)]) ∧ ∀ base : Heap, (K w.params).In base → base.Ns mainGlobals mg → FnG l.prog w (K w.params) mg base 13 fa fd ["script"] (spLaw (K w.params))) :
    PySem.W.WalkO q loose XP YP l.row.toRowW d [] (fun f vs => PySem.call f vs) :=
  walk_runs (n := 63) (k := 13) (x := "script") (sp := fun w => spLaw (K w.params)) hn (by decide) hdf ⟨rfl, by decide, by decide⟩ hY F fun w H a ns _ _ hS => ⟨a, ns, rfl, hS, fun _ => rfl⟩
end Ct

open PySem PySem.W PyProof.Rows in
set_option Elab.async false in
set_option maxRecDepth 100000 in
set_option maxHeartbeats 0 in
theorem PySem.Challenge.cw_chargeturns_k11_joinings_by_hand_holds : PySem.Challenge.rw_chargeturns_k11_joinings_by_hand.Holds := by
  w_on; o_law; k_head; (case hw => w_witness2)
  k_fill
  refine Ct.walk (l := PySem.Challenge.rw_chargeturns_k11_joinings_by_hand) rfl rfl (fun w h Y => PySem.W.kIn_of Y) ?F
  case F =>
    intro w mg fa h KX G hmg
    refine' Ct.all_mk KX G hmg (Ct.lies_of KX G ?a_law_cells ?l_law_cells ?c_law_cells ?k_law_cells) (Ct.lies_of KX G ?a_law_pot ?l_law_pot ?c_law_pot ?k_law_pot) (Ct.lies_of KX G ?a_law_right ?l_law_right ?c_law_right ?k_law_right) (Ct.lies_of KX G ?a_law_hand ?l_law_hand ?c_law_hand ?k_law_hand) (Ct.lies_of KX G ?a_law_is_row_right ?l_law_is_row_right ?c_law_is_row_right ?k_law_is_row_right) (Ct.lies_of KX G ?a_flow ?l_flow ?c_flow ?k_flow) (Ct.lies_of KX G ?a_read_lines ?l_read_lines ?c_read_lines ?k_read_lines) (Ct.lies_of KX G ?a_takes_line ?l_takes_line ?c_takes_line ?k_takes_line) (Ct.lies_of KX G ?a_takes_source ?l_takes_source ?c_takes_source ?k_takes_source) (Ct.lies_of KX G ?a_read_fraction ?l_read_fraction ?c_read_fraction ?k_read_fraction) (Ct.lies_of KX G ?a_read_integer ?l_read_integer ?c_read_integer ?k_read_integer) (Ct.lies_of KX G ?a_is_integer_text ?l_is_integer_text ?c_is_integer_text ?k_is_integer_text) (Ct.lies_of KX G ?a_is_fraction ?l_is_fraction ?c_is_fraction ?k_is_fraction) (Ct.lies_of KX G ?a_is_integer ?l_is_integer ?c_is_integer ?k_is_integer) (Ct.lies_of KX G ?a_is_another ?l_is_another ?c_is_another ?k_is_another) (Ct.lies_of KX G ?a_is_name ?l_is_name ?c_is_name ?k_is_name) (Ct.lies_of KX G ?a_names_of ?l_names_of ?c_names_of ?k_names_of) (Ct.lies_of KX G ?a_takes_part ?l_takes_part ?c_takes_part ?k_takes_part) (Ct.lies_of KX G ?a_is_above_nought ?l_is_above_nought ?c_is_above_nought ?k_is_above_nought) (Ct.lies_of KX G ?a_takes_joining ?l_takes_joining ?c_takes_joining ?k_takes_joining) (Ct.lies_of KX G ?a_takes_tie ?l_takes_tie ?c_takes_tie ?k_takes_tie) (Ct.lies_of KX G ?a_is_junction ?l_is_junction ?c_is_junction ?k_is_junction) (Ct.lies_of KX G ?a_law_text ?l_law_text ?c_law_text ?k_law_text) (Ct.lies_of KX G ?a_law_frac_times ?l_law_frac_times ?c_law_frac_times ?k_law_frac_times) (Ct.lies_of KX G ?a_law_frac ?l_law_frac ?c_law_frac ?k_law_frac) (Ct.lies_of KX G ?a_law_frac_common ?l_law_frac_common ?c_law_frac_common ?k_law_frac_common) (Ct.lies_of KX G ?a_law_circuit_text ?l_law_circuit_text ?c_law_circuit_text ?k_law_circuit_text) (Ct.lies_of KX G ?a_law_frac_text ?l_law_frac_text ?c_law_frac_text ?k_law_frac_text) (Ct.lies_of KX G ?a_law_frac_less ?l_law_frac_less ?c_law_frac_less ?k_law_frac_less) (Ct.lies_of KX G ?a_law_frac_sum ?l_law_frac_sum ?c_law_frac_sum ?k_law_frac_sum) (Ct.lies_of KX G ?a_law_frac_plus ?l_law_frac_plus ?c_law_frac_plus ?k_law_frac_plus) (Ct.lies_of KX G ?a_joined ?l_joined ?c_joined ?k_joined) (Ct.lies_of KX G ?a_check_joining ?l_check_joining ?c_check_joining ?k_check_joining) (Ct.lies_of KX G ?a_check_standing ?l_check_standing ?c_check_standing ?k_check_standing) (Ct.lies_of KX G ?a_is_row ?l_is_row ?c_is_row ?k_is_row) (Ct.lies_of KX G ?a_ties_of ?l_ties_of ?c_ties_of ?k_ties_of) (Ct.lies_of KX G ?a_settled_potentials ?l_settled_potentials ?c_settled_potentials ?k_settled_potentials) (Ct.lies_of KX G ?a_free_junctions ?l_free_junctions ?c_free_junctions ?k_free_junctions) (Ct.lies_of KX G ?a_given_potentials ?l_given_potentials ?c_given_potentials ?k_given_potentials) (Ct.lies_of KX G ?a_charge_equations ?l_charge_equations ?c_charge_equations ?k_charge_equations) (Ct.lies_of KX G ?a_given_voltages ?l_given_voltages ?c_given_voltages ?k_given_voltages) (Ct.lies_of KX G ?a_tied_voltages ?l_tied_voltages ?c_tied_voltages ?k_tied_voltages) (Ct.lies_of KX G ?a_minus ?l_minus ?c_minus ?k_minus) (Ct.lies_of KX G ?a_ratio ?l_ratio ?c_ratio ?k_ratio) (Ct.lies_of KX G ?a_times ?l_times ?c_times ?k_times) (Ct.lies_of KX G ?a_total ?l_total ?c_total ?k_total) (Ct.lies_of KX G ?a_plus ?l_plus ?c_plus ?k_plus) (Ct.lies_of KX G ?a_weight ?l_weight ?c_weight ?k_weight) (Ct.lies_of KX G ?a_side ?l_side ?c_side ?k_side) (Ct.lies_of KX G ?a_solution ?l_solution ?c_solution ?k_solution) (Ct.lies_of KX G ?a_plain_rows ?l_plain_rows ?c_plain_rows ?k_plain_rows) (Ct.lies_of KX G ?a_cleared ?l_cleared ?c_cleared ?k_cleared) (Ct.lies_of KX G ?a_least ?l_least ?c_least ?k_least) (Ct.lies_of KX G ?a_without ?l_without ?c_without ?k_without) (Ct.lies_of KX G ?a_led_by_one ?l_led_by_one ?c_led_by_one ?k_led_by_one) (Ct.lies_of KX G ?a_first_place ?l_first_place ?c_first_place ?k_first_place) (Ct.lies_of KX G ?a_standing_at ?l_standing_at ?c_standing_at ?k_standing_at) (Ct.lies_of KX G ?a_does_fit ?l_does_fit ?c_does_fit ?k_does_fit) (Ct.lies_of KX G ?a_difference ?l_difference ?c_difference ?k_difference) (Ct.lies_of KX G ?a_charges ?l_charges ?c_charges ?k_charges) (Ct.lies_of KX G ?a_lost ?l_lost ?c_lost ?k_lost) (Ct.lies_of KX G ?a_square ?l_square ?c_square ?k_square) (Ct.lies_of KX G ?a_check_row ?l_check_row ?c_check_row ?k_check_row) (Ct.lies_of KX G ?a_inner ?l_inner ?c_inner ?k_inner) (Ct.lies_of KX G ?a_potentials ?l_potentials ?c_potentials ?k_potentials) (Ct.lies_of KX G ?a_law_frac_size ?l_law_frac_size ?c_law_frac_size ?k_law_frac_size) (Ct.lies_of KX G ?a_law_of ?l_law_of ?c_law_of ?k_law_of) (Ct.lies_of KX G ?a_law_take ?l_law_take ?c_law_take ?k_law_take) (Ct.lies_of KX G ?a_law ?l_law ?c_law ?k_law) ?z_aC ?z_i1 ?z_i2 ?z_i3 ?z_i4 ?z_i5 ?z_pg ?z_hd ?z_po ?z_sa ?z_mk ?z_kc ?z_nT ?z_nS ?z_nP ?z_nJ ?z_gcd ?z_zA ?z_zL ?z_lcm ?z_m_zip ?z_m_sorted ?z_n_len ?z_n_abs ?z_n_sum ?z_n_all ?z_n_min ?z_n_max ?z_n_repr ?z_n_isinstance ?z_n_int ?z_n_str ?z_n_bool ?z_n_list ?z_n_tuple ?z_n_dict ?z_n_range ?z_n_enumerate ?z_c_DIGITS ?z_c_PIECE ?z_c_SHIFT ?z_c_GROUND ?z_c_LETTERS ?z_c_LONGEST_NAME ?z_c_MOST_SOURCES ?z_c_MOST_PARTS ?z_c_MOST_JOININGS
    (case a_law_cells => k_is); (case l_law_cells => k_is); (case c_law_cells => k_is); (case k_law_cells => k_is)
    (case a_law_pot => k_is); (case l_law_pot => k_is); (case c_law_pot => k_is); (case k_law_pot => k_is)
    (case a_law_right => k_is); (case l_law_right => k_is); (case c_law_right => k_is); (case k_law_right => k_is)
    (case a_law_hand => k_is); (case l_law_hand => k_is); (case c_law_hand => k_is); (case k_law_hand => k_is)
    (case a_law_is_row_right => k_is); (case l_law_is_row_right => k_is); (case c_law_is_row_right => k_is); (case k_law_is_row_right => k_is)
    (case a_flow => k_is); (case l_flow => k_is); (case c_flow => k_is); (case k_flow => k_is)
    (case a_read_lines => k_is); (case l_read_lines => k_is); (case c_read_lines => k_is); (case k_read_lines => k_is)
    (case a_takes_line => k_is); (case l_takes_line => k_is); (case c_takes_line => k_is); (case k_takes_line => k_is)
    (case a_takes_source => k_is); (case l_takes_source => k_is); (case c_takes_source => k_is); (case k_takes_source => k_is)
    (case a_read_fraction => k_is); (case l_read_fraction => k_is); (case c_read_fraction => k_is); (case k_read_fraction => k_is)
    (case a_read_integer => k_is); (case l_read_integer => k_is); (case c_read_integer => k_is); (case k_read_integer => k_is)
    (case a_is_integer_text => k_is); (case l_is_integer_text => k_is); (case c_is_integer_text => k_is); (case k_is_integer_text => k_is)
    (case a_is_fraction => k_is); (case l_is_fraction => k_is); (case c_is_fraction => k_is); (case k_is_fraction => k_is)
    (case a_is_integer => k_is); (case l_is_integer => k_is); (case c_is_integer => k_is); (case k_is_integer => k_is)
    (case a_is_another => k_is); (case l_is_another => k_is); (case c_is_another => k_is); (case k_is_another => k_is)
    (case a_is_name => k_is); (case l_is_name => k_is); (case c_is_name => k_is); (case k_is_name => k_is)
    (case a_names_of => k_is); (case l_names_of => k_is); (case c_names_of => k_is); (case k_names_of => k_is)
    (case a_takes_part => k_is); (case l_takes_part => k_is); (case c_takes_part => k_is); (case k_takes_part => k_is)
    (case a_is_above_nought => k_is); (case l_is_above_nought => k_is); (case c_is_above_nought => k_is); (case k_is_above_nought => k_is)
    (case a_takes_joining => k_is); (case l_takes_joining => k_is); (case c_takes_joining => k_is); (case k_takes_joining => k_is)
    (case a_takes_tie => k_is); (case l_takes_tie => k_is); (case c_takes_tie => k_is); (case k_takes_tie => k_is)
    (case a_is_junction => k_is); (case l_is_junction => k_is); (case c_is_junction => k_is); (case k_is_junction => k_is)
    (case a_law_text => k_is); (case l_law_text => k_is); (case c_law_text => k_is); (case k_law_text => k_is)
    (case a_law_frac_times => k_is); (case l_law_frac_times => k_is); (case c_law_frac_times => k_is); (case k_law_frac_times => k_is)
    (case a_law_frac => k_is); (case l_law_frac => k_is); (case c_law_frac => k_is); (case k_law_frac => k_is)
    (case a_law_frac_common => k_is); (case l_law_frac_common => k_is); (case c_law_frac_common => k_is); (case k_law_frac_common => k_is)
    (case a_law_circuit_text => k_is); (case l_law_circuit_text => k_is); (case c_law_circuit_text => k_is); (case k_law_circuit_text => k_is)
    (case a_law_frac_text => k_is); (case l_law_frac_text => k_is); (case c_law_frac_text => k_is); (case k_law_frac_text => k_is)
    (case a_law_frac_less => k_is); (case l_law_frac_less => k_is); (case c_law_frac_less => k_is); (case k_law_frac_less => k_is)
    (case a_law_frac_sum => k_is); (case l_law_frac_sum => k_is); (case c_law_frac_sum => k_is); (case k_law_frac_sum => k_is)
    (case a_law_frac_plus => k_is); (case l_law_frac_plus => k_is); (case c_law_frac_plus => k_is); (case k_law_frac_plus => k_is)
    (case a_joined => k_is); (case l_joined => k_is); (case c_joined => k_is); (case k_joined => k_is)
    (case a_check_joining => k_is); (case l_check_joining => k_is); (case c_check_joining => k_is); (case k_check_joining => k_is)
    (case a_check_standing => k_is); (case l_check_standing => k_is); (case c_check_standing => k_is); (case k_check_standing => k_is)
    (case a_is_row => k_is); (case l_is_row => k_is); (case c_is_row => k_is); (case k_is_row => k_is)
    (case a_ties_of => k_is); (case l_ties_of => k_is); (case c_ties_of => k_is); (case k_ties_of => k_is)
    (case a_settled_potentials => k_is); (case l_settled_potentials => k_is); (case c_settled_potentials => k_is); (case k_settled_potentials => k_is)
    (case a_free_junctions => k_is); (case l_free_junctions => k_is); (case c_free_junctions => k_is); (case k_free_junctions => k_is)
    (case a_given_potentials => k_is); (case l_given_potentials => k_is); (case c_given_potentials => k_is); (case k_given_potentials => k_is)
    (case a_charge_equations => k_is); (case l_charge_equations => k_is); (case c_charge_equations => k_is); (case k_charge_equations => k_is)
    (case a_given_voltages => k_is); (case l_given_voltages => k_is); (case c_given_voltages => k_is); (case k_given_voltages => k_is)
    (case a_tied_voltages => k_is); (case l_tied_voltages => k_is); (case c_tied_voltages => k_is); (case k_tied_voltages => k_is)
    (case a_minus => k_is); (case l_minus => k_is); (case c_minus => k_is); (case k_minus => k_is)
    (case a_ratio => k_is); (case l_ratio => k_is); (case c_ratio => k_is); (case k_ratio => k_is)
    (case a_times => k_is); (case l_times => k_is); (case c_times => k_is); (case k_times => k_is)
    (case a_total => k_is); (case l_total => k_is); (case c_total => k_is); (case k_total => k_is)
    (case a_plus => k_is); (case l_plus => k_is); (case c_plus => k_is); (case k_plus => k_is)
    (case a_weight => k_is); (case l_weight => k_is); (case c_weight => k_is); (case k_weight => k_is)
    (case a_side => k_is); (case l_side => k_is); (case c_side => k_is); (case k_side => k_is)
    (case a_solution => k_is); (case l_solution => k_is); (case c_solution => k_is); (case k_solution => k_is)
    (case a_plain_rows => k_is); (case l_plain_rows => k_is); (case c_plain_rows => k_is); (case k_plain_rows => k_is)
    (case a_cleared => k_is); (case l_cleared => k_is); (case c_cleared => k_is); (case k_cleared => k_is)
    (case a_least => k_is); (case l_least => k_is); (case c_least => k_is); (case k_least => k_is)
    (case a_without => k_is); (case l_without => k_is); (case c_without => k_is); (case k_without => k_is)
    (case a_led_by_one => k_is); (case l_led_by_one => k_is); (case c_led_by_one => k_is); (case k_led_by_one => k_is)
    (case a_first_place => k_is); (case l_first_place => k_is); (case c_first_place => k_is); (case k_first_place => k_is)
    (case a_standing_at => k_is); (case l_standing_at => k_is); (case c_standing_at => k_is); (case k_standing_at => k_is)
    (case a_does_fit => k_is); (case l_does_fit => k_is); (case c_does_fit => k_is); (case k_does_fit => k_is)
    (case a_difference => k_is); (case l_difference => k_is); (case c_difference => k_is); (case k_difference => k_is)
    (case a_charges => k_is); (case l_charges => k_is); (case c_charges => k_is); (case k_charges => k_is)
    (case a_lost => k_is); (case l_lost => k_is); (case c_lost => k_is); (case k_lost => k_is)
    (case a_square => k_is); (case l_square => k_is); (case c_square => k_is); (case k_square => k_is)
    (case a_check_row => k_is); (case l_check_row => k_is); (case c_check_row => k_is); (case k_check_row => k_is)
    (case a_inner => k_is); (case l_inner => k_is); (case c_inner => k_is); (case k_inner => k_is)
    (case a_potentials => k_is); (case l_potentials => k_is); (case c_potentials => k_is); (case k_potentials => k_is)
    (case a_law_frac_size => k_is); (case l_law_frac_size => k_is); (case c_law_frac_size => k_is); (case k_law_frac_size => k_is)
    (case a_law_of => k_is); (case l_law_of => k_is); (case c_law_of => k_is); (case k_law_of => k_is)
    (case a_law_take => k_is); (case l_law_take => k_is); (case c_law_take => k_is); (case k_law_take => k_is)
    (case a_law => k_is); (case l_law => k_is); (case c_law => k_is); (case k_law => k_is)
    (case z_aC => k_is)
    (case z_i1 => k_is)
    (case z_i2 => k_is)
    (case z_i3 => k_is)
    (case z_i4 => k_is)
    (case z_i5 => k_is)
    (case z_pg => k_is)
    (case z_hd => k_is)
    (case z_po => k_is)
    (case z_sa => k_is)
    (case z_mk => k_is)
    (case z_kc => k_is)
    (case z_nT => k_is)
    (case z_nS => k_is)
    (case z_nP => k_is)
    (case z_nJ => k_is)
    (case z_gcd => k_is)
    (case z_zA => k_is)
    (case z_zL => k_is)
    (case z_lcm => k_is)
    (case z_m_zip => k_is)
    (case z_m_sorted => k_is)
    (case z_n_len => k_is)
    (case z_n_abs => k_is)
    (case z_n_sum => k_is)
    (case z_n_all => k_is)
    (case z_n_min => k_is)
    (case z_n_max => k_is)
    (case z_n_repr => k_is)
    (case z_n_isinstance => k_is)
    (case z_n_int => k_is)
    (case z_n_str => k_is)
    (case z_n_bool => k_is)
    (case z_n_list => k_is)
    (case z_n_tuple => k_is)
    (case z_n_dict => k_is)
    (case z_n_range => k_is)
    (case z_n_enumerate => k_is)
    (case z_c_DIGITS => k_is)
    (case z_c_PIECE => k_is)
    (case z_c_SHIFT => k_is)
    (case z_c_GROUND => k_is)
    (case z_c_LETTERS => k_is)
    (case z_c_LONGEST_NAME => k_is)
    (case z_c_MOST_SOURCES => k_is)
    (case z_c_MOST_PARTS => k_is)
    (case z_c_MOST_JOININGS => k_is)
