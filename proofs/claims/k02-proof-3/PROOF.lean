import PyProof.Rows.All
import Wide.All
import OpenK.AllK
import Wide.FinOn
import HandS.ForMost
import HandS.OwnEq
import HandS.Deep
import HandS.FStr
import HandS.Gcd
import HandS.IsInst
import HandS.Wide
import HandS.Conv
import HandS.Evl
import HandS.Style
import HandS.ListItems
import HandS.Walk
import HandS.TryOnly
import PySem.Challenge.RW_chargeturns_k02_whole_circuits_edited
import KE.KDictPairs
import HandS.Zip
import HandS.DictComp
import KE.KMathG
import KE.IntBitsLaws
import HandS.SetBool
import HandS.SetTxt0
import PyProof.Rows.SortStr
import PyProof.Rows.SortShellAny
import KE.IntTextLaws
import KE.GoesEnumKw
import HandS.Text
import HandS.List
import HandS.Iter
import PyProof.StrOps2
import KE.GoesMore
import HandS.TupAny
import HandS.Rev
import PyProof.JoinWalk
import PyProof.InstNe
import PyProof.ReprLen
set_option Elab.async false
set_option linter.all false
set_option maxRecDepth 100000
set_option maxHeartbeats 4000000
/-! What all the texts of this proof share: calls by name, the pot's frame, a wider power. -/
namespace Ct
open PySem PySem.Spec PyProof.Rows L2 TL

/-! ### calls by name -/
/-- the def called x keeps sp at level k, wherever the module's names are as they are -/
structure Keeps (P : Program) (w : World) (K : PySem.W.Frag) (mg : Str → Option Value) (base : Heap) (k : Nat) (x : Str) (ps : List Str) (sp : Sp) : Prop where
  ex : ∃ (f : Addr) (fd : FuncData), FnOk P w K mg base CX0 k f fd ps sp ∧ mg x = some (.ref f) ∧ PySem.W.keepIn K (.ref f) = true ∧ Binds K fd ps [] ∧
    ∀ st f' fd', Fun K x x st f' fd' → mg x = some (.ref f') → Fun K x x st f fd
/-- where the text's statement st, a def called x, lies behind the top -/
structure Lies (K : PySem.W.Frag) (mg : Str → Option Value) (x : Str) (st : Stmt) : Prop where
  ex : ∃ (f : Addr) (fd : FuncData), Fun K x x st f fd ∧ mg x = some (.ref f)
section
variable {P : Program} {w : World} {K : PySem.W.Frag} {mg : Str → Option Value} {base : Heap}
theorem Keeps.up {j k : Nat} {x : Str} {ps : List Str} {sp : Sp} (G : Keeps P w K mg base j x ps sp) (h : j ≤ k) : Keeps P w K mg base k x ps sp := by
  obtain ⟨f, fd, g1, g2⟩ := G.ex
  exact ⟨f, fd, g1.mono h, g2⟩
theorem Lies.keeps {x : Str} {st : Stmt} {N ps : List Str} {k : Nat} {sp : Sp} (D : Lies K mg x st) (S : FnScope N ps (defScope st))
    (hb : ∀ (kV doc pm : Value) (an : Option Addr) (cdv ct : Value) (us : List Value), us.length = ps.length → bindArgs (PySem.W.fnOf x x (defArgs st) (defBody st) (defScope st) .none kV doc pm an cdv ct) ⟨us, []⟩ = pure (ps.zip us))
    (len : ∀ vs H Q E, sp vs H Q E → vs.length = ps.length)
    (body : ∀ (f : Addr) (cdv : Value) (A : Around) (outer : List Env) (s : Shared) (H : Hp) (vs : List V) (Q : VK) (E : XK), Room k (A.deeper (envOfC x (defScope st) s.heap.objs.size f cdv)) → sp vs H Q E →
      ∃ t, PSs (cxOf CX0 P w K mg base N x (defScope st) f cdv A outer s H E).nox (defBody st) t ∧ t { nx := fun _ H' => Q .non H', rt := Q } (start N vs) H) : Keeps P w K mg base (k + 1) x ps sp := by
  obtain ⟨f, fd, F, hm⟩ := D.ex
  refine ⟨f, fd, F.ok S len (body f), hm, F.kp, F.binds hb, fun st' f' fd' F' hm' => ?_⟩
  have e := hm.symm.trans hm'
  cases e
  obtain ⟨oc, od, kV, doc, pm, an, c1, ct, osl, e1, l1, _⟩ := F.ex
  obtain ⟨oc', od', kV', doc', pm', an', c1', ct', osl', e1', l1', _⟩ := id F'.ex
  rw [l1] at l1'
  cases l1'
  exact F'
end
/-- the class called x, at C: its instances are made by an __init__ that keeps sp -/
structure Makes (P : Program) (w : World) (K : PySem.W.Frag) (mg : Str → Option Value) (base : Heap) (k : Nat) (x : Str) (C : Addr) (ps : List Str) (sp : Sp) : Prop where
  ex : ∃ (f : Addr) (fd : FuncData), Mk K C f ∧ FnOk P w K mg base CX0 k f fd ps sp ∧ mg x = some (.ref C) ∧ Binds K fd ps []
section
variable {X : Cx}
theorem pe_new {k : Nat} {x : Str} {C : Addr} {p pos : Pos} {e : Expr} {es : List Expr} {ps : List Str} {sp : Sp} {t : TA} (G : Makes X.prog X.w X.K X.mg X.base k x C ps sp) (hr : Room (k + 1) X.A) (hg : Gl X x) (ha : PA X (e :: es) t)
    (hdb : (x == ("__debug__" : Str)) = false := by decide) (he : starEach (e :: es) X.env = (false, eval e X.env) :: starEach es X.env := by rfl) (hpl : (backTo pos (starEach es X.env)).any (·.1) = false := by rfl) :
    PE X (.Call (.Name x p) (e :: es) [] pos) (tMake C sp [] E0 t) := by
  obtain ⟨f, fd, g0, g1, g2, g3⟩ := G.ex
  exact pe_make g0 g1 hr hg g2 g3 .nil pass0 ha hdb he hpl
theorem pe_go {k : Nat} {x : Str} {p pos : Pos} {e : Expr} {es : List Expr} {ps : List Str} {sp : Sp} {t : TA} (G : Keeps X.prog X.w X.K X.mg X.base k x ps sp) (hr : Room k X.A) (hg : Gl X x) (ha : PA X (e :: es) t)
    (hdb : (x == ("__debug__" : Str)) = false := by decide) (he : starEach (e :: es) X.env = (false, eval e X.env) :: starEach es X.env := by rfl) (hpl : (backTo pos (starEach es X.env)).any (·.1) = false := by rfl) :
    PE X (.Call (.Name x p) (e :: es) [] pos) (tCall sp [] E0 t) := by
  obtain ⟨f, fd, g1, g2, g3, g4, _⟩ := G.ex
  exact pe_call g1 hr hg g2 g3 g4 .nil pass0 ha hdb he hpl
/-- f(k = v, ..), the keywords in the parameters' contrary sequence -/
theorem pe_goK0 {k : Nat} {x : Str} {st : Stmt} {p pos : Pos} {kws : List Keyword} {ps ks : List Str} {sp : Sp} {tk : TA} (G : Keeps X.prog X.w X.K X.mg X.base k x ps sp) (D : Lies X.K X.mg x st)
    (hbind : ∀ (kV doc pm : Value) (an : Option Addr) (cdv ct : Value) (ws : List Value), ws.length = ps.length → bindArgs (PySem.W.fnOf x x (defArgs st) (defBody st) (defScope st) .none kV doc pm an cdv ct) ⟨[], ks.zip ws⟩ = pure (ps.zip ws.reverse))
    (hr : Room k X.A) (hg : Gl X x) (hkw : PK X kws tk) (hall : (backToKw pos (keywordEach kws X.env)).all (·.1.isSome) = true := by rfl) (hks : (backToKw pos (keywordEach kws X.env)).filterMap (·.1) = ks := by rfl) (hps : ps ≠ [] := by decide)
    (hdb : (x == ("__debug__" : Str)) = false := by decide) (hpl : ((backTo pos (starEach [] X.env)).any (·.1) || (backToKw pos (keywordEach kws X.env)).any (·.1.isNone)) = false := by rfl) :
    PE X (.Call (.Name x p) [] kws pos) (fun σ H Q => tk σ H fun zs H2 => sp zs.reverse H2 Q E0) := by
  obtain ⟨f, fd, F, hm, hk, _, same⟩ := G.ex
  obtain ⟨f', fd', F', hm'⟩ := D.ex
  have F2 := same st f' fd' F' hm'
  obtain ⟨oc, od, kV, doc, pm, an, cdv, ct, osl, efd, _, _⟩ := F2.ex
  have kb : KBinds X.K fd ps ks (fun us ws => match us with | [] => ws.reverse | _ :: _ => []) (fun us ws => match us with | [] => ws.reverse | _ :: _ => []) := by
    refine ⟨fun s us ws _ hl => ?_, fun {vs us zs ws} r rz => ?_⟩
    · cases us with
      | nil =>
        subst efd
        exact BindsTo.of_eq (hbind kV doc pm an cdv ct ws (by simpa using hl))
      | cons u r =>
        exact absurd (List.eq_nil_of_length_eq_zero hl.symm) hps
    · cases r with
      | nil => exact rz.reverse
      | cons _ _ => exact .nil
  refine ⟨fun pins s σ H Q I h => wpAny_Call_Name_kw (ld_glob I hg hm ?_ hdb)⟩
  refine PySem.W.callWith_KW0 (h₀ := X.base) I.ok.mod.kin hk hall (thn (hkw.run pos pins s σ H _ I h) fun ws s2 z => ?_) hpl
  obtain ⟨zs, H2, I2, rz, q2⟩ := z
  refine ⟨I2.kIn, ?_⟩
  rw [hks]
  exact run_fnk F hr kb pass0 I2 .nil rz q2
/-- powers of any base, as long as the result stays far below the line -/
def CPowW (i j : Int) : Prop := 0 ≤ j ∧ (Builtin.Int.intBits i : Int) * j ≤ 2 ^ 27
theorem op_powW : OpR X (binaryOp .Pow) (rI CPowW fun i j => .int (i ^ j.toNat)) := opI fun _ _ _ _ _ _ _ c q => pow_int c.1 c.2 q
end

theorem if_true_of' {c : Bool} {A B : Prop} (hc : c = true) (h : A) : if c = true then A else B := by
  subst hc
  exact iteT h
theorem log_of {n : Nat} (h : n < 2 ^ 1000) : n.log2 < 1920 := Nat.lt_of_lt_of_le (PySem.Flt.log2_lt_of (by decide) h) (by decide)
theorem len_app (x y : Str) : (x ++ y).length = x.length + y.length := by
  rw [len_tl, len_tl, len_tl, tl_append, List.length_append]
section
variable {X : Cx}
theorem pe_cs {x z : Str} {pos : Pos} (h : ∃ t, X.mg x = some (.str z t)) (hg : Gl X x) (hd : (x == ("__debug__" : Str)) = false := by decide) : PE X (.Name x pos) (tC (.str z)) := by
  obtain ⟨t, e⟩ := h
  exact pe_glob hg e ⟨t, rfl⟩ hd
theorem pe_ci {x : Str} {i : Int} {pos : Pos} (h : ∃ t, X.mg x = some (.int i t)) (hg : Gl X x) (hd : (x == ("__debug__" : Str)) = false := by decide) : PE X (.Name x pos) (tC (.int i)) := by
  obtain ⟨t, e⟩ := h
  exact pe_glob hg e ⟨t, rfl⟩ hd
end
theorem emp_app (x : Str) : Str.empty ++ x = x := ext_tl (by rw [tl_append]; rfl)
/-! ### the same rules with the written part named (an element of a comprehension may not speak of its block) -/
section
variable {X : Cx} {K : PySem.W.Frag}
def rJoinK (K : PySem.W.Frag) : V → List V → Hp → VK → Prop := fun x xs H Q =>
  ∃ (a : Str) (p : Addr) (ys : List Str), x = .str a ∧ xs = [.ref p] ∧
    (SqL K H p (ys.map V.str) ∨ SqT K H p (ys.map V.str)) ∧
    (ys.map (·.length)).sum + ys.length * a.length ≤ 16777216 ∧ Q (.str (Txt.join a ys)) H
theorem pe_joinK {o e : Expr} {to te : TE} {apos pos : Pos} (hK : X.K = K) (ho : PE X o to) (he : PE X e te) (hs : starEach [e] X.env = [(false, eval e X.env)] := by rfl)
    (hbase : attributeBase o "join" X.env (eval o X.env) = eval o X.env := by rfl) (hline : (apos.endLine == pos.line) = true := by rfl) : PE X (.Call (.Attribute o "join" apos) [e] [] pos) (tM1 (rJoinK K) to te) := by
  subst hK
  exact pe_join ho he hs hbase hline
def rListK (K : PySem.W.Frag) : List V → Hp → VK → Prop := fun xs H Q => ∃ (p : Addr) (ys : List V), xs = [.ref p] ∧ (SqL K H p ys ∨ SqT K H p ys) ∧
  ∀ l, H l = none → Q (.ref l) (upd H l (.lst ys))
theorem pe_listK {e : Expr} {t : TA} {p pos : Pos} (hK : X.K = K) (hg : Gl X "list") (hm : X.mg "list" = none) (ha : PA X [e] t)
    (he : starEach (e :: []) X.env = (false, eval e X.env) :: starEach [] X.env := by rfl) (hpl : (backTo pos (starEach [] X.env)).any (·.1) = false := by rfl) : PE X (.Call (.Name "list" p) [e] [] pos) (tCB (rListK K) t) := by
  subst hK
  exact pe_callTy call_list_of hg hm (by decide +kernel) ha (by decide) (by decide) he hpl
def rTupleK (K : PySem.W.Frag) : List V → Hp → VK → Prop := fun xs H Q => ∃ (p : Addr) (ys : List V), xs = [.ref p] ∧
  ((SqL K H p ys ∧ ∀ l, H l = none → Q (.ref l) (upd H l (.tup ys))) ∨ (SqT K H p ys ∧ Q (.ref p) H))
theorem pe_tupleK {e : Expr} {t : TA} {p pos : Pos} (hK : X.K = K) (hg : Gl X "tuple") (hm : X.mg "tuple" = none) (ha : PA X [e] t)
    (he : starEach (e :: []) X.env = (false, eval e X.env) :: starEach [] X.env := by rfl) (hpl : (backTo pos (starEach [] X.env)).any (·.1) = false := by rfl) : PE X (.Call (.Name "tuple" p) [e] [] pos) (tCB (rTupleK K) t) := by
  subst hK
  exact pe_callTy call_tuple_of hg hm (by decide +kernel) ha (by decide) (by decide) he hpl
theorem ix_listK (hK : X.K = K) : IxR X (rIxL K) := by
  subst hK
  exact ix_list
theorem ix_tupK (hK : X.K = K) : IxR X (rIxT K) := by
  subst hK
  exact ix_tup
end
/-! ### readings opened one layer -/
theorem into_set {te : TE} {g : TG} {r : TS} {D : Ends} {σ : L2.St} {H : Hp} (h : te σ H fun x H1 => g x σ H1 (r D)) : tSeq (tAsg te g) r D σ H := h
theorem into_drop {te : TE} {r : TS} {D : Ends} {σ : L2.St} {H : Hp} (h : te σ H fun _ H1 => r D σ H1) : tSeq (tDrop te) r D σ H := h
theorem into_drop1 {te : TE} {D : Ends} {σ : L2.St} {H : Hp} (h : te σ H fun _ H1 => D.nx σ H1) : tDrop te D σ H := h
theorem into_dput {td ty tv : TE} {r : TS} {D : Ends} {σ : L2.St} {H : Hp} (h : tv σ H fun v H1 => td σ H1 fun x H2 => ty σ H2 fun y H3 => ∃ a H', x = .ref a ∧ DPut H3 a y v H' ∧ r D σ H') : tSeq (sDPut td ty tv) r D σ H := h
theorem into_not {t : TT} {σ : L2.St} {H : Hp} {Q : Bool → Hp → Prop} (h : t σ H fun c H1 => Q (!c) H1) : tNot t σ H Q := h
theorem into_b {t : TE} {σ : L2.St} {H : Hp} {Q : Bool → Hp → Prop} (h : t σ H fun x H1 => ∃ c, x = .bl c ∧ Q c H1) : tB t σ H Q := h
theorem into_cb {r : List V → Hp → VK → Prop} {t : TA} {σ : L2.St} {H : Hp} {Q : VK} (h : t σ H fun vs H1 => r vs H1 Q) : tCB r t σ H Q := h
theorem into_ret {te : TE} {D : Ends} {σ : L2.St} {H : Hp} (h : te σ H D.rt) : tRet te D σ H := h
theorem into_andV {ta tb : TE} {σ : L2.St} {H : Hp} {Q : VK} (h : ta σ H fun x H1 => ∃ c, x = .bl c ∧ if c = true then tb σ H1 Q else Q (.bl false) H1) : tAndV ta tb σ H Q := h
theorem into_fld {K : PySem.W.Frag} {ta tv : TE} {fl : Str} {D : Ends} {σ : L2.St} {H : Hp} (h : tv σ H fun v H1 => ta σ H1 fun x H2 => ∃ a C dx fs, x = .ref a ∧ H2 a = some (.ins C dx fs) ∧ Cls K C ∧ NoAttr K C fl ∧ fs.length < 1000 ∧ D.nx σ (upd H2 a (.ins C dx (putF fl v fs)))) : sFld K ta tv fl D σ H := h
theorem into_pairC {v : V} {tv : TE} {r : List (TE × TE)} {σ : L2.St} {H : Hp} {Q : List (V × V) → Hp → Prop} (h : tv σ H fun y H2 => tPairs r σ H2 fun ps H3 => Q ((v, y) :: ps) H3) : tPairs ((tC v, tv) :: r) σ H Q := h
theorem into_name {i : Nat} {v : V} {σ : L2.St} {H : Hp} {Q : L2.St → Hp → Prop} (h : Q (σ.set i (some v)) H) : gName i v σ H Q := h
theorem into_seq {t r : TS} {D : Ends} {σ : L2.St} {H : Hp} (h : t { D with nx := r D } σ H) : tSeq t r D σ H := h
theorem into_args1 {te : TE} {σ : L2.St} {H : Hp} {Q : List V → Hp → Prop} (h : te σ H fun x H1 => Q [x] H1) : tCons te tNil σ H Q := h
theorem into_next {D : Ends} {σ : L2.St} {H : Hp} (h : D.nx σ H) : tNext D σ H := h
theorem into_if {t : TT} {A B r : TS} {D : Ends} {σ : L2.St} {H : Hp} (h : t σ H fun c H1 => if c = true then A { D with nx := r D } σ H1 else B { D with nx := r D } σ H1) : tSeq (tIfS t A B) r D σ H := h
theorem into_or {ta tb : TT} {σ : L2.St} {H : Hp} {Q : Bool → Hp → Prop} (h : ta σ H fun c H1 => if c = true then Q true H1 else tb σ H1 Q) : tOr ta tb σ H Q := h
/-! ### heaps -/
/-- G is what of H is fixed; p, the pot, stands outside -/
structure Beside (p : Addr) (G H : Hp) : Prop where
  out : G p = none
  sub : Same G H
theorem same_upd {G : Hp} {a : Addr} {o : HO} (h : G a = none) : Same G (upd G a o) := fun b z e => by
  rw [upd_ne (ne_of_none e h)]
  exact e
/-- a new object, at an address where H tracks nothing -/
theorem Beside.new {p a : Addr} {G H : Hp} {o : HO} (b : Beside p G H) (hp : H p ≠ none) (ha : H a = none) : Beside p (upd G a o) (upd H a o) ∧ Same G (upd G a o) ∧ G a = none := by
  have g : G a = none := b.sub.free ha
  have npa : p ≠ a := fun z => hp (z ▸ ha)
  refine ⟨⟨?_, fun c z e => ?_⟩, same_upd g, g⟩
  · rw [upd_ne npa]
    exact b.out
  · by_cases q : c = a
    · subst q
      rw [upd_same] at e ⊢
      exact e
    · rw [upd_ne q] at e ⊢
      exact b.sub _ _ e
/-- the pot's own change -/
theorem Beside.pot {p : Addr} {G H : Hp} {o : HO} (b : Beside p G H) : Beside p G (upd H p o) := ⟨b.out, fun c z e => by
  have q : c ≠ p := fun y => by
    rw [y, b.out] at e
    cases e
  rw [upd_ne q]
  exact b.sub _ _ e⟩
/-- the pot at p, asked at most n times -/
def PotAt (p : Addr) (H : Hp) (n : Nat) : Prop := ∃ a b c : Int, H p = some (.lst [.int a, .int b, .int c]) ∧ 0 ≤ a ∧ 0 ≤ b ∧ b < 2305843009213693921 ∧ 0 ≤ c ∧ c ≤ (n : Int) ∧ n ≤ 1000000
theorem PotAt.some {p : Addr} {H : Hp} {n : Nat} (h : PotAt p H n) : H p ≠ none := by
  obtain ⟨a, b, c, e, _⟩ := h
  rw [e]
  exact fun z => nomatch z
theorem PotAt.new {p a : Addr} {H : Hp} {n : Nat} {o : HO} (h : PotAt p H n) (ha : H a = none) : PotAt p (upd H a o) n := by
  obtain ⟨x, y, z, e, r⟩ := h
  exact ⟨x, y, z, by rw [upd_ne (ne_of_none e ha)]; exact e, r⟩
theorem PotAt.more {p : Addr} {H : Hp} {n m : Nat} (h : PotAt p H n) (l : n ≤ m) (l2 : m ≤ 1000000) : PotAt p H m := by
  obtain ⟨x, y, z, e, h1, h2, h3, h4, h5, _⟩ := h
  exact ⟨x, y, z, e, h1, h2, h3, h4, by omega, l2⟩
end Ct

namespace Ct
open PySem PySem.Spec PyProof.Rows L2 TL
def top (i : Nat) : Stmt := PySem.Challenge.pw_chargeturns_k02_whole_circuits_edited.main.body.getD i (.Pass ⟨0, 0, 0, 0⟩)
theorem b_len : bootBuiltins "len" = some (.builtin "len") := by decide +kernel
theorem b_abs : bootBuiltins "abs" = some (.builtin "abs") := by decide +kernel
theorem b_sum : bootBuiltins "sum" = some (.builtin "sum") := by decide +kernel
theorem b_all : bootBuiltins "all" = some (.builtin "all") := by decide +kernel
theorem b_min : bootBuiltins "min" = some (.builtin "min") := by decide +kernel
theorem b_max : bootBuiltins "max" = some (.builtin "max") := by decide +kernel
theorem b_repr : bootBuiltins "repr" = some (.builtin "repr") := by decide +kernel
theorem b_isinstance : bootBuiltins "isinstance" = some (.builtin "isinstance") := by decide +kernel
theorem b_int : bootBuiltins "int" = some (.type "int") := by decide +kernel
theorem b_str : bootBuiltins "str" = some (.type "str") := by decide +kernel
theorem b_bool : bootBuiltins "bool" = some (.type "bool") := by decide +kernel
theorem b_list : bootBuiltins "list" = some (.type "list") := by decide +kernel
theorem b_tuple : bootBuiltins "tuple" = some (.type "tuple") := by decide +kernel
theorem b_dict : bootBuiltins "dict" = some (.type "dict") := by decide +kernel
/-- the built-ins' names are the module's own nowhere -/
structure Plain (mg : Str → Option Value) : Prop where
  n_len : mg "len" = none
  n_abs : mg "abs" = none
  n_sum : mg "sum" = none
  n_all : mg "all" = none
  n_min : mg "min" = none
  n_max : mg "max" = none
  n_repr : mg "repr" = none
  n_isinstance : mg "isinstance" = none
  n_int : mg "int" = none
  n_str : mg "str" = none
  n_bool : mg "bool" = none
  n_list : mg "list" = none
  n_tuple : mg "tuple" = none
  n_dict : mg "dict" = none
  n_range : mg "range" = none
  n_enumerate : mg "enumerate" = none
  gcd : mg "gcd" = some (.builtin "math.gcd")
  c_DIGITS : ∃ t, mg "DIGITS" = some (.str "0123456789" t)
  c_PIECE : ∃ t, mg "PIECE" = some (.int 18 t)
  c_SHIFT : ∃ t, mg "SHIFT" = some (.int 1000000000000000000 t)
  c_GROUND : ∃ t, mg "GROUND" = some (.str "gnd" t)
  c_LETTERS : ∃ t, mg "LETTERS" = some (.str "abcdefghijklmnopqrstuvwxyz" t)
  c_LONGEST_NAME : ∃ t, mg "LONGEST_NAME" = some (.int 6 t)
  c_MOST_SOURCES : ∃ t, mg "MOST_SOURCES" = some (.int 4 t)
  c_MOST_PARTS : ∃ t, mg "MOST_PARTS" = some (.int 8 t)
  c_MOST_JOININGS : ∃ t, mg "MOST_JOININGS" = some (.int 6 t)
end Ct

namespace Ct
open PySem PySem.Spec PyProof.Rows L2 TL
abbrev s_l_take : Stmt := top 47
abbrev N_l_take : List Str := ["pot", "upto", "digit", "prime", "blend"]
theorem sc_l_take : FnScope N_l_take ["pot", "upto"] (defScope s_l_take) := ⟨rfl, rfl, rfl, by decide +kernel, rfl, by decide +kernel, by decide +kernel⟩
/-- a draw: some number from 0 to below u -/
def spTake : Sp := fun vs H Q _ => ∃ (p : Addr) (G : Hp) (n : Nat) (u : Int), vs = [.ref p, .int u] ∧ Beside p G H ∧ PotAt p H n ∧ n + 1 ≤ 1000000 ∧ 0 < u ∧ u < 1073741824 ∧
  ∀ (d : Int) (G' H' : Hp), 0 ≤ d → d < u → Same G G' → Beside p G' H' → PotAt p H' (n + 1) → Q (.int d) H'
theorem prime_at (c : Int) : ∃ q : Int, (0 < q ∧ q < 2147483648) ∧ atI [V.int 2147483647, V.int 2147483629, V.int 2147483587, V.int 2147483579, V.int 2147483563] (c % 5) = some (.int q) := by
  have h : c % 5 = 0 ∨ c % 5 = 1 ∨ c % 5 = 2 ∨ c % 5 = 3 ∨ c % 5 = 4 := by omega
  rcases h with h | h | h | h | h <;> rw [h]
  · exact ⟨2147483647, by decide, rfl⟩
  · exact ⟨2147483629, by decide, rfl⟩
  · exact ⟨2147483587, by decide, rfl⟩
  · exact ⟨2147483579, by decide, rfl⟩
  · exact ⟨2147483563, by decide, rfl⟩
theorem sq_small {c : Int} (h0 : 0 ≤ c) (h1 : c ≤ 1000001) : 0 ≤ 98307 * c * c ∧ 98307 * c * c ≤ 98307 * 1000001 * 1000001 := by
  have a : 98307 * c ≤ 98307 * 1000001 := by omega
  exact ⟨Int.mul_nonneg (by omega) h0, Int.mul_le_mul a h1 h0 (by decide)⟩
section
variable {P : Program} {w : World} {K : PySem.W.Frag} {mg : Str → Option Value} {base : Heap}
theorem k_take (D : Lies K mg "_law_take" s_l_take) (T : Plain mg) : Keeps P w K mg base 1 "_law_take" ["pot", "upto"] spTake := by
  refine D.keeps sc_l_take (fun _ _ _ _ _ _ us hl => match us, hl with | [_, _], _ => rfl) (fun vs H Q E h => ?_) (fun f cdv A outer s H vs Q E hr h => ?_)
  · obtain ⟨p, G, n, u, rfl, _⟩ := h
    rfl
  · obtain ⟨p, G, n, u, rfl, bs, ⟨a, b, c, hp, ha, hb, hb2, hc, hc2, hn⟩, hn1, hu0, hu30, k⟩ := h
    refine ⟨_, (pss_cons (ps_if (pt_cmpR op_gt (pe_ix ix_list (pv 0) pe_int (fun _ _ => rfl)) pe_int (nomark _))
        (pss_cons (ps_set (i := 2) sc_l_take.nd rfl (Or.inl rfl) (pe_op op_mod (pe_callTy call_int1 (by rfl) T.n_int b_int (pa_cons (pe_ix ix_list (pv 0) pe_int (fun _ _ => rfl)) pa_nil)) (pv 1)))
        (pss_cons (ps_asg (pe_op op_fdiv (pe_ix ix_list (pv 0) pe_int (fun _ _ => rfl)) (pv 1)) (pg_sub (pv 0) pe_int set_list))
        (pss_one (ps_ret (pv 2)))))
        pss_nil)
      (pss_cons (ps_asg (pe_op op_add (pe_ix ix_list (pv 0) pe_int (fun _ _ => rfl)) pe_int) (pg_sub (pv 0) pe_int set_list))
      (pss_cons (ps_set (i := 3) sc_l_take.nd rfl (Or.inl rfl) (pe_ix ix_list (pe_lst (pa_cons pe_int (pa_cons pe_int (pa_cons pe_int (pa_cons pe_int (pa_cons pe_int pa_nil)))))) (pe_op op_mod (pe_callTy call_int1 (by rfl) T.n_int b_int (pa_cons (pe_ix ix_list (pv 0) pe_int (fun _ _ => rfl)) pa_nil)) pe_int) (fun _ _ => rfl)))
      (pss_cons (ps_set (i := 4) sc_l_take.nd rfl (Or.inl rfl) (pe_op op_mod (pe_callTy call_int1 (by rfl) T.n_int b_int (pa_cons (pe_op op_pow (pe_callTy call_int1 (by rfl) T.n_int b_int (pa_cons (pe_op op_add (pe_op op_add (pe_ix ix_list (pv 0) pe_int (fun _ _ => rfl)) (pe_op op_mul (pe_op op_mul pe_int (pe_ix ix_list (pv 0) pe_int (fun _ _ => rfl))) (pe_ix ix_list (pv 0) pe_int (fun _ _ => rfl)))) pe_int) pa_nil)) pe_int) pa_nil)) (pv 3)))
      (pss_cons (ps_set (i := 4) sc_l_take.nd rfl (Or.inl rfl) (pe_op op_mod (pe_callTy call_int1 (by rfl) T.n_int b_int (pa_cons (pe_op op_mul (pv 4) (pe_op op_add (pe_op op_mod (pe_callTy call_int1 (by rfl) T.n_int b_int (pa_cons (pv 4) pa_nil)) pe_int) (pe_op op_mul pe_int (pe_ix ix_list (pv 0) pe_int (fun _ _ => rfl))))) pa_nil)) pe_int))
      (pss_one (ps_ret (pe_op op_mod (pe_callTy call_int1 (by rfl) T.n_int b_int (pa_cons (pe_op op_fdiv (pv 4) pe_int) pa_nil)) (pv 1))))))))), ?_⟩
    refine ⟨_, rfl, p, _, _, _, rfl, rfl, SqL.of hp, rfl, _, _, rfl, rfl, _, rfl, ?_⟩
    refine ite2 (fun h0 => ?_) (fun h0 => ?_)
    · have a0 : 0 < a := of_decide_eq_true h0
      refine ⟨_, rfl, p, _, _, _, rfl, rfl, SqL.of hp, rfl, .inl ⟨_, rfl, _, rfl, _, _, rfl, rfl, hu0, ?_⟩⟩
      refine ⟨_, rfl, p, _, _, _, rfl, rfl, SqL.of hp, rfl, _, rfl, _, _, rfl, rfl, ⟨hu0, hu30⟩, _, rfl, p, _, _, 0, rfl, rfl, hp, rfl, _, rfl, ?_⟩
      refine k _ G _ (Int.emod_nonneg _ (by omega)) (Int.emod_lt_of_pos _ hu0) (Same.refl G) bs.pot ⟨a / u, b, c, upd_same, Int.ediv_nonneg ha (by omega), hb, hb2, hc, by omega, hn1⟩
    · refine ⟨_, rfl, p, _, _, _, rfl, rfl, SqL.of hp, rfl, _, _, rfl, rfl, _, rfl, p, _, _, 2, rfl, rfl, hp, rfl, ?_⟩
      have hp1 : (upd H p (.lst [.int a, .int b, .int (c + 1)])) p = some (.lst [.int a, .int b, .int (c + 1)]) := upd_same
      refine ⟨by decide, fun l hl => ?_⟩
      have nlp : p ≠ l := ne_of_none hp1 hl
      have hp2 : (upd (upd H p (.lst [.int a, .int b, .int (c + 1)])) l (.lst [V.int 2147483647, V.int 2147483629, V.int 2147483587, V.int 2147483579, V.int 2147483563])) p = some (.lst [.int a, .int b, .int (c + 1)]) := (upd_ne nlp).trans hp1
      obtain ⟨q, q0, hq⟩ := prime_at (c + 1)
      refine ⟨_, rfl, p, _, _, _, rfl, rfl, SqL.of hp2, rfl, .inl ⟨_, rfl, _, _, rfl, rfl, (show (0 : Int) < 5 by decide), l, _, _, .int q, rfl, rfl, SqL.of upd_same, hq, ?_⟩⟩
      have c1 : 0 ≤ c + 1 ∧ c + 1 ≤ 1000001 := by omega
      obtain ⟨m0, m1⟩ := sq_small c1.1 c1.2
      refine ⟨_, rfl, p, _, _, _, rfl, rfl, SqL.of hp2, rfl, _, rfl, p, _, _, _, rfl, rfl, SqL.of hp2, rfl, _, _, rfl, rfl, .inl (by omega), _, rfl, p, _, _, _, rfl, rfl, SqL.of hp2, rfl, _, _, rfl, rfl, .inl (by omega), _, _, rfl, rfl, _, _, rfl, rfl, .inl ⟨_, rfl, ?_⟩⟩
      refine ⟨_, _, rfl, rfl, ⟨by decide, by decide, by omega⟩, .inl ⟨_, rfl, _, rfl, _, _, rfl, rfl, q0.1, ?_⟩⟩
      generalize hz : (b + 98307 * (c + 1) * (c + 1) + 709) ^ (3 : Int).toNat % q = z
      have z0 : 0 ≤ z ∧ z < q := hz ▸ ⟨Int.emod_nonneg _ (by omega), Int.emod_lt_of_pos _ q0.1⟩
      refine ⟨_, rfl, _, rfl, .inl ⟨_, rfl, _, _, rfl, rfl, (show (0 : Int) < 10365 by decide), ?_⟩⟩
      refine ⟨_, rfl, p, _, _, _, rfl, rfl, SqL.of hp2, rfl, _, _, rfl, rfl, .inl (by omega), _, _, rfl, rfl, _, _, rfl, rfl, .inl (by omega), .inl ⟨_, rfl, _, _, rfl, rfl, (show (0 : Int) < 2305843009213693907 by decide), ?_⟩⟩
      generalize (z * (z % 10365 + 193 * (c + 1))) % 2305843009213693907 = y
      refine ⟨_, rfl, _, _, rfl, rfl, ⟨by decide, by decide⟩, .inl ⟨_, rfl, _, rfl, _, _, rfl, rfl, hu0, ?_⟩⟩
      have ba := (bs.pot (o := .lst [.int a, .int b, .int (c + 1)])).new (a := l) (o := .lst [V.int 2147483647, V.int 2147483629, V.int 2147483587, V.int 2147483579, V.int 2147483563]) (fun z => by rw [hp1] at z; cases z) hl
      exact k _ _ _ (Int.emod_nonneg _ (by omega)) (Int.emod_lt_of_pos _ hu0) ba.2.1 ba.1 ⟨a, b, c + 1, hp2, ha, hb, hb2, by omega, by omega, hn1⟩
end
end Ct

namespace Ct
open PySem PySem.Spec PyProof.Rows L2 TL
abbrev s_l_of : Stmt := top 48
abbrev N_l_of : List Str := ["pot", "some"]
theorem sc_l_of : FnScope N_l_of ["pot", "some"] (defScope s_l_of) := ⟨rfl, rfl, rfl, by decide +kernel, rfl, by decide +kernel, by decide +kernel⟩
abbrev s_l_some : Stmt := top 49
abbrev N_l_some : List Str := ["pot", "pool", "many", "rests", "found", "lap"]
theorem sc_l_some : FnScope N_l_some ["pot", "pool", "many"] (defScope s_l_some) := ⟨rfl, rfl, rfl, by decide +kernel, rfl, by decide +kernel, by decide +kernel⟩
/-- an object that H tracks, told beside the fixed ones -/
theorem Beside.add {p a : Addr} {G H : Hp} {o : HO} (b : Beside p G H) (ga : G a = none) (ap : p ≠ a) (ha : H a = some o) : Beside p (upd G a o) H := ⟨by rw [upd_ne ap]; exact b.out, fun c z e => by
  by_cases q : c = a
  · subst q
    rw [upd_same] at e
    exact e ▸ ha
  · rw [upd_ne q] at e
    exact b.sub _ _ e⟩
theorem Beside.back {p : Addr} {G G' H : Hp} (b : Beside p G' H) (s : Same G G') : Beside p G H := ⟨s.free b.out, fun c z e => b.sub _ _ (s _ _ e)⟩
theorem perm_take {α : Type} : ∀ (k : Nat) (l : List α) (y : α), l[k]? = some y → (y :: l.eraseIdx k).Perm l
  | 0, [], _, h => by simp at h
  | 0, z :: l, y, h => by
    simp at h
    subst h
    exact .refl _
  | k + 1, [], _, h => by simp at h
  | k + 1, z :: l, y, h => by
    have r := perm_take k l y (by simpa using h)
    show (y :: z :: l.eraseIdx k).Perm (z :: l)
    exact (List.Perm.swap z y _).trans (r.cons z)
theorem perm_move {α : Type} {k : Nat} {ys rs xs : List α} {y : α} (h : rs[k]? = some y) (q : (ys ++ rs).Perm xs) : ((ys ++ [y]) ++ rs.eraseIdx k).Perm xs := by
  rw [List.append_assoc]
  exact ((perm_take k rs y h).append_left ys).trans q
/-- a change of what is not fixed -/
theorem Beside.drop {p a : Addr} {G H : Hp} {o : HO} (b : Beside p G H) (ga : G a = none) : Beside p G (upd H a o) := ⟨b.out, fun c z e => by
  rw [upd_ne (ne_of_none e ga)]
  exact b.sub _ _ e⟩
theorem PotAt.past {p a : Addr} {H : Hp} {n : Nat} {o : HO} (h : PotAt p H n) (ha : p ≠ a) : PotAt p (upd H a o) n := by
  obtain ⟨x, y, z, e, r⟩ := h
  exact ⟨x, y, z, by rw [upd_ne ha]; exact e, r⟩
theorem seqIndex_nat {j n : Nat} (h : j < n) : seqIndex? (j : Int) n = some j := by
  have e : ¬ ((j : Int) < 0) := by omega
  unfold seqIndex?
  simp only [if_neg e]
  rw [if_pos (by simp; omega)]
  simp
/-- some[take]: one of the items -/
def spOf (K : PySem.W.Frag) : Sp := fun vs H Q _ => ∃ (p a : Addr) (G : Hp) (n : Nat) (xs : List V), vs = [.ref p, .ref a] ∧ Beside p G H ∧ PotAt p H n ∧ n + 1 ≤ 1000000 ∧ SqL K G a xs ∧ 0 < xs.length ∧ xs.length < 1000000 ∧
  ∀ (i : Nat) (v : V) (G' H' : Hp), xs[i]? = some v → Same G G' → Beside p G' H' → PotAt p H' (n + 1) → Q v H'
/-- many of the pool's items, each place once at most -/
def spSome (K : PySem.W.Frag) : Sp := fun vs H Q _ => ∃ (p a : Addr) (G : Hp) (n m : Nat) (xs : List V), vs = [.ref p, .ref a, .int m] ∧ Beside p G H ∧ PotAt p H n ∧ n + m ≤ 1000000 ∧ SqL K G a xs ∧ m ≤ xs.length ∧ xs.length < 1000000 ∧
  ∀ (ys rs : List V) (l : Addr) (G' H' : Hp), (ys ++ rs).Perm xs → ys.length = m → Same G G' → Beside p G' H' → PotAt p H' (n + m) → G' l = some (.lst ys) → G l = none → Q (.ref l) H'
section
variable {P : Program} {w : World} {K : PySem.W.Frag} {mg : Str → Option Value} {base : Heap}
theorem k_of (D : Lies K mg "_law_of" s_l_of) (T : Plain mg) (G_l_take : Keeps P w K mg base 1 "_law_take" ["pot", "upto"] spTake) : Keeps P w K mg base 2 "_law_of" ["pot", "some"] (spOf K) := by
  refine D.keeps sc_l_of (fun _ _ _ _ _ _ us hl => match us, hl with | [_, _], _ => rfl) (fun vs H Q E h => ?_) (fun f cdv A outer s H vs Q E hr h => ?_)
  · obtain ⟨p, a, G, n, xs, rfl, _⟩ := h
    rfl
  · obtain ⟨p, a, G, n, xs, rfl, bs, ht, hn, hS, h0, h1, k⟩ := h
    refine ⟨_, (pss_one (ps_ret (pe_ix ix_list (pv 1) (pe_go G_l_take (hr.mono (by decide)) rfl (pa_cons (pv 0) (pa_cons (pe_callB call_len_seq (by rfl) T.n_len b_len (pa_cons (pv 1) pa_nil)) pa_nil))) (fun _ _ => rfl)))), ?_⟩
    refine ⟨_, rfl, _, rfl, _, rfl, a, _, rfl, .inl (bs.sub.seq hS), p, G, n, _, rfl, bs, ht, hn, by omega, by omega, fun d G' H' d0 d1 s' b' t' => ?_⟩
    obtain ⟨j, rfl⟩ := Int.eq_ofNat_of_zero_le d0
    have hj : j < xs.length := by omega
    exact ⟨a, _, _, xs[j], rfl, rfl, b'.sub.seq (s'.seq hS), atI_nat (by simp [hj]), k j _ G' H' (by simp [hj]) s' b' t'⟩
theorem k_some (D : Lies K mg "_law_some" s_l_some) (T : Plain mg) (G_l_take : Keeps P w K mg base 1 "_law_take" ["pot", "upto"] spTake) : Keeps P w K mg base 2 "_law_some" ["pot", "pool", "many"] (spSome K) := by
  refine D.keeps sc_l_some (fun _ _ _ _ _ _ us hl => match us, hl with | [_, _, _], _ => rfl) (fun vs H Q E h => ?_) (fun f cdv A outer s H vs Q E hr h => ?_)
  · obtain ⟨p, a, G, n, m, xs, rfl, _⟩ := h
    rfl
  · obtain ⟨p, a, G, n, m, xs, rfl, bs, ht, hn, hS, h0, h1, k⟩ := h
    refine ⟨_, (pss_cons (ps_par (i := 3) (j := 4) (by rfl) sc_l_some.nd rfl rfl (by decide) rfl rfl (pa_cons (pe_callTy call_list_of (by rfl) T.n_list b_list (pa_cons (pv 1) pa_nil)) (pa_cons (pe_lst pa_nil) pa_nil)) (by rfl))
      (pss_cons (ps_for PassesOwn.never rfl (pi_range1 rfl T.n_range (pa_cons (pv 2) pa_nil)) (pg_name (i := 5) sc_l_some.nd rfl (Or.inl rfl))
        (pss_one (ps_expr (pe_bm PySem.F.plainAttrs_list PySem.F.slot_list_append PySem.F.type_list_append mt_append (pv 4) (pa_cons (pe_bm PySem.F.plainAttrs_list PySem.F.slot_list_pop PySem.F.type_list_pop mt_popAt (pv 3) (pa_cons (pe_go G_l_take (hr.mono (by decide)) rfl (pa_cons (pv 0) (pa_cons (pe_callB call_len_seq (by rfl) T.n_len b_len (pa_cons (pv 3) pa_nil)) pa_nil))) pa_nil)) pa_nil)))))
      (pss_one (ps_ret (pv 4))))), ?_⟩
    refine ⟨_, rfl, a, _, rfl, .inl (bs.sub.seq hS), fun r hr0 => ?_⟩
    refine ⟨Nat.zero_le _, fun g hg0 => ⟨_, _, rfl, ?_⟩⟩
    have hpp := ht.some
    have gr : G r = none := bs.sub.free hr0
    have npr : p ≠ r := fun z => hpp (z ▸ hr0)
    have nrg : r ≠ g := ne_of_none upd_same hg0
    have hg1 : H g = none := by rw [upd_ne nrg.symm] at hg0; exact hg0
    have gg : G g = none := bs.sub.free hg1
    have npg : p ≠ g := fun z => hpp (z ▸ hg1)
    have b1 := (bs.new (o := .lst xs) hpp hr0)
    have b2 := (b1.1.new (o := .lst []) (by rw [upd_ne npr]; exact hpp) hg0)
    refine ⟨_, rfl, _, rfl, by omega, by omega, for_range (lo := 0) (n := m) (fun i σ H' => ∃ (rs ys : List V) (v : Option V), σ = [some (.ref p), some (.ref a), some (.int m), some (.ref r), some (.ref g), v] ∧ (ys ++ rs).Perm xs ∧ ys.length = i ∧
      Beside p G H' ∧ PotAt p H' (n + i) ∧ H' r = some (.lst rs) ∧ H' g = some (.lst ys)) ⟨xs, [], none, rfl, .refl _, rfl, b2.1.back (b1.2.1.trans b2.2.1), (ht.new hr0).new hg0, by rw [upd_ne nrg]; exact upd_same, upd_same⟩ ?_ ?_⟩
    · rintro i σ H1 hi ⟨rs, ys, v, rfl, q, ei, bs1, ht1, h1r, h1g⟩
      have hlen : ys.length + rs.length = xs.length := by rw [← List.length_append]; exact q.length_eq
      refine ⟨_, rfl, .inl ⟨rfl, _, SqL.of h1g⟩, _, rfl, .inl ⟨rfl, _, SqL.of h1r⟩, _, rfl, _, rfl, r, _, rfl, .inl (SqL.of h1r), ?_⟩
      have a1 := bs1.add gr npr h1r
      have a2 := a1.add (a := g) (by rw [upd_ne nrg.symm]; exact gg) npg h1g
      refine ⟨p, _, n + i, _, rfl, a2, ht1, by omega, by omega, by omega, fun d G' H' d0 d1 s' b' t' => ?_⟩
      obtain ⟨j, rfl⟩ := Int.eq_ofNat_of_zero_le d0
      have hj : j < rs.length := by omega
      have h2r : H' r = some (.lst rs) := b'.sub _ _ (s' _ _ (by rw [upd_ne nrg]; exact upd_same))
      have h2g : H' g = some (.lst ys) := b'.sub _ _ (s' _ _ upd_same)
      refine ⟨r, rs, _, j, rs[j], rfl, rfl, h2r, by omega, by omega, seqIndex_nat hj, by simp [hj], g, ys, _, rfl, rfl, ?_⟩
      refine ⟨by rw [upd_ne nrg.symm]; exact h2g, by show ys.length < 16777216; omega, ?_⟩
      have bs2 : Beside p G H' := b'.back (((same_upd gr).trans (same_upd (by rw [upd_ne nrg.symm]; exact gg))).trans s')
      refine ⟨rs.eraseIdx j, ys ++ [rs[j]], _, rfl, perm_move (by simp [hj]) q, by simp [ei], ?_, ?_, by rw [upd_ne nrg]; exact upd_same, upd_same⟩
      · exact (bs2.drop gr).drop gg
      · exact (t'.past npr).past npg
    · rintro σ H1 ⟨rs, ys, v, rfl, q, ei, bs1, ht1, h1r, h1g⟩
      exact ⟨_, rfl, k ys rs g _ H1 q ei (same_upd gg) (bs1.add gg npg h1g) ht1 upd_same gg⟩
end
end Ct

/-! The data: drawn circuits, how they lie in a heap, their text. -/
namespace Ct
open PySem PySem.Spec PyProof.Rows L2 TL
structure Own where
  sources : List (Str × Int × Int)
  parts : List (Str × Int × Int)
  joinings : List (Str × List (Str × Str × Str))
section
variable (K : PySem.W.Frag) (G : Hp)
def FrAt (v : V) (f : Int × Int) : Prop := ∃ t, v = .ref t ∧ SqT K G t [.int f.1, .int f.2]
def EntAt (v : V) (e : Str × Int × Int) : Prop := ∃ t u, v = .ref t ∧ SqT K G t [.str e.1, u] ∧ FrAt K G u e.2
def TieAt (v : V) (e : Str × Str × Str) : Prop := ∃ t, v = .ref t ∧ SqT K G t [.str e.1, .str e.2.1, .str e.2.2]
def LsAt {β : Type} (R : V → β → Prop) (v : V) (es : List β) : Prop := ∃ a vs, v = .ref a ∧ SqL K G a vs ∧ Paired R vs es
def TpAt {β : Type} (R : V → β → Prop) (v : V) (es : List β) : Prop := ∃ a vs, v = .ref a ∧ SqT K G a vs ∧ Paired R vs es
def JoiAt (v : V) (e : Str × List (Str × Str × Str)) : Prop := ∃ t l, v = .ref t ∧ SqT K G t [.str e.1, l] ∧ LsAt K G (TieAt K G) l e.2
def StrV (v : V) (x : Str) : Prop := v = .str x
def kvs3 (s p j : V) : List (Key × V) := [(.inr "sources", s), (.inr "parts", p), (.inr "joinings", j)]
def OwnAt (v : V) (o : Own) : Prop := ∃ d s p j, v = .ref d ∧ G d = some (.dK (kvs3 s p j)) ∧ LsAt K G (EntAt K G) s o.sources ∧ LsAt K G (EntAt K G) p o.parts ∧ LsAt K G (JoiAt K G) j o.joinings
end
section
variable {K : PySem.W.Frag} {G H : Hp}
theorem SqT.same {a : Addr} {xs : List V} (s : Same G H) (h : SqT K G a xs) : SqT K H a xs := by
  rcases h with (h | ⟨o, h⟩) | h
  · exact .inl (.inl (s _ _ h))
  · exact .inl (.inr ⟨o, s _ _ h⟩)
  · exact .inr h
theorem FrAt.same (s : Same G H) {v : V} {f : Int × Int} : FrAt K G v f → FrAt K H v f := fun ⟨t, e, h⟩ => ⟨t, e, SqT.same s h⟩
theorem EntAt.same (s : Same G H) {v : V} {e : Str × Int × Int} : EntAt K G v e → EntAt K H v e := fun ⟨t, u, e, h, f⟩ => ⟨t, u, e, SqT.same s h, f.same s⟩
theorem TieAt.same (s : Same G H) {v : V} {e : Str × Str × Str} : TieAt K G v e → TieAt K H v e := fun ⟨t, e, h⟩ => ⟨t, e, SqT.same s h⟩
theorem LsAt.same {β : Type} {R R' : V → β → Prop} (s : Same G H) (m : ∀ v b, R v b → R' v b) {v : V} {es : List β} : LsAt K G R v es → LsAt K H R' v es := fun ⟨a, vs, e, h, p⟩ => ⟨a, vs, e, Same.seq s h, p.mono m⟩
theorem TpAt.same {β : Type} {R R' : V → β → Prop} (s : Same G H) (m : ∀ v b, R v b → R' v b) {v : V} {es : List β} : TpAt K G R v es → TpAt K H R' v es := fun ⟨a, vs, e, h, p⟩ => ⟨a, vs, e, SqT.same s h, p.mono m⟩
theorem JoiAt.same (s : Same G H) {v : V} {e : Str × List (Str × Str × Str)} : JoiAt K G v e → JoiAt K H v e := fun ⟨t, l, e, h, q⟩ => ⟨t, l, e, SqT.same s h, q.same s fun _ _ => TieAt.same s⟩
theorem OwnAt.same (s : Same G H) {v : V} {o : Own} : OwnAt K G v o → OwnAt K H v o := fun ⟨d, a, b, c, e, h, h1, h2, h3⟩ =>
  ⟨d, a, b, c, e, s _ _ h, h1.same s fun _ _ => EntAt.same s, h2.same s fun _ _ => EntAt.same s, h3.same s fun _ _ => JoiAt.same s⟩
theorem Paired.at {α β : Type} {F : α → β → Prop} : ∀ {xs : List α} {ys : List β}, Paired F xs ys → ∀ {i : Nat} {x : α}, xs[i]? = some x → ∃ y, ys[i]? = some y ∧ F x y
  | _, _, .nil, i, x, h => by simp at h
  | _, _, .cons (b := b) f r, 0, x, h => ⟨b, by simp, by simp at h; exact h ▸ f⟩
  | _, _, .cons f r, i + 1, x, h => by
    obtain ⟨y, h1, h2⟩ := Paired.at r (i := i) (x := x) (by simpa using h)
    exact ⟨y, by simpa using h1, h2⟩
/-- a list's own change is none of a tuple's -/
theorem SqT.list {D a : Addr} {xs acc acc' : List V} (hD : H D = some (.lst acc)) (h : SqT K H a xs) : SqT K (upd H D (.lst acc')) a xs := by
  rcases h with (h | ⟨o, h⟩) | h
  · refine .inl (.inl ?_)
    rw [upd_ne (ne_of h hD (by intro z; cases z))]
    exact h
  · refine .inl (.inr ⟨o, ?_⟩)
    rw [upd_ne (ne_of h hD (by intro z; cases z))]
    exact h
  · exact .inr h
/-- nor is a dict's -/
theorem SqT.dict {D a : Addr} {xs : List V} {k k' : List (Key × V)} (hD : H D = some (.dK k)) (h : SqT K H a xs) : SqT K (upd H D (.dK k')) a xs := by
  rcases h with (h | ⟨o, h⟩) | h
  · refine .inl (.inl ?_)
    rw [upd_ne (ne_of h hD (by intro z; cases z))]
    exact h
  · refine .inl (.inr ⟨o, ?_⟩)
    rw [upd_ne (ne_of h hD (by intro z; cases z))]
    exact h
  · exact .inr h
theorem FrAt.dict {D : Addr} {k k' : List (Key × V)} (hD : H D = some (.dK k)) {v : V} {f : Int × Int} : FrAt K H v f → FrAt K (upd H D (.dK k')) v f := fun ⟨t, e, h⟩ => ⟨t, e, SqT.dict hD h⟩
theorem EntAt.dict {D : Addr} {k k' : List (Key × V)} (hD : H D = some (.dK k)) {v : V} {f : Str × Int × Int} : EntAt K H v f → EntAt K (upd H D (.dK k')) v f := fun ⟨t, u, e, h, q⟩ => ⟨t, u, e, SqT.dict hD h, q.dict hD⟩
theorem FrAt.list {D : Addr} {acc acc' : List V} (hD : H D = some (.lst acc)) {v : V} {f : Int × Int} : FrAt K H v f → FrAt K (upd H D (.lst acc')) v f := fun ⟨t, e, h⟩ => ⟨t, e, SqT.list hD h⟩
theorem EntAt.list {D : Addr} {acc acc' : List V} (hD : H D = some (.lst acc)) {v : V} {f : Str × Int × Int} : EntAt K H v f → EntAt K (upd H D (.lst acc')) v f := fun ⟨t, u, e, h, q⟩ => ⟨t, u, e, SqT.list hD h, q.list hD⟩
theorem TieAt.list {D : Addr} {acc acc' : List V} (hD : H D = some (.lst acc)) {v : V} {f : Str × Str × Str} : TieAt K H v f → TieAt K (upd H D (.lst acc')) v f := fun ⟨t, e, h⟩ => ⟨t, e, SqT.list hD h⟩
end
/-! ### a comprehension whose element draws nothing -/
section
variable {K : PySem.W.Frag} {β γ : Type}
theorem take_snoc {es : List β} {i : Nat} {e : β} (h : es[i]? = some e) : es.take (i + 1) = es.take i ++ [e] := by
  rw [List.take_succ, h]
  rfl
theorem comp_pure {a : Addr} {xs : List V} {es : List β} {R : V → β → Prop} {R' : Hp → V → γ → Prop} {f : β → γ} {tl : TE} {g : TG} {te : TE} {vs : List Nat} {σ : L2.St} {H H1 : Hp} {Q : VK}
    (hl : ∀ R : VK, R (.ref a) H1 → tl σ H R) (hS : SqL K H1 a xs) (pr : Paired R xs es) (hz : xs.length < 1000000)
    (mono : ∀ {H H' : Hp}, Same H H' → ∀ v c, R' H v c → R' H' v c) (stab : ∀ {H : Hp} {D : Addr} {acc : List V} (acc' : List V), H D = some (.lst acc) → ∀ v c, R' H v c → R' (upd H D (.lst acc')) v c)
    (turn : ∀ x e H (Z : VK), R x e → e ∈ es → Same H1 H → (∀ y H4, Same H H4 → R' H4 y (f e) → Z y H4) → g x (wipe σ vs) H fun σ2 H2 => wipe σ2 vs = wipe σ vs ∧ te σ2 H2 Z)
    (hd : ∀ H' D acc, H1 D = none → Same H1 H' → H' D = some (.lst acc) → Paired (R' H') acc (es.map f) → Q (.ref D) H') : tLc (iList K tl) g tYes te vs σ H Q := by
  refine hl _ ⟨a, rfl, ⟨_, hS⟩, fun D hD => lc_list (xs := xs) (fun i H' => ∃ acc, H' D = some (.lst acc) ∧ Paired (R' H') acc ((es.take i).map f) ∧ Same H1 H') ⟨[], upd_same, .nil, same_upd hD⟩
    (fun i H' _ ⟨_, _, _, s⟩ => Same.seq s hS) (fun i x H' hx ⟨acc, h1, h2, s⟩ => ?_) fun H' ⟨acc, h1, h2, s⟩ => ?_⟩
  · obtain ⟨e, he, r⟩ := Paired.at pr hx
    simp only [tYes, if_true]
    refine turn x e H' _ r (List.mem_of_getElem? he) s (fun y H4 s4 r4 => ⟨acc, s4 _ _ h1, ?_, acc ++ [y], upd_same, ?_, ?_⟩)
    · have l1 := h2.length
      have l2 := pr.length
      have l3 := (List.getElem?_eq_some_iff.mp hx).1
      rw [List.length_map, List.length_take] at l1
      show acc.length < 16777216
      omega
    · rw [take_snoc he, List.map_append]
      exact (h2.mono fun v c q => stab _ (s4 _ _ h1) v c (mono s4 v c q)).snoc (stab _ (s4 _ _ h1) _ _ r4)
    · exact fun b o z => by
        have nb : b ≠ D := ne_of_none z hD
        rw [upd_ne nb]
        exact s4 _ _ (s _ _ z)
  · rw [show es.take xs.length = es by rw [pr.length, List.take_length]] at h2
    exact hd H' D acc hD s h1 h2
end
end Ct
namespace Ct
open PySem PySem.Spec PyProof.Rows L2 TL
/-! ### what is drawn, and its text -/
def Name (x : Str) : Prop := 1 ≤ x.length ∧ x.length ≤ 6 ∧ (∀ c ∈ tl x, 97 ≤ c ∧ c ≤ 122) ∧ x ≠ "gnd"
def Junc (x : Str) : Prop := x = "gnd" ∨ Name x
def FrOk (f : Int × Int) : Prop := 0 < f.2 ∧ Int.gcd f.1 f.2 = 1 ∧ f.1.natAbs < 2 ^ 1000 ∧ f.2.natAbs < 2 ^ 1000
structure JoiOk (ps : List Str) (j : Str × List (Str × Str × Str)) : Prop where
  name : Name j.1
  few : j.2.length ≤ 8
  once : (j.2.map (·.1)).Nodup
  tie : ∀ t ∈ j.2, t.1 ∈ ps ∧ Junc t.2.1 ∧ Junc t.2.2
structure OwnOk (o : Own) : Prop where
  s_few : o.sources.length ≤ 4
  p_some : 1 ≤ o.parts.length
  p_few : o.parts.length ≤ 8
  j_some : 1 ≤ o.joinings.length
  j_few : o.joinings.length ≤ 6
  src : ∀ e ∈ o.sources, Name e.1 ∧ FrOk e.2
  prt : ∀ e ∈ o.parts, Name e.1 ∧ FrOk e.2 ∧ 0 < e.2.1
  s_once : (o.sources.map (·.1)).Nodup
  p_once : (o.parts.map (·.1)).Nodup
  j_once : (o.joinings.map (·.1)).Nodup
  joi : ∀ j ∈ o.joinings, JoiOk (o.parts.map (·.1)) j
def numText (i : Int) : Str := Str.ofString (toString i)
def fracText (f : Int × Int) : Str := if f.2 = 1 then numText f.1 else numText f.1 ++ "/" ++ numText f.2
def entLine (w : Str) (e : Str × Int × Int) : Str := w ++ e.1 ++ " " ++ fracText e.2
def tieLine (t : Str × Str × Str) : Str := "tie " ++ Txt.join " " [t.1, t.2.1, t.2.2]
def joiLine (x : Str) : Str := "joining " ++ x
def joiRows (j : Str × List (Str × Str × Str)) : List Str := joiLine j.1 :: j.2.map tieLine
def rowsOf (o : Own) : List Str := "circuit" :: (o.sources.map (entLine "source ") ++ o.parts.map (entLine "part ") ++ o.joinings.flatMap joiRows)
def textOf (o : Own) : Str := Txt.join "\n" (rowsOf o)
theorem num_len {i : Int} (h : i.natAbs < 2 ^ 1000) : (numText i).length ≤ 1921 := int_text_len_1921 (log_of h)
theorem frac_len {f : Int × Int} (h1 : f.1.natAbs < 2 ^ 1000) (h2 : f.2.natAbs < 2 ^ 1000) : (fracText f).length ≤ 3850 := by
  have a := num_len h1
  have b := num_len h2
  have c : ("/" : Str).length = 1 := by decide +kernel
  unfold fracText
  split
  · omega
  · rw [len_app, len_app]
    omega
theorem ent_len {w : Str} {e : Str × Int × Int} (hw : w.length ≤ 8) (h : Name e.1 ∧ FrOk e.2) : (w ++ e.1 ++ " ").length ≤ 15 ∧ (entLine w e).length ≤ 3900 := by
  have a := frac_len h.2.2.2.1 h.2.2.2.2
  have b := h.1.2.1
  have c : (" " : Str).length = 1 := by decide +kernel
  unfold entLine
  simp only [len_app]
  omega
theorem sum_le {B : Nat} : ∀ {ys : List Str}, (∀ y ∈ ys, y.length ≤ B) → (ys.map (·.length)).sum ≤ ys.length * B
  | [], _ => by simp
  | y :: ys, h => by
    have a := h y (by simp)
    have b := sum_le (B := B) (ys := ys) fun z hz => h z (by simp [hz])
    rw [List.map_cons, List.sum_cons, List.length_cons, Nat.add_mul]
    omega
theorem flat_len {β : Type} {B : Nat} {f : β → List Str} : ∀ {l : List β}, (∀ x ∈ l, (f x).length ≤ B) → (l.flatMap f).length ≤ l.length * B
  | [], _ => by simp
  | x :: l, h => by
    have a := h x (by simp)
    have b := flat_len (B := B) (f := f) (l := l) fun y hy => h y (by simp [hy])
    rw [List.flatMap_cons, List.length_append, List.length_cons, Nat.add_mul]
    omega
theorem strs_are : ∀ {vs : List V} {xs : List Str}, Paired StrV vs xs → vs = xs.map V.str
  | _, _, .nil => rfl
  | _, _, .cons e r => by
    rw [strs_are r, List.map_cons]
    exact congrArg (· :: _) e
theorem strs_pair : ∀ (xs : List Str), Paired StrV (xs.map V.str) xs
  | [] => .nil
  | x :: xs => .cons rfl (strs_pair xs)
theorem n_sp : ¬ ("parts" : Str) = "sources" := by decide +kernel
theorem n_js : ¬ ("joinings" : Str) = "sources" := by decide +kernel
theorem n_jp : ¬ ("joinings" : Str) = "parts" := by decide +kernel
theorem n_ps : ¬ ("sources" : Str) = "parts" := by decide +kernel
theorem n_sj : ¬ ("sources" : Str) = "joinings" := by decide +kernel
theorem n_pj : ¬ ("parts" : Str) = "joinings" := by decide +kernel
theorem val_s (s p j : V) : valV (kvs3 s p j) (.inr "sources") = some s := by
  unfold valV kvs3
  simp
theorem val_p (s p j : V) : valV (kvs3 s p j) (.inr "parts") = some p := by
  unfold valV kvs3
  simp [n_ps, n_sp]
theorem val_j (s p j : V) : valV (kvs3 s p j) (.inr "joinings") = some j := by
  unfold valV kvs3
  simp [n_sj, n_pj]
theorem get_s {H : Hp} {d : Addr} {s p j : V} (h : H d = some (.dK (kvs3 s p j))) : DGet H d (.str "sources") (some s) := .inl ⟨_, .inr "sources", .inl h, rfl, (val_s s p j).symm⟩
theorem get_p {H : Hp} {d : Addr} {s p j : V} (h : H d = some (.dK (kvs3 s p j))) : DGet H d (.str "parts") (some p) := .inl ⟨_, .inr "parts", .inl h, rfl, (val_p s p j).symm⟩
theorem get_j {H : Hp} {d : Addr} {s p j : V} (h : H d = some (.dK (kvs3 s p j))) : DGet H d (.str "joinings") (some j) := .inl ⟨_, .inr "joinings", .inl h, rfl, (val_j s p j).symm⟩
end Ct
namespace Ct
open PySem PySem.Spec PyProof.Rows L2 TL
/-! ### comprehensions that draw -/
/-- what is told of all but one object -/
def hide (F : Addr) (G : Hp) : Hp := fun b => if b = F then none else G b
theorem hide_ne {F b : Addr} {G : Hp} (h : b ≠ F) : hide F G b = G b := if_neg h
theorem hide_at {F : Addr} {G : Hp} : hide F G F = none := if_pos rfl
theorem same_hide {F : Addr} {G H : Hp} (s : Same G H) (h : G F = none) : Same G (hide F H) := fun b z e => by
  rw [hide_ne (ne_of_none e h)]
  exact s _ _ e
theorem hide_same {F : Addr} {G : Hp} : Same (hide F G) G := fun b z e => by
  unfold hide at e
  split at e
  · cases e
  · exact e
theorem Beside.hide {p F : Addr} {G H : Hp} (b : Beside p G H) : Beside p (hide F G) H := ⟨by unfold Ct.hide; split; rfl; exact b.out, hide_same.trans b.sub⟩
theorem Beside.both {p D : Addr} {G H : Hp} {o : HO} (b : Beside p G H) (h : p ≠ D) : Beside p (upd G D o) (upd H D o) := ⟨by rw [upd_ne h]; exact b.out, fun c z e => by
  by_cases q : c = D
  · subst q
    rw [upd_same] at e ⊢
    exact e
  · rw [upd_ne q] at e ⊢
    exact b.sub _ _ e⟩
theorem same_but {G G' : Hp} {D : Addr} {o : HO} (s : Same G G') (h : G D = none) : Same G (upd G' D o) := fun b z e => by
  rw [upd_ne (ne_of_none e h)]
  exact s _ _ e
theorem SqT.hide {K : PySem.W.Frag} {G : Hp} {D a : Addr} {xs acc : List V} (hD : G D = some (.lst acc)) (h : SqT K G a xs) : SqT K (hide D G) a xs := by
  rcases h with (h | ⟨o, h⟩) | h
  · refine .inl (.inl ?_)
    rw [hide_ne (ne_of h hD (by intro z; cases z))]
    exact h
  · refine .inl (.inr ⟨o, ?_⟩)
    rw [hide_ne (ne_of h hD (by intro z; cases z))]
    exact h
  · exact .inr h
section
variable {K : PySem.W.Frag} {β γ : Type}
theorem comp_pot {p a : Addr} {n c : Nat} {xs : List V} {es : List β} {R : V → β → Prop} {R' : Hp → V → γ → Prop} {P : β → γ → Prop} {tl : TE} {g : TG} {te : TE} {vs : List Nat} {σ : L2.St} {G H : Hp} {Q : VK}
    (bs : Beside p G H) (ht : PotAt p H n) (hn : n + c * es.length ≤ 1000000)
    (hl : ∀ R : VK, R (.ref a) H → tl σ H R) (hS : SqL K G a xs) (pr : Paired R xs es) (hz : xs.length < 1000000)
    (mono : ∀ {H H' : Hp}, Same H H' → ∀ v c, R' H v c → R' H' v c) (stab : ∀ {H : Hp} {D : Addr} {acc : List V} (acc' : List V), H D = some (.lst acc) → ∀ v c, R' H v c → R' (upd H D (.lst acc')) v c)
    (turn : ∀ x e Gi Hi m (Z : VK), R x e → e ∈ es → Same G Gi → Beside p Gi Hi → PotAt p Hi m → m + c ≤ 1000000 →
      (∀ y e' G4 H4, Same Gi G4 → Beside p G4 H4 → PotAt p H4 (m + c) → R' G4 y e' → P e e' → Z y H4) → g x (wipe σ vs) Hi fun σ2 H2 => wipe σ2 vs = wipe σ vs ∧ te σ2 H2 Z)
    (hd : ∀ G' H' D acc fs, G D = none → Same G G' → Beside p G' H' → PotAt p H' (n + c * es.length) → G' D = some (.lst acc) → Paired (R' G') acc fs → Paired P es fs → Q (.ref D) H') : tLc (iList K tl) g tYes te vs σ H Q := by
  refine hl _ ⟨a, rfl, ⟨_, bs.sub.seq hS⟩, fun D hD => lc_list (xs := xs) (fun i H' => ∃ Gi acc fs, Same G Gi ∧ Beside p Gi H' ∧ PotAt p H' (n + c * i) ∧ Gi D = some (.lst acc) ∧ Paired (R' Gi) acc fs ∧ Paired P (es.take i) fs)
    ⟨_, [], [], (bs.new ht.some hD).2.1, (bs.new ht.some hD).1, ht.new hD, upd_same, .nil, .nil⟩
    (fun i H' _ ⟨_, _, _, s, b, _⟩ => b.sub.seq (s.seq hS)) (fun i x H' hx ⟨Gi, acc, fs, s, b, t, gD, h2, h3⟩ => ?_) fun H' ⟨Gi, acc, fs, s, b, t, gD, h2, h3⟩ => ?_⟩
  · obtain ⟨e, he, r⟩ := Paired.at pr hx
    have hi : i + 1 ≤ es.length := (List.getElem?_eq_some_iff.mp he).1
    have hm : c * (i + 1) ≤ c * es.length := Nat.mul_le_mul_left c hi
    rw [Nat.mul_add, Nat.mul_one] at hm
    have npD : p ≠ D := fun z => by
      have := b.out
      rw [z, gD] at this
      cases this
    have g0 : G D = none := bs.sub.free hD
    simp only [tYes, if_true]
    refine turn x e Gi H' (n + c * i) _ r (List.mem_of_getElem? he) s b t (by omega) (fun y e' G4 H4 s4 b4 t4 r4 p4 => ⟨acc, b4.sub _ _ (s4 _ _ gD), ?_, upd G4 D (.lst (acc ++ [y])), acc ++ [y], fs ++ [e'], same_but (s.trans s4) g0, b4.both npD, ?_, upd_same, ?_, ?_⟩)
    · have l1 := h2.length
      have l2 := pr.length
      have l3 := h3.length
      rw [List.length_take] at l3
      show acc.length < 16777216
      omega
    · have := t4.past (o := .lst (acc ++ [y])) npD
      rw [Nat.mul_add, Nat.mul_one, ← Nat.add_assoc]
      exact this
    · exact (h2.mono fun v c q => stab _ (s4 _ _ gD) v c (mono s4 v c q)).snoc (stab _ (s4 _ _ gD) _ _ r4)
    · rw [take_snoc he]
      exact h3.snoc p4
  · rw [pr.length] at t
    rw [show es.take xs.length = es by rw [pr.length, List.take_length]] at h3
    exact hd Gi H' D acc fs (bs.sub.free hD) s b t gD h2 h3
end
end Ct
namespace Ct
open PySem PySem.Spec PyProof.Rows L2 TL
/-! ### written lists of fractions -/
def tFr (f : Int × Int) : TE := tTup (tCons (tC (.int f.1)) (tCons (tC (.int f.2)) tNil))
def tFrs : List (Int × Int) → TA
  | [] => tNil
  | f :: r => tCons (tFr f) (tFrs r)
section
variable {K : PySem.W.Frag}
theorem frs_read {p : Addr} {n : Nat} {σ : L2.St} : ∀ (fs : List (Int × Int)) {G H : Hp} {Q : List V → Hp → Prop}, Beside p G H → PotAt p H n →
    (∀ vs G' H', Same G G' → Beside p G' H' → PotAt p H' n → Paired (FrAt K G') vs fs → Q vs H') → tFrs fs σ H Q
  | [], G, H, Q, b, t, h => h [] G H (Same.refl G) b t .nil
  | f :: r, G, H, Q, b, t, h => by
    refine ⟨by show 2 ≤ sizeLine; decide, fun a na => ?_⟩
    obtain ⟨b1, s1, g1⟩ := b.new (o := .tup [.int f.1, .int f.2]) t.some na
    exact frs_read r b1 (t.new na) fun vs G' H' s' b' t' pr => h _ G' H' (s1.trans s') b' t' (.cons ⟨a, rfl, SqT.of (s' _ _ upd_same)⟩ pr)
theorem lst_frs {p : Addr} {n : Nat} {σ : L2.St} (fs : List (Int × Int)) {G H : Hp} {Q : VK} (b : Beside p G H) (t : PotAt p H n) (hz : fs.length ≤ 1000)
    (h : ∀ l vs G' H', Same G G' → Beside p G' H' → PotAt p H' n → G' l = some (.lst vs) → Paired (FrAt K G') vs fs → Q (.ref l) H') : tLst (tFrs fs) σ H Q := by
  refine frs_read (K := K) fs b t fun vs G' H' s' b' t' pr => ⟨?_, fun l nl => ?_⟩
  · rw [pr.length]
    exact Nat.le_trans hz (by decide)
  · obtain ⟨b1, s1, g1⟩ := b'.new (o := .lst vs) t'.some nl
    exact h l vs _ _ (s'.trans s1) b1 (t'.new nl) upd_same (pr.mono fun v c q => q.same s1)
theorem TieAt.hide {G : Hp} {F : Addr} {acc : List V} (h : G F = some (.lst acc)) {v : V} {e : Str × Str × Str} : TieAt K G v e → TieAt K (hide F G) v e := fun ⟨t, e, q⟩ => ⟨t, e, SqT.hide h q⟩
end
end Ct
namespace Ct
open PySem PySem.Spec PyProof.Rows L2 TL
/-! ### more comprehensions: over a text, over a tuple -/
section
variable {K : PySem.W.Frag} {β γ : Type}
theorem comp_str {z : Str} {g : Nat → V} {tl : TE} {te : TE} {vs : List Nat} {i : Nat} {σ : L2.St} {H : Hp} {Q : VK} (hl : ∀ R : VK, R (.str z) H → tl σ H R) (hz : z.length < 1000000)
    (hw : ∀ c : Nat, wipe ((wipe σ vs).set i (some (.str ⟨#[c]⟩))) vs = wipe σ vs)
    (turn : ∀ c ∈ TL.tl z, ∀ (H : Hp) (Z : VK), Z (g c) H → te ((wipe σ vs).set i (some (.str ⟨#[c]⟩))) H Z)
    (hd : ∀ D, H D = none → Q (.ref D) (upd H D (.lst ((TL.tl z).map g)))) : tLc (iStr tl) (gName i) tYes te vs σ H Q := by
  refine hl _ ⟨z, rfl, fun D hD => lc_it walk_str (fun j H' => H' = upd H D (.lst (((TL.tl z).take j).map g))) rfl (fun _ _ _ _ => trivial) ?_ ?_⟩
  · rintro j H1 x H2 hj rfl ⟨rfl, c, hc, rfl⟩
    have hc2 : (TL.tl z)[j]? = some c := by simpa using hc
    simp only [tYes, if_true]
    refine ⟨hw c, turn c (List.mem_of_getElem? hc2) _ _ ⟨_, upd_same, ?_, ?_⟩⟩
    · rw [List.length_map, List.length_take]
      have := len_tl z
      show _ < 16777216
      omega
    · rw [upd_upd, take_snoc hc2, List.map_append]
      rfl
  · rintro H1 rfl
    have e : (TL.tl z).take z.cps.size = TL.tl z := List.take_of_length_le (by simp [TL.tl])
    rw [e]
    exact hd D hD
theorem comp_pureT {a : Addr} {xs : List V} {es : List β} {R : V → β → Prop} {R' : Hp → V → γ → Prop} {f : β → γ} {tl : TE} {g : TG} {te : TE} {vs : List Nat} {σ : L2.St} {H H1 : Hp} {Q : VK}
    (hl : ∀ R : VK, R (.ref a) H1 → tl σ H R) (hS : SqT K H1 a xs) (pr : Paired R xs es) (hz : xs.length < 1000000)
    (mono : ∀ {H H' : Hp}, Same H H' → ∀ v c, R' H v c → R' H' v c) (stab : ∀ {H : Hp} {D : Addr} {acc : List V} (acc' : List V), H D = some (.lst acc) → ∀ v c, R' H v c → R' (upd H D (.lst acc')) v c)
    (turn : ∀ x e H (Z : VK), R x e → e ∈ es → Same H1 H → (∀ y H4, Same H H4 → R' H4 y (f e) → Z y H4) → g x (wipe σ vs) H fun σ2 H2 => wipe σ2 vs = wipe σ vs ∧ te σ2 H2 Z)
    (hd : ∀ H' D acc, H1 D = none → Same H1 H' → H' D = some (.lst acc) → Paired (R' H') acc (es.map f) → Q (.ref D) H') : tLc (iTup K tl) g tYes te vs σ H Q := by
  refine hl _ ⟨a, rfl, ⟨_, hS⟩, fun D hD => lc_tup (xs := xs) (fun i H' => ∃ acc, H' D = some (.lst acc) ∧ Paired (R' H') acc ((es.take i).map f) ∧ Same H1 H') ⟨[], upd_same, .nil, same_upd hD⟩
    (fun i H' _ ⟨_, _, _, s⟩ => SqT.same s hS) (fun i x H' hx ⟨acc, h1, h2, s⟩ => ?_) fun H' ⟨acc, h1, h2, s⟩ => ?_⟩
  · obtain ⟨e, he, r⟩ := Paired.at pr hx
    simp only [tYes, if_true]
    refine turn x e H' _ r (List.mem_of_getElem? he) s (fun y H4 s4 r4 => ⟨acc, s4 _ _ h1, ?_, acc ++ [y], upd_same, ?_, ?_⟩)
    · have l1 := h2.length
      have l2 := pr.length
      have l3 := (List.getElem?_eq_some_iff.mp hx).1
      rw [List.length_map, List.length_take] at l1
      show acc.length < 16777216
      omega
    · rw [take_snoc he, List.map_append]
      exact (h2.mono fun v c q => stab _ (s4 _ _ h1) v c (mono s4 v c q)).snoc (stab _ (s4 _ _ h1) _ _ r4)
    · exact fun b o z => by
        have nb : b ≠ D := ne_of_none z hD
        rw [upd_ne nb]
        exact s4 _ _ (s _ _ z)
  · rw [show es.take xs.length = es by rw [pr.length, List.take_length]] at h2
    exact hd H' D acc hD s h1 h2
/-- a tuple that begins with this text -/
def HeadAt (K : PySem.W.Frag) (H : Hp) (v : V) (x : Str) : Prop := ∃ t r, v = .ref t ∧ SqT K H t (.str x :: r)
theorem HeadAt.ent {H : Hp} {v : V} {e : Str × Int × Int} : EntAt K H v e → HeadAt K H v e.1 := fun ⟨t, u, h1, h2, _⟩ => ⟨t, _, h1, h2⟩
theorem HeadAt.joi {H : Hp} {v : V} {e : Str × List (Str × Str × Str)} : JoiAt K H v e → HeadAt K H v e.1 := fun ⟨t, u, h1, h2, _⟩ => ⟨t, _, h1, h2⟩
theorem HeadAt.tie {H : Hp} {v : V} {e : Str × Str × Str} : TieAt K H v e → HeadAt K H v e.1 := fun ⟨t, h1, h2⟩ => ⟨t, _, h1, h2⟩
theorem heads {F : V → β → Prop} {H : Hp} {p : β → Str} : ∀ {vs : List V} {es : List β}, Paired F vs es → (∀ v e, F v e → HeadAt K H v (p e)) → Paired (HeadAt K H) vs (es.map p)
  | _, _, .nil, _ => .nil
  | _, _, .cons h r, k => .cons (k _ _ h) (heads r k)
theorem in_strs {x : Str} {xs : List Str} : inV (.str x) (xs.map V.str) = decide (x ∈ xs) := by
  unfold inV
  induction xs with
  | nil => rfl
  | cons y ys ih =>
    rw [List.map_cons, List.any_cons, ih]
    show (decide _ || _) = _
    by_cases h : y = x
    · subst h
      simp [eqV]
    · have h2 : ¬ x = y := fun z => h z.symm
      simp [eqV, h, h2]
theorem strs_flat (xs : List Str) : (xs.map V.str).all flatV = true := by
  rw [List.all_map]
  exact List.all_eq_true.mpr fun _ _ => rfl
end
end Ct
namespace Ct
open PySem PySem.Spec PyProof.Rows L2 TL
/-- a comprehension over the list of texts that a call hands back -/
theorem comp_call {K : PySem.W.Frag} {γ : Type} {es : List Str} {R' : Hp → V → γ → Prop} {f : Str → γ} {tl : TE} {g : TG} {te : TE} {vs : List Nat} {σ : L2.St} {H : Hp} {Q : VK}
    (hl : ∀ R : VK, (∀ l H1, Same H H1 → H l = none → H1 l = some (.lst (es.map V.str)) → R (.ref l) H1) → tl σ H R) (hz : es.length < 1000000)
    (mono : ∀ {H H' : Hp}, Same H H' → ∀ v c, R' H v c → R' H' v c) (stab : ∀ {H : Hp} {D : Addr} {acc : List V} (acc' : List V), H D = some (.lst acc) → ∀ v c, R' H v c → R' (upd H D (.lst acc')) v c)
    (turn : ∀ x e H1 (Z : VK), StrV x e → e ∈ es → Same H H1 → (∀ y H4, Same H1 H4 → R' H4 y (f e) → Z y H4) → g x (wipe σ vs) H1 fun σ2 H2 => wipe σ2 vs = wipe σ vs ∧ te σ2 H2 Z)
    (hd : ∀ H' D acc, H D = none → Same H H' → H' D = some (.lst acc) → Paired (R' H') acc (es.map f) → Q (.ref D) H') : tLc (iList K tl) g tYes te vs σ H Q := by
  refine hl _ fun l H1 s1 nl hl1 => ?_
  have go : tLc (iList K fun _ _ R => R (.ref l) H1) g tYes te vs σ H1 Q :=
    comp_pure (f := f) (R := StrV) (fun R r => r) (SqL.of hl1) (strs_pair es) (by rw [List.length_map]; exact hz) mono stab (fun x e H2 Z r he s2 hz => turn x e H2 Z r he (s1.trans s2) hz) fun H' D acc nD s' hD hp => hd H' D acc (s1.free nD) (s1.trans s') hD hp
  exact go
end Ct

/-! What the reader of circuits holds between two lines. -/
namespace Ct
open PySem PySem.Spec PyProof.Rows L2 TL
inductive Line
  | src (e : Str × Int × Int)
  | prt (e : Str × Int × Int)
  | joi (x : Str)
  | tie (t : Str × Str × Str)
def Line.words : Line → List Str
  | .src e => ["source", e.1, fracText e.2]
  | .prt e => ["part", e.1, fracText e.2]
  | .joi x => ["joining", x]
  | .tie t => ["tie", t.1, t.2.1, t.2.2]
def addTie (t : Str × Str × Str) : List (Str × List (Str × Str × Str)) → List (Str × List (Str × Str × Str))
  | [] => []
  | [(x, ts)] => [(x, ts ++ [t])]
  | j :: k :: r => j :: addTie t (k :: r)
theorem addTie_last (t : Str × Str × Str) (x : Str) (ts : List (Str × Str × Str)) : ∀ fr, addTie t (fr ++ [(x, ts)]) = fr ++ [(x, ts ++ [t])]
  | [] => rfl
  | [j] => rfl
  | j :: k :: r => by
    show j :: addTie t ((k :: r) ++ [(x, ts)]) = _
    rw [addTie_last t x ts (k :: r)]
    rfl
def Own.add (o : Own) : Line → Own
  | .src e => { o with sources := o.sources ++ [e] }
  | .prt e => { o with parts := o.parts ++ [e] }
  | .joi x => { o with joinings := o.joinings ++ [(x, [])] }
  | .tie t => { o with joinings := addTie t o.joinings }
def Fits (o : Own) : Line → Prop
  | .src e => o.parts = [] ∧ Name e.1 ∧ FrOk e.2 ∧ o.sources.length < 4 ∧ e.1 ∉ o.sources.map (·.1)
  | .prt e => o.joinings = [] ∧ Name e.1 ∧ FrOk e.2 ∧ 0 < e.2.1 ∧ o.parts.length < 8 ∧ e.1 ∉ o.parts.map (·.1)
  | .joi x => o.parts ≠ [] ∧ Name x ∧ o.joinings.length < 6 ∧ x ∉ o.joinings.map (·.1)
  | .tie t => ∃ fr x ts, o.joinings = fr ++ [(x, ts)] ∧ o.parts.length ≤ 8 ∧ ts.length < 8 ∧ t.1 ∈ o.parts.map (·.1) ∧ t.1 ∉ ts.map (·.1) ∧ Junc t.2.1 ∧ Junc t.2.2
section
variable (K : PySem.W.Frag) (G H : Hp) (s p j : Addr)
inductive JacAt : List V → List (Str × List (Str × Str × Str)) → Prop
  | nil : JacAt [] []
  | last {vF : List V} {fr : List (Str × List (Str × Str × Str))} {t l : Addr} {x : Str} {ts : List (Str × Str × Str)} {tv : List V} (front : Paired (JoiAt K G) vF fr) (ht : SqT K G t [.str x, .ref l]) (gl : G l = none)
      (ls : l ≠ s) (lp : l ≠ p) (lj : l ≠ j) (hl : H l = some (.lst tv)) (ties : Paired (TieAt K G) tv ts) : JacAt (vF ++ [.ref t]) (fr ++ [(x, ts)])
structure Acc (o : Own) : Prop where
  sub : Same G H
  gs : G s = none
  gp : G p = none
  gj : G j = none
  sp : s ≠ p
  sj : s ≠ j
  pj : p ≠ j
  src : ∃ vs, H s = some (.lst vs) ∧ Paired (EntAt K G) vs o.sources
  prt : ∃ vs, H p = some (.lst vs) ∧ Paired (EntAt K G) vs o.parts
  joi : ∃ vs, H j = some (.lst vs) ∧ JacAt K G H s p j vs o.joinings
end
section
variable {K : PySem.W.Frag} {G H : Hp} {s p j : Addr} {o : Own}
theorem JacAt.to {G' H' : Hp} {vs : List V} {js : List (Str × List (Str × Str × Str))} (h : JacAt K G H s p j vs js) (sg : Same G G') (keep : ∀ l tv, l ≠ s → l ≠ p → l ≠ j → G l = none → H l = some (.lst tv) → G' l = none ∧ H' l = some (.lst tv)) : JacAt K G' H' s p j vs js := by
  cases h with
  | nil => exact .nil
  | last front ht gl ls lp lj hl ties =>
    obtain ⟨a, b⟩ := keep _ _ ls lp lj gl hl
    exact .last (front.mono fun v c h => h.same sg) (SqT.same sg ht) a ls lp lj b (ties.mono fun v c h => h.same sg)
theorem JacAt.len {vs : List V} {js : List (Str × List (Str × Str × Str))} (h : JacAt K G H s p j vs js) : vs.length = js.length := by
  cases h with
  | nil => rfl
  | last front => rw [List.length_append, List.length_append, front.length]; rfl
/-- new things, nothing changed -/
theorem Acc.more {H' : Hp} (a : Acc K G H s p j o) (k : Same H H') : Acc K G H' s p j o where
  sub := a.sub.trans k
  gs := a.gs
  gp := a.gp
  gj := a.gj
  sp := a.sp
  sj := a.sj
  pj := a.pj
  src := let ⟨vs, h, r⟩ := a.src; ⟨vs, k _ _ h, r⟩
  prt := let ⟨vs, h, r⟩ := a.prt; ⟨vs, k _ _ h, r⟩
  joi := let ⟨vs, h, r⟩ := a.joi; ⟨vs, k _ _ h, r.to (Same.refl G) fun l tv _ _ _ g h => ⟨g, k _ _ h⟩⟩
/-- a tuple that lies there is fixed -/
theorem Acc.fix {t : Addr} {xs : List V} (a : Acc K G H s p j o) (ht : H t = some (.tup xs)) : Acc K (upd G t (.tup xs)) H s p j o ∧ Same G (upd G t (.tup xs)) := by
  have sg : Same G (upd G t (.tup xs)) := fun b z e => by
    by_cases q : b = t
    · subst q
      rw [upd_same]
      exact ht ▸ a.sub _ _ e
    · rw [upd_ne q]
      exact e
  have ne : ∀ {l : Addr} {tv : List V}, H l = some (.lst tv) → l ≠ t := fun h => ne_of h ht (by intro z; cases z)
  obtain ⟨v1, h1, r1⟩ := a.src
  obtain ⟨v2, h2, r2⟩ := a.prt
  obtain ⟨v3, h3, r3⟩ := a.joi
  refine ⟨⟨fun b z e => ?_, by rw [upd_ne (ne h1)]; exact a.gs, by rw [upd_ne (ne h2)]; exact a.gp, by rw [upd_ne (ne h3)]; exact a.gj, a.sp, a.sj, a.pj, ⟨v1, h1, r1.mono fun v c h => h.same sg⟩, ⟨v2, h2, r2.mono fun v c h => h.same sg⟩, ⟨v3, h3, r3.to sg fun l tv _ _ _ g h => ⟨by rw [upd_ne (ne h)]; exact g, h⟩⟩⟩, sg⟩
  by_cases q : b = t
  · subst q
    rw [upd_same] at e
    exact e ▸ ht
  · rw [upd_ne q] at e
    exact a.sub _ _ e
/-- a list that is none of the reader's is fixed -/
theorem Acc.fixL {t : Addr} {xs : List V} (a : Acc K G H s p j o) (ht : H t = none) : Acc K (upd G t (.lst xs)) (upd H t (.lst xs)) s p j o ∧ Same G (upd G t (.lst xs)) := by
  have gt : G t = none := a.sub.free ht
  have sg : Same G (upd G t (.lst xs)) := same_upd gt
  have sh : Same H (upd H t (.lst xs)) := same_upd ht
  have ne : ∀ {l : Addr} {z : HO}, H l = some z → l ≠ t := fun h => ne_of_none h ht
  obtain ⟨v1, h1, r1⟩ := a.src
  obtain ⟨v2, h2, r2⟩ := a.prt
  obtain ⟨v3, h3, r3⟩ := a.joi
  refine ⟨⟨fun b z e => ?_, by rw [upd_ne (ne h1)]; exact a.gs, by rw [upd_ne (ne h2)]; exact a.gp, by rw [upd_ne (ne h3)]; exact a.gj, a.sp, a.sj, a.pj, ⟨v1, sh _ _ h1, r1.mono fun v c h => h.same sg⟩, ⟨v2, sh _ _ h2, r2.mono fun v c h => h.same sg⟩, ⟨v3, sh _ _ h3, r3.to sg fun l tv _ _ _ g h => ⟨by rw [upd_ne (ne h)]; exact g, sh _ _ h⟩⟩⟩, sg⟩
  by_cases q : b = t
  · subst q
    rw [upd_same] at e ⊢
    exact e
  · rw [upd_ne q] at e ⊢
    exact a.sub _ _ e
theorem Same.away {D : Addr} {ob : HO} (k : Same G H) (h : G D = none) : Same G (upd H D ob) := fun b z e => by
  rw [upd_ne (ne_of_none e h)]
  exact k _ _ e
theorem Acc.addSrc {vs : List V} {v : V} {e : Str × Int × Int} (a : Acc K G H s p j o) (hs : H s = some (.lst vs)) (r : EntAt K G v e) : Acc K G (upd H s (.lst (vs ++ [v]))) s p j (o.add (.src e)) := by
  obtain ⟨v1, h1, r1⟩ := a.src
  obtain ⟨v2, h2, r2⟩ := a.prt
  obtain ⟨v3, h3, r3⟩ := a.joi
  have e1 : v1 = vs := HO.lst.inj (Option.some.inj (h1.symm.trans hs))
  subst e1
  exact ⟨same_but a.sub a.gs, a.gs, a.gp, a.gj, a.sp, a.sj, a.pj, ⟨_, upd_same, r1.snoc r⟩, ⟨v2, by rw [upd_ne a.sp.symm]; exact h2, r2⟩, ⟨v3, by rw [upd_ne a.sj.symm]; exact h3, r3.to (Same.refl G) fun l tv n1 _ _ g h => ⟨g, by rw [upd_ne n1]; exact h⟩⟩⟩
theorem Acc.addPrt {vs : List V} {v : V} {e : Str × Int × Int} (a : Acc K G H s p j o) (hs : H p = some (.lst vs)) (r : EntAt K G v e) : Acc K G (upd H p (.lst (vs ++ [v]))) s p j (o.add (.prt e)) := by
  obtain ⟨v1, h1, r1⟩ := a.src
  obtain ⟨v2, h2, r2⟩ := a.prt
  obtain ⟨v3, h3, r3⟩ := a.joi
  have e1 : v2 = vs := HO.lst.inj (Option.some.inj (h2.symm.trans hs))
  subst e1
  exact ⟨same_but a.sub a.gp, a.gs, a.gp, a.gj, a.sp, a.sj, a.pj, ⟨v1, by rw [upd_ne a.sp]; exact h1, r1⟩, ⟨_, upd_same, r2.snoc r⟩, ⟨v3, by rw [upd_ne a.pj.symm]; exact h3, r3.to (Same.refl G) fun l tv _ n2 _ g h => ⟨g, by rw [upd_ne n2]; exact h⟩⟩⟩
/-- a joining more: the last one's list of ties is fixed from here on; l, the new one's, and t, its tuple -/
theorem Acc.addJoi {vs : List V} {x : Str} {l t : Addr} (a : Acc K G H s p j o) (hj : H j = some (.lst vs)) (nl : H l = none) (nt : upd H l (.lst []) t = none) :
    ∃ G', Same G G' ∧ Acc K G' (upd (upd (upd H l (.lst [])) t (.tup [.str x, .ref l])) j (.lst (vs ++ [.ref t]))) s p j (o.add (.joi x)) := by
  obtain ⟨v1, h1, r1⟩ := a.src
  obtain ⟨v2, h2, r2⟩ := a.prt
  obtain ⟨v3, h3, r3⟩ := a.joi
  have e1 : v3 = vs := HO.lst.inj (Option.some.inj (h3.symm.trans hj))
  subst e1
  have lt : l ≠ t := ne_of_none upd_same nt
  have ht : H t = none := by rw [upd_ne lt.symm] at nt; exact nt
  have ln : ∀ {b : Addr} {z : HO}, H b = some z → b ≠ l := fun h => ne_of_none h nl
  have tn : ∀ {b : Addr} {z : HO}, H b = some z → b ≠ t := fun h => ne_of_none h ht
  -- what was fixed, and the last list
  obtain ⟨G1, s1, sub1, g1s, g1p, g1j, fr⟩ : ∃ G1, Same G G1 ∧ Same G1 H ∧ G1 s = none ∧ G1 p = none ∧ G1 j = none ∧ Paired (JoiAt K G1) v3 o.joinings := by
    generalize ej : o.joinings = js at r3
    cases r3 with
    | nil => exact ⟨G, Same.refl G, a.sub, a.gs, a.gp, a.gj, .nil⟩
    | last front ht gl ls lp lj hl ties =>
      rename_i vF fr t0 l0 x0 ts tv
      have sg : Same G (upd G l0 (.lst tv)) := same_upd gl
      refine ⟨upd G l0 (.lst tv), sg, fun b z e => ?_, by rw [upd_ne ls.symm]; exact a.gs, by rw [upd_ne lp.symm]; exact a.gp, by rw [upd_ne lj.symm]; exact a.gj, (front.mono fun v c h => h.same sg).snoc ⟨t0, .ref l0, rfl, SqT.same sg ht, l0, tv, rfl, SqL.of upd_same, ties.mono fun v c h => h.same sg⟩⟩
      by_cases q : b = l0
      · subst q
        rw [upd_same] at e
        exact e ▸ hl
      · rw [upd_ne q] at e
        exact a.sub _ _ e
  have g1t : G1 t = none := sub1.free ht
  have g1l : G1 l = none := sub1.free nl
  have s2 : Same G1 (upd G1 t (.tup [.str x, .ref l])) := same_upd g1t
  refine ⟨upd G1 t (.tup [.str x, .ref l]), s1.trans s2, ⟨fun b z e => ?_, by rw [upd_ne (tn h1)]; exact g1s, by rw [upd_ne (tn h2)]; exact g1p, by rw [upd_ne (tn h3)]; exact g1j, a.sp, a.sj, a.pj,
    ⟨v1, by rw [upd_ne a.sj, upd_ne (tn h1), upd_ne (ln h1)]; exact h1, r1.mono fun v c h => h.same (s1.trans s2)⟩, ⟨v2, by rw [upd_ne a.pj, upd_ne (tn h2), upd_ne (ln h2)]; exact h2, r2.mono fun v c h => h.same (s1.trans s2)⟩,
    ⟨_, upd_same, .last (fr.mono fun v c h => h.same s2) (SqT.of upd_same) (by rw [upd_ne lt]; exact g1l) (ln h1).symm (ln h2).symm (ln h3).symm (by rw [upd_ne (ln h3).symm, upd_ne lt]; exact upd_same) .nil⟩⟩⟩
  by_cases q : b = t
  · subst q
    rw [upd_same] at e
    rw [upd_ne (tn h3).symm, upd_same]
    exact e
  · rw [upd_ne q] at e
    have hb := sub1 _ _ e
    rw [upd_ne (ne_of_none e g1j), upd_ne q, upd_ne (ln hb)]
    exact hb
/-- a tie more -/
theorem Acc.addTie {t0 l : Addr} {x : Str} {ts : List (Str × Str × Str)} {fr : List (Str × List (Str × Str × Str))} {vF tv : List V} {v : V} {e : Str × Str × Str} (a : Acc K G H s p j o) (ho : o.joinings = fr ++ [(x, ts)]) (hj : H j = some (.lst (vF ++ [.ref t0])))
    (front : Paired (JoiAt K G) vF fr) (ht : SqT K G t0 [.str x, .ref l]) (gl : G l = none) (ls : l ≠ s) (lp : l ≠ p) (lj : l ≠ j) (hl : H l = some (.lst tv)) (ties : Paired (TieAt K G) tv ts) (r : TieAt K G v e) :
    Acc K G (upd H l (.lst (tv ++ [v]))) s p j (o.add (.tie e)) := by
  obtain ⟨v1, h1, r1⟩ := a.src
  obtain ⟨v2, h2, r2⟩ := a.prt
  refine ⟨same_but a.sub gl, a.gs, a.gp, a.gj, a.sp, a.sj, a.pj, ⟨v1, by rw [upd_ne ls.symm]; exact h1, r1⟩, ⟨v2, by rw [upd_ne lp.symm]; exact h2, r2⟩, ⟨_, by rw [upd_ne lj.symm]; exact hj, ?_⟩⟩
  show JacAt K G _ s p j _ (Ct.addTie e o.joinings)
  rw [ho, addTie_last]
  exact .last front ht gl ls lp lj upd_same (ties.snoc r)
end
end Ct
namespace Ct
open PySem PySem.Spec PyProof.Rows L2 TL
/-! ### a circuit's object -/
section
variable {K : PySem.W.Frag} {H : Hp} {D : Addr} {C dx : Addr} {fs fs' : List (Str × V)}
theorem SqT.ins (hD : H D = some (.ins C dx fs)) {a : Addr} {xs : List V} (h : SqT K H a xs) : SqT K (upd H D (.ins C dx fs')) a xs := by
  rcases h with (h | ⟨o, h⟩) | h
  · exact .inl (.inl ((upd_ne (ne_of h hD (by intro z; cases z))).trans h))
  · exact .inl (.inr ⟨o, (upd_ne (ne_of h hD (by intro z; cases z))).trans h⟩)
  · exact .inr h
theorem SqL.ins (hD : H D = some (.ins C dx fs)) {a : Addr} {xs : List V} (h : SqL K H a xs) : SqL K (upd H D (.ins C dx fs')) a xs := by
  rcases h with (h | ⟨o, h⟩) | h
  · exact .inl (.inl ((upd_ne (ne_of h hD (by intro z; cases z))).trans h))
  · exact .inl (.inr ⟨o, (upd_ne (ne_of h hD (by intro z; cases z))).trans h⟩)
  · exact .inr h
theorem EntAt.ins (hD : H D = some (.ins C dx fs)) {v : V} {e : Str × Int × Int} : EntAt K H v e → EntAt K (upd H D (.ins C dx fs')) v e := fun ⟨t, u, a, b, t', c, d⟩ => ⟨t, u, a, SqT.ins hD b, t', c, SqT.ins hD d⟩
theorem TieAt.ins (hD : H D = some (.ins C dx fs)) {v : V} {e : Str × Str × Str} : TieAt K H v e → TieAt K (upd H D (.ins C dx fs')) v e := fun ⟨t, a, b⟩ => ⟨t, a, SqT.ins hD b⟩
end
/-- a joining as the reader has it: its ties a list -/
def JrAt (K : PySem.W.Frag) (H : Hp) (v : V) (e : Str × List (Str × Str × Str)) : Prop := ∃ t l tv, v = .ref t ∧ SqT K H t [.str e.1, .ref l] ∧ SqL K H l tv ∧ Paired (TieAt K H) tv e.2
/-- and as the circuit has it: its ties a tuple -/
def JoTAt (K : PySem.W.Frag) (H : Hp) (v : V) (e : Str × List (Str × Str × Str)) : Prop := ∃ t l tv, v = .ref t ∧ SqT K H t [.str e.1, .ref l] ∧ SqT K H l tv ∧ Paired (TieAt K H) tv e.2
def CircAt (K : PySem.W.Frag) (C : Addr) (H : Hp) (v : V) (o : Own) : Prop := ∃ (c dx : Addr) (fs : List (Str × V)) (ts tp tj : Addr) (us vs ws : List V), v = .ref c ∧ H c = some (.ins C dx fs) ∧ fs.lookup ("text" : Str) = some (.str (textOf o)) ∧ fs.lookup ("sources" : Str) = some (.ref ts) ∧
  fs.lookup ("parts" : Str) = some (.ref tp) ∧ fs.lookup ("joinings" : Str) = some (.ref tj) ∧ SqT K H ts us ∧ SqT K H tp vs ∧ SqT K H tj ws ∧ Paired (EntAt K H) us o.sources ∧ Paired (EntAt K H) vs o.parts ∧ Paired (JoTAt K H) ws o.joinings
section
variable {K : PySem.W.Frag} {H H' : Hp} {D : Addr} {C dx : Addr} {fs fs' : List (Str × V)}
theorem JrAt.same (s : Same H H') {v : V} {e : Str × List (Str × Str × Str)} : JrAt K H v e → JrAt K H' v e := fun ⟨t, l, tv, a, b, c, d⟩ => ⟨t, l, tv, a, SqT.same s b, Same.seq s c, d.mono fun _ _ h => h.same s⟩
theorem JrAt.ins (hD : H D = some (.ins C dx fs)) {v : V} {e : Str × List (Str × Str × Str)} : JrAt K H v e → JrAt K (upd H D (.ins C dx fs')) v e := fun ⟨t, l, tv, a, b, c, d⟩ => ⟨t, l, tv, a, SqT.ins hD b, SqL.ins hD c, d.mono fun _ _ h => h.ins hD⟩
theorem JoTAt.same (s : Same H H') {v : V} {e : Str × List (Str × Str × Str)} : JoTAt K H v e → JoTAt K H' v e := fun ⟨t, l, tv, a, b, c, d⟩ => ⟨t, l, tv, a, SqT.same s b, SqT.same s c, d.mono fun _ _ h => h.same s⟩
theorem JoTAt.ins (hD : H D = some (.ins C dx fs)) {v : V} {e : Str × List (Str × Str × Str)} : JoTAt K H v e → JoTAt K (upd H D (.ins C dx fs')) v e := fun ⟨t, l, tv, a, b, c, d⟩ => ⟨t, l, tv, a, SqT.ins hD b, SqT.ins hD c, d.mono fun _ _ h => h.ins hD⟩
theorem JoTAt.list {acc acc' : List V} (hD : H D = some (.lst acc)) {v : V} {e : Str × List (Str × Str × Str)} : JoTAt K H v e → JoTAt K (upd H D (.lst acc')) v e := fun ⟨t, l, tv, a, b, c, d⟩ => ⟨t, l, tv, a, SqT.list hD b, SqT.list hD c, d.mono fun _ _ h => h.list hD⟩
theorem CircAt.same (s : Same H H') {v : V} {o : Own} : CircAt K C H v o → CircAt K C H' v o := fun ⟨c, dx, fs, ts, tp, tj, us, vs, ws, a, b, f1, f2, f3, f4, q1, q2, q3, r1, r2, r3⟩ =>
  ⟨c, dx, fs, ts, tp, tj, us, vs, ws, a, s _ _ b, f1, f2, f3, f4, SqT.same s q1, SqT.same s q2, SqT.same s q3, r1.mono fun _ _ h => h.same s, r2.mono fun _ _ h => h.same s, r3.mono fun _ _ h => h.same s⟩
theorem Acc.jr {G : Hp} {s p j : Addr} {o : Own} (a : Acc K G H s p j o) : ∃ vs, H j = some (.lst vs) ∧ Paired (JrAt K H) vs o.joinings := by
  obtain ⟨vs, h, r⟩ := a.joi
  refine ⟨vs, h, ?_⟩
  generalize o.joinings = js at r
  have fr : ∀ {v : V} {e : Str × List (Str × Str × Str)}, JoiAt K G v e → JrAt K H v e := fun ⟨t, l, e1, e2, l', tv, e3, e4, e5⟩ => ⟨t, l', tv, e1, by rw [← e3]; exact SqT.same a.sub e2, Same.seq a.sub e4, e5.mono fun _ _ h => h.same a.sub⟩
  cases r with
  | nil => exact .nil
  | last front ht gl ls lp lj hl ties => exact (front.mono fun _ _ h => fr h).snoc ⟨_, _, _, rfl, SqT.same a.sub ht, SqL.of hl, ties.mono fun _ _ h => h.same a.sub⟩
end
end Ct

/-! A new tuple whose object is known to have no dict of its own: dict(..) of it. -/
namespace Ct
open PySem PySem.Spec PyProof.Rows L2 TL RZ
/-- a tuple, whose object has no dict -/
def TupN (H : Hp) (a : Addr) (xs : List V) : Prop := ∃ od : Obj, H a = some (.frz od (.tup xs)) ∧ od.dict = none ∧ od.cls = .type "tuple"
theorem TupN.sq {K : PySem.W.Frag} {H : Hp} {a : Addr} {xs : List V} (h : TupN H a xs) : SqT K H a xs := by
  obtain ⟨od, h, _⟩ := h
  exact .inl (.inr ⟨od, h⟩)
theorem TupN.same {G H : Hp} {a : Addr} {xs : List V} (s : Same G H) (h : TupN G a xs) : TupN H a xs := by
  obtain ⟨od, h, r⟩ := h
  exact ⟨od, s _ _ h, r⟩
section
variable {X : Cx}
/-- tuple(xs), xs a list -/
theorem call_tupleN : CallR X (.type "tuple") (fun vs H Q => ∃ (p : Addr) (ys : List V), vs = [.ref p] ∧ SqL X.K H p ys ∧ ∀ l od, H l = none → od.dict = none → od.cls = .type "tuple" → Q (.ref l) (upd H l (.frz od (.tup ys)))) := by
  intro pins s σ H xs us Q I r ⟨p, ys, e, hq, q⟩
  subst e
  obtain ⟨u, rfl, rx⟩ := vals1 r
  cases rx
  obtain ⟨its, r1, pl, hz⟩ := I.list hq
  have hlen := r1.length
  refine call_tuple_list pl.isList (fun h' kp => ?_) (by rw [List.size_toArray, ← hlen]; exact hz)
  have I1 : Inv X pins σ H { s with heap := h' } := I.kept (t' := s.toks) kp
  have I2 : Inv X pins σ (upd H h'.objs.size (.frz { cls := .type "tuple", data := .seq its.toArray } (.tup ys))) { s with heap := h'.push { cls := .type "tuple", data := .seq its.toArray } } :=
    I1.laid (t' := s.toks) (fun b o e => Heap.get?_push_of_some _ e) (Nat.le_refl _) ⟨Heap.get?_push_size _ rfl, hz, its, r1, IsTup.new _ _⟩
  exact ⟨.ref h'.objs.size, _, I2, rfl, q _ _ (I1.hok.fresh (Nat.le_refl _)) rfl rfl⟩
theorem pairs_in {pins : List (Addr × Obj)} {σ : L2.St} {H : Hp} {s : Shared} (I : Inv X pins σ H s) : ∀ {ps : List Addr} {kvs : List (Key × V)}, Paired (fun p kv => SqT X.K H p [kV kv.1, kv.2]) ps kvs →
    ∃ (prs : List (Key × Value)) (uvs : List (Value × Value)), KV kvs prs ∧ prs.length = ps.length ∧ uvs.length = ps.length ∧ ∀ (j : Nat) (u y : Value), uvs[j]? = some (u, y) → ∃ (b : Addr) (k : Key), ps[j]? = some b ∧ prs[j]? = some (k, y) ∧ IsTup s.heap b #[u, y] ∧ (mixKind X.prog X.w).is k u = true
  | _, _, .nil => ⟨[], [], .nil, rfl, rfl, fun _ _ _ e => by simp at e⟩
  | _, _, .cons (a := p) (b := kv) h t => by
    obtain ⟨prs, uvs, r, l1, l2, f⟩ := pairs_in I t
    obtain ⟨its, rv, tp, _⟩ := I.tuple h
    obtain ⟨u, y, e, ru, ry⟩ := vals2 rv
    subst e
    refine ⟨(kv.1, y) :: prs, (u, y) :: uvs, .cons ⟨rfl, ry⟩ r, by rw [List.length_cons, List.length_cons, l1], by rw [List.length_cons, List.length_cons, l2], fun j u1 y1 e => ?_⟩
    cases j with
    | zero =>
      cases Option.some.inj e
      exact ⟨p, kv.1, rfl, rfl, tp, kV_is ru⟩
    | succ j => exact f j u1 y1 e
/-- dict(xs), xs such a tuple of pairs -/
theorem call_dictN (calm : X.calm = true) : CallR X (.type "dict") (fun vs H Q => ∃ (a : Addr) (ps : List Addr) (kvs : List (Key × V)), vs = [.ref a] ∧ TupN H a (ps.map V.ref) ∧ Paired (fun p kv => SqT X.K H p [kV kv.1, kv.2]) ps kvs ∧ ∀ p, H p = none → Q (.ref p) (upd H p (.dK (mergeK [] kvs)))) := by
  intro pins s σ H xs us Q I r ⟨a, ps, kvs, e, ⟨od, ha, nd, cl⟩, hp, q⟩
  subst e
  obtain ⟨u, rfl, rx⟩ := vals1 r
  cases rx
  obtain ⟨got, hz, its, rv, ob, hob, _, n, dat⟩ := I.hok a _ ha
  have same : od = ob := Option.some.inj (got.symm.trans hob)
  subst same
  have ei := refs_at rv
  subst ei
  rw [List.length_map] at hz
  obtain ⟨prs, uvs, rel, l1, l2, f⟩ := pairs_in I hp
  refine _root_.PySem.call_dict_pairs (knd := mixKind X.prog X.w) (kvs := prs) (PairArg.tuple a _ (fun j => ps.getD j 0) uvs) (I.ok.hd calm) ⟨⟨od, n, got, cl, nd, dat⟩, ?_, fun j k v e => ?_⟩ ⟨l1.trans l2.symm, fun j u y e => ?_⟩ (by rw [l2]; exact hz) fun h' tk dd keep => ?_
  · simp [l2]
  · obtain ⟨b, k2, e1, _, t, _⟩ := f j k v e
    have eb : ps.getD j 0 = b := by rw [List.getD_eq_getElem?_getD, e1]; rfl
    dsimp only
    rw [eb]
    refine ⟨by simp [e1], .inl ?_⟩
    obtain ⟨o, e2, c2, m, d2⟩ := t
    exact ⟨o, e2, c2, m, d2⟩
  · obtain ⟨b, k2, _, e2, _, is⟩ := f j u y e
    exact ⟨k2, e2, is⟩
  · have big : (s.heap.objs.size == sysModules) = false := beq_eq_false_iff_ne.mpr (Nat.ne_of_gt I.big)
    have len : (mergeK [] kvs).length ≤ sizeLine := by
      refine Nat.le_trans (length_mergeK kvs []) ?_
      rw [List.length_nil, Nat.zero_add, rel.length, l1]
      exact hz
    refine ⟨.ref s.heap.objs.size, _, I.laid (t' := tk) (fun b o e => keep b o (fun z => nomatch z) e) (Nat.le_refl _) (show ObjOk X.prog X.w _ _ _ (.dK (mergeK [] kvs)) from ⟨len, big, merged [] prs, KV.merge rel .nil, dd⟩), rfl, q _ (I.hok.fresh (Nat.le_refl _))⟩
end
/-! ### walks that the layer has no rule for -/
section
variable {K : PySem.W.Frag} {J : It} {n : Nat} {G : Hp → Prop} {Y : Nat → Hp → V → Hp → Prop}
theorem walk_zipT {a b : Addr} {xs ys : List V} (hl : xs.length = ys.length) : Walk (ItzT K a b) xs.length (fun H => SqT K H a xs ∧ SqT K H b ys) (YPair (fun i => xs[i]?) (fun i => ys[i]?)) := by
  refine ⟨fun i H hi q => ?_, fun H q => ⟨xs, ys, q.1, q.2, .inl (Nat.le_refl _)⟩, fun i H x H' hi q y => ?_⟩
  · exact ⟨xs, ys, _, _, q.1, q.2, List.getElem?_eq_getElem hi, List.getElem?_eq_getElem (by omega)⟩
  · obtain ⟨T, u, v, e, hT, eH, f1, f2⟩ := y
    exact ⟨T, u, v, e, hT, eH, f1 xs q.1, f2 ys q.2⟩
/-- a dict comprehension over any walk -/
theorem dc_it (wk : Walk J n G Y) {g : TG} {tt : TT} {tk tv : TE} {vs : List Nat} {σ : L2.St} {H1 : Hp} {D : Addr} {Qd : Hp → Prop} (Pv : Nat → Hp → Prop) (h0 : Pv 0 (upd H1 D (.dK []))) (hG : ∀ i H, i ≤ n → Pv i H → G H)
    (hs : ∀ i x H H', i < n → Pv i H → Y i H x H' → g x (wipe σ vs) H' fun σ2 H2 => wipe σ2 vs = wipe σ vs ∧ tt σ2 H2 fun b H3 =>
      if b = true then tk σ2 H3 fun y H4 => tv σ2 H4 fun z H5 => ∃ kvs k, y = kV k ∧ H5 D = some (.dK kvs) ∧ kvs.length < sizeLine ∧ Pv (i + 1) (upd H5 D (.dK (putK kvs k z))) else Pv (i + 1) H3) (hd : ∀ H, Pv n H → Qd H) :
    ∃ W : Nat → Nat → Hp → Prop, (∃ m, W 0 m (upd H1 D (.dK []))) ∧ ∀ i m H, W i m H →
      (J.stop i H ∧ Qd H) ∨ (J.go i H ∧ ∃ Nx : Hp → Prop, (∀ H', Nx H' → ∃ m', m' < m ∧ W (i + 1) m' H') ∧ ∀ x H', J.yld i H x H' → g x (wipe σ vs) H' fun σ2 H2 => wipe σ2 vs = wipe σ vs ∧ tt σ2 H2 fun b H3 =>
        if b = true then tk σ2 H3 fun y H4 => tv σ2 H4 fun z H5 => ∃ kvs k, y = kV k ∧ H5 D = some (.dK kvs) ∧ kvs.length < sizeLine ∧ Nx (upd H5 D (.dK (putK kvs k z))) else Nx H3) := by
  refine ⟨fun i m H => m = n - i ∧ i ≤ n ∧ Pv i H, ⟨n, rfl, Nat.zero_le _, h0⟩, fun i m H hw => ?_⟩
  obtain ⟨em, hi, p⟩ := hw
  have q := hG i H hi p
  rcases Nat.lt_or_eq_of_le hi with lt | eq
  · refine .inr ⟨wk.goes i H lt q, Pv (i + 1), fun H' p' => ⟨n - (i + 1), by omega, rfl, lt, p'⟩, fun x H' y => hs i x H H' lt p (wk.yields i H x H' lt q y)⟩
  · subst eq
    exact .inl ⟨wk.stops H q, hd H p⟩
end
end Ct

/-! Fractions in least terms as the rationals they are. -/
namespace Ct
open PySem PySem.Spec PyProof.Rows L2 TL
/-- a rational, as it lies in the heap -/
def RatAt (K : PySem.W.Frag) (H : Hp) (v : V) (r : Rat) : Prop := ∃ t, v = .ref t ∧ SqT K H t [.int r.num, .int (r.den : Int)]
theorem op_mulB {X : Cx} : OpR X (binaryOp .Mult) (rI IntMulOk fun i j => .int (i * j)) := opI fun _ _ _ _ _ _ _ c q => mul_int q c
/-- // by a divisor of fewer than 9000 bits -/
def CQuo (_ j : Int) : Prop := j ≠ 0 ∧ j.natAbs.log2 < 9000
theorem op_quo {X : Cx} : OpR X (binaryOp .FloorDiv) (rI CQuo fun i j => .int (i.fdiv j)) := opI fun _ _ _ _ _ _ _ c q => floordiv_int c.1 q (.inl (PyProof.noPylong_of_log2 c.2))
def gcdZ (a b : Int) : Int := ((Nat.gcd a.natAbs b.natAbs : Nat) : Int)
theorem gcdZ_pos {a b : Int} (hb : b ≠ 0) : 0 < gcdZ a b := by
  have : 0 < Nat.gcd a.natAbs b.natAbs := Nat.gcd_pos_of_pos_right _ (Int.natAbs_pos.mpr hb)
  unfold gcdZ
  omega
theorem gcdZ_left (a b : Int) : gcdZ a b ∣ a := Int.natAbs_dvd_natAbs.mp (show (gcdZ a b).natAbs ∣ a.natAbs from Nat.gcd_dvd_left _ _)
theorem gcdZ_right (a b : Int) : gcdZ a b ∣ b := Int.natAbs_dvd_natAbs.mp (show (gcdZ a b).natAbs ∣ b.natAbs from Nat.gcd_dvd_right _ _)
theorem gcd_swap (a b : Int) : ((Int.gcd b a : Nat) : Int) = gcdZ a b := by
  unfold gcdZ Int.gcd
  rw [Nat.gcd_comm]
theorem ratio_pos {a b : Int} (hb : 0 < b) : a.fdiv (gcdZ a b) = (Rat.divInt a b).num ∧ b.fdiv (gcdZ a b) = ((Rat.divInt a b).den : Int) := by
  have g0 := gcdZ_pos (a := a) (b := b) (by omega)
  rw [Int.fdiv_eq_ediv_of_nonneg _ (by omega), Int.fdiv_eq_ediv_of_nonneg _ (by omega), Rat.num_divInt, Rat.den_divInt, if_neg (by omega), Int.sign_eq_one_of_pos hb, Int.one_mul, gcd_swap]
  refine ⟨rfl, ?_⟩
  rw [Int.natCast_ediv, gcd_swap, Int.natAbs_of_nonneg (by omega)]
theorem ratio_neg {a b : Int} (hb : b < 0) : a.fdiv (-gcdZ a b) = (Rat.divInt a b).num ∧ b.fdiv (-gcdZ a b) = ((Rat.divInt a b).den : Int) := by
  have g0 := gcdZ_pos (a := a) (b := b) (by omega)
  have d1 := gcdZ_left a b
  have d2 := gcdZ_right a b
  rw [Int.fdiv_eq_ediv_of_dvd (Int.neg_dvd.mpr d1), Int.fdiv_eq_ediv_of_dvd (Int.neg_dvd.mpr d2), Rat.num_divInt, Rat.den_divInt, if_neg (by omega), Int.sign_eq_neg_one_of_neg hb, gcd_swap, Int.ediv_neg, Int.ediv_neg]
  refine ⟨?_, ?_⟩
  · rw [Int.neg_mul, Int.one_mul, Int.neg_ediv_of_dvd d1]
  · rw [Int.natCast_ediv, gcd_swap, ← Int.neg_ediv_of_dvd d2]
    congr 1
    omega
def FitR (n : Nat) (r : Rat) : Prop := r.num.natAbs < 2 ^ n ∧ r.den < 2 ^ n
theorem den_ne (r : Rat) : (r.den : Int) ≠ 0 := by
  have := r.den_pos
  omega
theorem rat_plus (r s : Rat) : r + s = Rat.divInt (r.num * s.den + s.num * r.den) (r.den * s.den) := by
  rw [← Rat.divInt_add_divInt _ _ (den_ne r) (den_ne s), Rat.num_divInt_den, Rat.num_divInt_den]
theorem rat_minus (r s : Rat) : r - s = Rat.divInt (r.num * s.den - s.num * r.den) (r.den * s.den) := by
  rw [← Rat.divInt_sub_divInt _ _ (den_ne r) (den_ne s), Rat.num_divInt_den, Rat.num_divInt_den]
theorem rat_times (r s : Rat) : r * s = Rat.divInt (r.num * s.num) (r.den * s.den) := by
  rw [← Rat.divInt_mul_divInt, Rat.num_divInt_den, Rat.num_divInt_den]
theorem mul_ok {a b : Int} (ha : a.natAbs < 2 ^ 4400) (hb : b.natAbs < 2 ^ 4400) : IntMulOk a b := IntMulOk.of_le (m := 4400) (n := 4400) (intBits_le_iff.mpr ha) (intBits_le_iff.mpr hb) (by decide)
theorem den_two {r s : Rat} (hr : FitR 4400 r) (hs : FitR 4400 s) : ((r.den : Int) * s.den).natAbs < 2 ^ 8999 := by
  have h1 : r.den * s.den < 2 ^ 4400 * 2 ^ 4400 := Nat.mul_lt_mul'' hr.2 hs.2
  have e : ((r.den : Int) * s.den).natAbs = r.den * s.den := by rw [Int.natAbs_mul, Int.natAbs_natCast, Int.natAbs_natCast]
  rw [e]
  refine Nat.lt_of_lt_of_le h1 ?_
  rw [← Nat.pow_add]
  exact Nat.pow_le_pow_right (by decide) (by decide)
theorem den_two_ne (r s : Rat) : (r.den : Int) * s.den ≠ 0 := Int.mul_ne_zero (den_ne r) (den_ne s)
theorem den_nat {n : Nat} {r : Rat} (h : FitR n r) : (r.den : Int).natAbs < 2 ^ n := by
  rw [Int.natAbs_natCast]
  exact h.2
theorem RatAt.same {K : PySem.W.Frag} {H H' : Hp} (s : Same H H') {v : V} {r : Rat} : RatAt K H v r → RatAt K H' v r := fun ⟨t, e, h⟩ => ⟨t, e, SqT.same s h⟩
theorem quo_ok {b g : Int} (g0 : g ≠ 0) (d : g ∣ b) (hb0 : b ≠ 0) (hb : b.natAbs < 2 ^ 8999) (a : Int) : CQuo a g := by
  refine ⟨g0, ?_⟩
  have h1 : g.natAbs ≤ b.natAbs := Nat.le_of_dvd (Int.natAbs_pos.mpr hb0) (Int.natAbs_dvd_natAbs.mpr d)
  have h2 := (Nat.log2_lt (Int.natAbs_ne_zero.mpr g0)).mpr (Nat.lt_of_le_of_lt h1 hb)
  omega
def spRatio (K : PySem.W.Frag) : Sp := fun vs H Q _ => ∃ a b : Int, vs = [.int a, .int b] ∧ b ≠ 0 ∧ b.natAbs < 2 ^ 8999 ∧ ∀ v' H', Same H H' → RatAt K H' v' (Rat.divInt a b) → Q v' H'
def spRat2 (K : PySem.W.Frag) (g : Rat → Rat → Rat) : Sp := fun vs H Q _ => ∃ (v u : V) (r s : Rat), vs = [v, u] ∧ RatAt K H v r ∧ RatAt K H u s ∧ FitR 4400 r ∧ FitR 4400 s ∧ ∀ v' H', Same H H' → RatAt K H' v' (g r s) → Q v' H'
section
variable {P : Program} {w : World} {K : PySem.W.Frag} {mg : Str → Option Value} {base : Heap}
end
end Ct

/-! Rows of integers: the elimination's steps. -/
namespace Ct
open PySem PySem.Spec PyProof.Rows L2 TL
def IntV (v : V) (i : Int) : Prop := v = .int i
theorem ints_are {acc : List V} {ns : List Int} (h : Paired IntV acc ns) : acc = ns.map V.int := by
  induction h with
  | nil => rfl
  | cons r _ ih => rw [show _ = V.int _ from r, ih]; rfl
theorem ints_pair : ∀ ns : List Int, Paired IntV (ns.map V.int) ns
  | [] => .nil
  | _ :: r => .cons rfl (ints_pair r)
def RowAt (K : PySem.W.Frag) (H : Hp) (v : V) (ns : List Int) : Prop := ∃ a, v = .ref a ∧ SqL K H a (ns.map V.int)
theorem RowAt.same {K : PySem.W.Frag} {H H' : Hp} (s : Same H H') {v : V} {ns : List Int} : RowAt K H v ns → RowAt K H' v ns := fun ⟨a, e, h⟩ => ⟨a, e, Same.seq s h⟩
def gcdL (ns : List Int) : Int := ns.foldl gcdZ 0
def leastL (ns : List Int) : List Int := if gcdL ns < 2 then ns else ns.map fun i => i.fdiv (gcdL ns)
theorem gcdZ_nonneg (a b : Int) : 0 ≤ gcdZ a b := Int.natCast_nonneg _
theorem fold_nonneg : ∀ (ns : List Int) (g : Int), 0 ≤ g → 0 ≤ ns.foldl gcdZ g
  | [], _, h => h
  | n :: r, g, _ => fold_nonneg r _ (gcdZ_nonneg _ _)
theorem gcdZ_trans {c a b : Int} (h : c ∣ gcdZ a b) : c ∣ a ∧ c ∣ b := ⟨Int.dvd_trans h (gcdZ_left a b), Int.dvd_trans h (gcdZ_right a b)⟩
theorem fold_dvd : ∀ (ns : List Int) (g : Int), ns.foldl gcdZ g ∣ g ∧ ∀ n ∈ ns, ns.foldl gcdZ g ∣ n
  | [], g => ⟨Int.dvd_refl g, fun _ h => nomatch h⟩
  | n :: r, g => by
    have ih := fold_dvd r (gcdZ g n)
    have q := gcdZ_trans ih.1
    refine ⟨q.1, fun m hm => ?_⟩
    rcases List.mem_cons.mp hm with rfl | hm
    · exact q.2
    · exact ih.2 m hm
theorem gcdL_dvd {ns : List Int} {n : Int} (h : n ∈ ns) : gcdL ns ∣ n := (fold_dvd ns 0).2 n h
theorem fold_bound {B : Nat} : ∀ (ns : List Int) (g : Int), g.natAbs ≤ B → (∀ n ∈ ns, n.natAbs ≤ B) → (ns.foldl gcdZ g).natAbs ≤ B
  | [], _, h, _ => h
  | n :: r, g, h, hn => by
    refine fold_bound r _ ?_ fun m hm => hn m (List.mem_cons_of_mem _ hm)
    show (Nat.gcd g.natAbs n.natAbs) ≤ B
    by_cases z : g.natAbs = 0
    · rw [z, Nat.gcd_zero_left]
      exact hn n List.mem_cons_self
    · exact Nat.le_trans (Nat.gcd_le_left _ (Nat.pos_of_ne_zero z)) h
theorem take_next {α : Type} {l : List α} {i : Nat} {x : α} (h : l[i]? = some x) : l.take (i + 1) = l.take i ++ [x] := by
  rw [List.take_add_one, h]
  rfl
def Small (ns : List Int) : Prop := ∀ n ∈ ns, n.natAbs < 2 ^ 8999
def spLeast (K : PySem.W.Frag) : Sp := fun vs H Q _ => ∃ (v : V) (ns : List Int), vs = [v] ∧ RowAt K H v ns ∧ ns.length < 1000000 ∧ Small ns ∧ ∀ v' H', Same H H' → RowAt K H' v' (leastL ns) → Q v' H'
section
variable {P : Program} {w : World} {K : PySem.W.Frag} {mg : Str → Option Value} {base : Heap}
end
structure Plain2 (mg : Str → Option Value) : Prop where
  n_zip : mg "zip" = none
  lcm : mg "lcm" = some (.builtin "math.lcm")
  n_sorted : mg "sorted" = none
def crossL (own its : Int) (ns ps : List Int) : List Int := List.zipWith (fun n o => n * its - o * own) ns ps
def withoutL (own its : Int) (ns ps : List Int) : List Int := if own = 0 then ns else leastL (crossL own its ns ps)
def FitsI (ns : List Int) : Prop := ∀ n ∈ ns, n.natAbs < 2 ^ 4400
theorem big_two {a b c d : Int} (ha : a.natAbs < 2 ^ 4400) (hb : b.natAbs < 2 ^ 4400) (hc : c.natAbs < 2 ^ 4400) (hd : d.natAbs < 2 ^ 4400) : (a * b - c * d).natAbs < 2 ^ 8999 := by
  have h1 : a.natAbs * b.natAbs < 2 ^ 4400 * 2 ^ 4400 := Nat.mul_lt_mul'' ha hb
  have h2 : c.natAbs * d.natAbs < 2 ^ 4400 * 2 ^ 4400 := Nat.mul_lt_mul'' hc hd
  have e : (2 : Nat) ^ 4400 * 2 ^ 4400 = 2 ^ 8800 := by rw [← Nat.pow_add]
  rw [e] at h1 h2
  have h3 : (a * b - c * d).natAbs ≤ a.natAbs * b.natAbs + c.natAbs * d.natAbs := by
    rw [← Int.natAbs_mul, ← Int.natAbs_mul]
    exact Int.natAbs_sub_le _ _
  have h4 : (2 : Nat) ^ 8800 + 2 ^ 8800 ≤ 2 ^ 8999 := by
    have : (2 : Nat) ^ 8800 + 2 ^ 8800 = 2 ^ 8801 := by rw [Nat.pow_succ 2 8800]; omega
    rw [this]
    exact Nat.pow_le_pow_right (by decide) (by decide)
  omega
theorem cross_small {own its : Int} {ns ps : List Int} (ho : own.natAbs < 2 ^ 4400) (hi : its.natAbs < 2 ^ 4400) (hn : FitsI ns) (hp : FitsI ps) : Small (crossL own its ns ps) := by
  intro n h
  obtain ⟨x, y, hx, hy, rfl⟩ : ∃ x y, x ∈ ns ∧ y ∈ ps ∧ n = x * its - y * own := by
    unfold crossL at h
    obtain ⟨j, hj, e⟩ := List.mem_iff_getElem.mp h
    rw [List.getElem_zipWith] at e
    exact ⟨_, _, List.getElem_mem _, List.getElem_mem _, e.symm⟩
  exact big_two (hn x hx) hi (hp y hy) ho
theorem small_million {n : Nat} (h : n ≤ 1000000) : n < sizeLine := Nat.lt_of_le_of_lt h (by decide)
def spWithout (K : PySem.W.Frag) : Sp := fun vs H Q _ => ∃ (v u : V) (ns ps : List Int) (c : Nat) (own its : Int), vs = [v, u, .int c] ∧ RowAt K H v ns ∧ RowAt K H u ps ∧ ns[c]? = some own ∧ ps[c]? = some its ∧ ns.length < 1000000 ∧ FitsI ns ∧ FitsI ps ∧
  ∀ v' H', Same H H' → RowAt K H' v' (withoutL own its ns ps) → Q v' H'
theorem at_int {ns : List Int} {c : Nat} {i : Int} (h : ns[c]? = some i) : atI (ns.map V.int) (c : Int) = some (V.int i) := atI_nat (by rw [List.getElem?_map, h]; rfl)
section
variable {P : Program} {w : World} {K : PySem.W.Frag} {mg : Str → Option Value} {base : Heap}
end
end Ct

/-! The last step: rows led by one. -/
namespace Ct
open PySem PySem.Spec PyProof.Rows L2 TL
theorem RatAt.list {K : PySem.W.Frag} {H : Hp} {D : Addr} {acc acc' : List V} (hD : H D = some (.lst acc)) {v : V} {r : Rat} : RatAt K H v r → RatAt K (upd H D (.lst acc')) v r := fun ⟨t, e, h⟩ => ⟨t, e, SqT.list hD h⟩
/-- a tuple of rationals -/
def RatsAt (K : PySem.W.Frag) (H : Hp) (v : V) (rs : List Rat) : Prop := ∃ a xs, v = .ref a ∧ SqT K H a xs ∧ Paired (RatAt K H) xs rs
def notNil (ns : List Int) : List Int := ns.filter fun n => decide (n ≠ 0)
theorem no_if {c : Bool} {A B : Prop} (hc : c = false) (h : B) : if c = true then A else B := by
  subst hc
  exact iteF h
theorem not_nil_zero (l : List Int) : notNil (l ++ [0]) = notNil l := by
  unfold notNil
  rw [List.filter_append]
  exact List.append_nil _
theorem not_nil_one {n : Int} (h : n ≠ 0) (l : List Int) : notNil (l ++ [n]) = notNil l ++ [n] := by
  unfold notNil
  rw [List.filter_append]
  congr 1
  exact List.filter_cons_of_pos (decide_eq_true h)
def ledL (first : Int) (ns : List Int) : List Rat := ns.map fun n => Rat.divInt n first
def spLed (K : PySem.W.Frag) : Sp := fun vs H Q _ => ∃ (v : V) (ns : List Int) (first : Int), vs = [v] ∧ RowAt K H v ns ∧ ns.length < 1000000 ∧ Small ns ∧ (notNil ns)[0]? = some first ∧ ∀ v' H', Same H H' → RatsAt K H' v' (ledL first ns) → Q v' H'
section
variable {P : Program} {w : World} {K : PySem.W.Frag} {mg : Str → Option Value} {base : Heap}
end
end Ct

/-! Rows of rationals cleared of their bottoms. -/
namespace Ct
open PySem PySem.Spec PyProof.Rows L2 TL
def rLcm : List V → Hp → VK → Prop := fun vs H Q => ∃ a b : Nat, vs = [.int a, .int b] ∧ a < 2 ^ 8999 ∧ b < 2 ^ 8999 ∧ Q (.int ((Nat.lcm a b : Nat) : Int)) H
theorem log_big {n m : Nat} (h : n < 2 ^ m) (hm : 0 < m) : n.log2 < m := by
  by_cases z : n = 0
  · subst z
    exact hm
  · exact (Nat.log2_lt z).mpr h
theorem cr_lcm {X : Cx} : CallR X (.builtin "math.lcm") rLcm := by
  intro pins s σ H vs us Q I r h
  obtain ⟨a, b, rfl, ha, hb, q⟩ := h
  obtain ⟨t, u, rfl⟩ := Vals.int2 r
  have e : (Nat.lcm 1 (a : Int).natAbs).lcm (b : Int).natAbs = Nat.lcm a b := by rw [Int.natAbs_natCast, Int.natAbs_natCast, Nat.lcm_one_left]
  have one : 1 < 2 ^ 8999 := Nat.lt_of_lt_of_le (by decide : 1 < 2 ^ 1) (Nat.pow_le_pow_right (by decide) (by decide))
  have h1 : (max 1 (a : Int).natAbs).log2 < 8999 := log_big (by rw [Int.natAbs_natCast]; exact Nat.max_lt.mpr ⟨one, ha⟩) (by decide)
  have h2 : (max (a : Int).natAbs (b : Int).natAbs).log2 < 8999 := log_big (by rw [Int.natAbs_natCast, Int.natAbs_natCast]; exact Nat.max_lt.mpr ⟨ha, hb⟩) (by decide)
  have h3 : ((((Nat.lcm 1 (a : Int).natAbs).lcm (b : Int).natAbs : Nat) : Int)).natAbs.log2 < bitsLine := by
    rw [Int.natAbs_natCast, e]
    have : Nat.lcm a b < 2 ^ 17998 := by
      have l : Nat.lcm a b ≤ a * b := Nat.div_le_self _ _
      have m : a * b < 2 ^ 8999 * 2 ^ 8999 := Nat.mul_lt_mul'' ha hb
      rw [← Nat.pow_add] at m
      exact Nat.lt_of_le_of_lt l m
    exact Nat.lt_trans (log_big this (by decide)) (by decide)
  refine call_function_meets PySem.W.MGF.kind_lcm PySem.W.MGF.plain_lcm PySem.W.MGF.entry_lcm (PySem.W.MGF.args_lcm _ _) (PySem.W.mg_run_lcm (a : Int) t (b : Int) u (by omega) (by omega) h3).meets ?_
  rw [e]
  exact ⟨.int _, H, I.tok _, ⟨_, rfl⟩, q⟩
theorem into_call {sp : Sp} {ds : List V} {E : XK} {t : TA} {σ : L2.St} {H : Hp} {Q : VK} (h : t σ H fun vs H1 => sp (vs ++ ds) H1 Q E) : tCall sp ds E t σ H Q := h
def lcmL (rs : List Rat) : Nat := rs.foldl (fun s r => Nat.lcm s r.den) 1
def liftL (s : Nat) (rs : List Rat) : List Int := rs.map fun r => r.num * ((s / r.den : Nat) : Int)
def clearedL (rs : List Rat) : List Int := leastL (liftL (lcmL rs) rs)
/-- a list of rationals -/
def RatLAt (K : PySem.W.Frag) (H : Hp) (v : V) (rs : List Rat) : Prop := ∃ a xs, v = .ref a ∧ SqL K H a xs ∧ Paired (RatAt K H) xs rs
theorem RatLAt.same {K : PySem.W.Frag} {H H' : Hp} (s : Same H H') {v : V} {rs : List Rat} : RatLAt K H v rs → RatLAt K H' v rs := fun ⟨a, xs, e, h, p⟩ => ⟨a, xs, e, Same.seq s h, p.mono fun _ _ h => h.same s⟩
def spCleared (K : PySem.W.Frag) : Sp := fun vs H Q _ => ∃ (v : V) (rs : List Rat), vs = [v] ∧ RatLAt K H v rs ∧ rs.length < 1000000 ∧ (∀ r ∈ rs, FitR 4400 r) ∧ (∀ i, lcmL (rs.take i) < 2 ^ 4400) ∧ ∀ v' H', Same H H' → RowAt K H' v' (clearedL rs) → Q v' H'
theorem small_of_fit {n : Nat} (h : n < 2 ^ 4400) : n < 2 ^ 8999 := Nat.lt_of_lt_of_le h (Nat.pow_le_pow_right (by decide) (by decide))
theorem lift_small {s : Nat} {rs : List Rat} (hs : s < 2 ^ 4400) (hr : ∀ r ∈ rs, FitR 4400 r) : Small (liftL s rs) := by
  intro n h
  obtain ⟨r, hm, rfl⟩ := List.mem_map.mp h
  have h1 : r.num.natAbs * (s / r.den) < 2 ^ 4400 * 2 ^ 4400 := Nat.mul_lt_mul'' (hr r hm).1 (Nat.lt_of_le_of_lt (Nat.div_le_self _ _) hs)
  rw [Int.natAbs_mul, Int.natAbs_natCast]
  refine Nat.lt_of_lt_of_le h1 ?_
  rw [← Nat.pow_add]
  exact Nat.pow_le_pow_right (by decide) (by decide)
section
variable {P : Program} {w : World} {K : PySem.W.Frag} {mg : Str → Option Value} {base : Heap}
end
end Ct

/-! The plain rows of a list of rows. -/
namespace Ct
open PySem PySem.Spec PyProof.Rows L2 TL
def idx (row : List Int) (c : Nat) : Int := (row[c]?).getD 0
def wo (p : List Int) (c : Nat) (r : List Int) : List Int := withoutL (idx r c) (idx p c) r p
abbrev Rowss := List (List Int)
def leadL (c : Nat) (rows : Rowss) : Rowss := rows.filter fun r => decide (idx r c ≠ 0)
def stepL (c : Nat) (st : Rowss × Rowss) : Rowss × Rowss := match leadL c st.1 with
  | [] => st
  | p :: _ => (st.1.map (wo p c), st.2.map (wo p c) ++ [p])
def elimL (n : Nat) (rows : Rowss) : Rowss × Rowss := (List.range n).foldl (fun st c => stepL c st) (rows, [])
theorem elim_next (n : Nat) (rows : Rowss) : elimL (n + 1) rows = stepL n (elimL n rows) := by
  unfold elimL
  rw [List.range_succ, List.foldl_append]
  rfl
theorem lead_zero {c : Nat} {r : List Int} (h : idx r c = 0) (l : Rowss) : leadL c (l ++ [r]) = leadL c l := by
  unfold leadL
  rw [List.filter_append, List.filter_cons_of_neg (by simp [h])]
  exact List.append_nil _
theorem lead_one {c : Nat} {r : List Int} (h : idx r c ≠ 0) (l : Rowss) : leadL c (l ++ [r]) = leadL c l ++ [r] := by
  unfold leadL
  rw [List.filter_append]
  congr 1
  exact List.filter_cons_of_pos (p := fun r => decide (idx r c ≠ 0)) (decide_eq_true h)
def firstL (r : List Int) : Int := ((notNil r)[0]?).getD 0
def plainOf (st : Rowss) : List (List Rat) := st.map fun r => ledL (firstL r) r
/-- a row with at least one number -/
def RowN (K : PySem.W.Frag) (H : Hp) (v : V) (ns : List Int) : Prop := RowAt K H v ns ∧ ns ≠ []
theorem RowN.same {K : PySem.W.Frag} {H H' : Hp} (s : Same H H') {v : V} {ns : List Int} (h : RowN K H v ns) : RowN K H' v ns := ⟨h.1.same s, h.2⟩
theorem RowN.list {K : PySem.W.Frag} {H : Hp} {D : Addr} {acc acc' : List V} (hD : H D = some (.lst acc)) (refs : ∀ x ∈ acc, ∃ b, x = V.ref b) {v : V} {ns : List Int} : RowN K H v ns → RowN K (upd H D (.lst acc')) v ns := fun ⟨⟨a, e, h⟩, n⟩ => ⟨⟨a, e, by
  by_cases na : a = D
  · subst na
    rcases h with (h | ⟨o, h⟩) | h
    · rw [hD] at h
      cases h
      obtain ⟨x, r, rfl⟩ := List.exists_cons_of_ne_nil n
      obtain ⟨b, e⟩ := refs (V.int x) (by rw [List.map_cons]; exact List.mem_cons_self)
      cases e
    · rw [hD] at h
      cases h
    · exact .inr h
  · rcases h with (h | ⟨o, h⟩) | h
    · exact .inl (.inl ((upd_ne na).trans h))
    · exact .inl (.inr ⟨o, (upd_ne na).trans h⟩)
    · exact .inr h⟩, n⟩
theorem row_refs {K : PySem.W.Frag} {H : Hp} {acc : List V} {rows : Rowss} (h : Paired (RowN K H) acc rows) : ∀ x ∈ acc, ∃ b, x = V.ref b := by
  induction h with
  | nil => exact fun _ h => nomatch h
  | cons r _ ih =>
    intro x hx
    rcases List.mem_cons.mp hx with rfl | hx
    · obtain ⟨⟨a, e, _⟩, _⟩ := r
      exact ⟨a, e⟩
    · exact ih x hx
/-- a comprehension whose items are rows -/
theorem comp_rows {β : Type} {K : PySem.W.Frag} {a : Addr} {xs : List V} {es : List β} {R : V → β → Prop} {f : β → List Int} {tl : TE} {g : TG} {te : TE} {vs : List Nat} {σ : L2.St} {H H1 : Hp} {Q : VK}
    (hl : ∀ R : VK, R (.ref a) H1 → tl σ H R) (hS : SqL K H1 a xs) (pr : Paired R xs es) (hz : xs.length < 1000000)
    (turn : ∀ x e H (Z : VK), R x e → e ∈ es → Same H1 H → (∀ y H4, Same H H4 → RowN K H4 y (f e) → Z y H4) → g x (wipe σ vs) H fun σ2 H2 => wipe σ2 vs = wipe σ vs ∧ te σ2 H2 Z)
    (hd : ∀ H' D acc, H1 D = none → Same H1 H' → H' D = some (.lst acc) → Paired (RowN K H') acc (es.map f) → Q (.ref D) H') : tLc (iList K tl) g tYes te vs σ H Q := by
  refine hl _ ⟨a, rfl, ⟨_, hS⟩, fun D hD => lc_list (xs := xs) (fun i H' => ∃ acc, H' D = some (.lst acc) ∧ Paired (RowN K H') acc ((es.take i).map f) ∧ Same H1 H') ⟨[], upd_same, .nil, same_upd hD⟩
    (fun i H' _ ⟨_, _, _, s⟩ => Same.seq s hS) (fun i x H' hx ⟨acc, h1, h2, s⟩ => ?_) fun H' ⟨acc, h1, h2, s⟩ => ?_⟩
  · obtain ⟨e, he, r⟩ := Paired.at pr hx
    simp only [tYes, if_true]
    refine turn x e H' _ r (List.mem_of_getElem? he) s (fun y H4 s4 r4 => ⟨acc, s4 _ _ h1, ?_, acc ++ [y], upd_same, ?_, ?_⟩)
    · have l1 := h2.length
      have l2 := pr.length
      have l3 := (List.getElem?_eq_some_iff.mp hx).1
      rw [List.length_map, List.length_take] at l1
      show acc.length < 16777216
      omega
    · rw [take_snoc he, List.map_append]
      have rf := row_refs h2
      exact (h2.mono fun v c q => (q.same s4).list (s4 _ _ h1) rf).snoc (r4.list (s4 _ _ h1) rf)
    · exact fun b o z => by
        have nb : b ≠ D := ne_of_none z hD
        rw [upd_ne nb]
        exact s4 _ _ (s _ _ z)
  · rw [show es.take xs.length = es by rw [pr.length, List.take_length]] at h2
    exact hd H' D acc hD s h1 h2
/-- rows of integers in a list -/
def RowsAt (K : PySem.W.Frag) (H : Hp) (v : V) (rows : Rowss) : Prop := ∃ a xs, v = .ref a ∧ SqL K H a xs ∧ Paired (RowN K H) xs rows
theorem RowsAt.same {K : PySem.W.Frag} {H H' : Hp} (s : Same H H') {v : V} {rows : Rowss} : RowsAt K H v rows → RowsAt K H' v rows := fun ⟨a, xs, e, h, p⟩ => ⟨a, xs, e, Same.seq s h, p.mono fun _ _ h => h.same s⟩
def Wide (wd : Nat) (rows : Rowss) : Prop := ∀ r ∈ rows, r.length = wd ∧ FitsI r
theorem into_asg {te : TE} {g : TG} {D : Ends} {σ : L2.St} {H : Hp} (h : te σ H fun x H1 => g x σ H1 D.nx) : tAsg te g D σ H := h
theorem into_op {r : R2} {ta tb : TE} {σ : L2.St} {H : Hp} {Q : VK} (h : ta σ H fun x H1 => tb σ H1 fun y H2 => r x y H2 Q) : tOp r ta tb σ H Q := h
theorem into_lst0 {g : TG} {r : TS} {D : Ends} {σ : L2.St} {H : Hp} (h : ∀ p, H p = none → g (.ref p) σ (upd H p (.lst [])) (r D)) : tSeq (tAsg (tLst tNil) g) r D σ H := ⟨by show 0 ≤ sizeLine; decide, fun p n => h p n⟩
theorem RatsAt.same {K : PySem.W.Frag} {H H' : Hp} (s : Same H H') {v : V} {rs : List Rat} : RatsAt K H v rs → RatsAt K H' v rs := fun ⟨a, xs, e, h, p⟩ => ⟨a, xs, e, SqT.same s h, p.mono fun _ _ h => h.same s⟩
theorem RatsAt.list {K : PySem.W.Frag} {H : Hp} {D : Addr} {acc acc' : List V} (hD : H D = some (.lst acc)) {v : V} {rs : List Rat} : RatsAt K H v rs → RatsAt K (upd H D (.lst acc')) v rs := fun ⟨a, xs, e, h, p⟩ => ⟨a, xs, e, SqT.list hD h, p.mono fun _ _ h => h.list hD⟩
def ClearOk (rs : List Rat) : Prop := rs.length < 1000000 ∧ (∀ r ∈ rs, FitR 4400 r) ∧ ∀ i, lcmL (rs.take i) < 2 ^ 4400
/-- a tuple of tuples of rationals -/
def RatssAt (K : PySem.W.Frag) (H : Hp) (v : V) (rows : List (List Rat)) : Prop := ∃ a xs, v = .ref a ∧ SqT K H a xs ∧ Paired (RatsAt K H) xs rows
/-- all that the elimination of these rows comes across -/
structure ElimOk (wd : Nat) (rows : Rowss) : Prop where
  few : rows.length < 1000000
  pos : 0 < wd
  wide : wd < 1000000
  state : ∀ n, n ≤ wd → Wide wd (elimL n rows).1 ∧ Wide wd (elimL n rows).2 ∧ (elimL n rows).1.length < 1000000 ∧ (elimL n rows).2.length < 1000000
  led : ∀ r ∈ (elimL wd rows).2, firstL r ≠ 0
def spPlain (K : PySem.W.Frag) : Sp := fun vs H Q _ => ∃ (a : Addr) (xs : List V) (rs : List (List Rat)) (wd : Nat), vs = [.ref a] ∧ SqL K H a xs ∧ Paired (RatLAt K H) xs rs ∧ (∀ r ∈ rs, ClearOk r) ∧ (rs = [] ∧ wd = 0 ∨ rs ≠ [] ∧ ElimOk wd (rs.map clearedL)) ∧
  ∀ v' H', Same H H' → RatssAt K H' v' (plainOf (elimL wd (rs.map clearedL)).2) → Q v' H'
section
variable {P : Program} {w : World} {K : PySem.W.Frag} {mg : Str → Option Value} {base : Heap}
end
end Ct

/-! Sums of rationals; the nought of the module. -/
namespace Ct
open PySem PySem.Spec PyProof.Rows L2 TL
structure ZeroT (K : PySem.W.Frag) (mg : Str → Option Value) (z : Addr) : Prop where
  mgZ : mg "ZERO" = some (.ref z)
  sq : ∀ H : Hp, SqT K H z [.int 0, .int 1]
theorem ZeroT.at {K : PySem.W.Frag} {mg : Str → Option Value} {z : Addr} (O : ZeroT K mg z) (H : Hp) : RatAt K H (.ref z) 0 := ⟨z, rfl, O.sq H⟩
def sumL (rs : List Rat) : Rat := rs.foldl (· + ·) 0
def spTotal (K : PySem.W.Frag) : Sp := fun vs H Q _ => ∃ (v : V) (rs : List Rat), vs = [v] ∧ RatLAt K H v rs ∧ (∀ r ∈ rs, FitR 4400 r) ∧ (∀ i, FitR 4400 (sumL (rs.take i))) ∧ ∀ v' H', Same H H' → RatAt K H' v' (sumL rs) → Q v' H'
section
variable {P : Program} {w : World} {K : PySem.W.Frag} {mg : Str → Option Value} {base : Heap} {z : Addr}
end
end Ct

/-! Where a row begins; what a set of equations tells. -/
namespace Ct
open PySem PySem.Spec PyProof.Rows L2 TL
def ratD (r : Rat) : PyData := .tuple [.int r.num, .int (r.den : Int)]
theorem RatAt.dp {K : PySem.W.Frag} {H : Hp} {v : V} {r : Rat} : RatAt K H v r → Dp K H v (ratD r) := fun ⟨t, e, h⟩ => e ▸ .tup h (.cons (.int _) (.cons (.int _) .nil))
theorem ratD_shaped (r : Rat) : SeqAt.shaped (ratD r) = true := rfl
theorem ratD_eqv (r s : Rat) : PyData.eqv (ratD r) (ratD s) = decide (r = s) := by
  have e : PyData.eqv (ratD r) (ratD s) = ((r.num == s.num) && (((r.den : Int) == (s.den : Int)) && true)) := rfl
  rw [e, Bool.and_true]
  by_cases h : r = s
  · subst h
    simp
  · rw [decide_eq_false h]
    by_cases hn : r.num = s.num
    · by_cases hd : r.den = s.den
      · exact absurd (Rat.ext hn hd) h
      · have : ((r.den : Int) == (s.den : Int)) = false := by simp; omega
        rw [this, Bool.and_false]
    · have : (r.num == s.num) = false := by simp [hn]
      rw [this, Bool.false_and]
def spFirst (K : PySem.W.Frag) : Sp := fun vs H Q _ => ∃ (v : V) (rs : List Rat) (j : Nat) (r : Rat), vs = [v] ∧ RatsAt K H v rs ∧ rs[j]? = some r ∧ r ≠ 0 ∧ (∀ m, m < j → rs[m]? = some 0) ∧ Q (.int j) H
section
variable {P : Program} {w : World} {K : PySem.W.Frag} {mg : Str → Option Value} {base : Heap} {z : Addr}
end
end Ct

/-! What a set of equations tells. -/
namespace Ct
open PySem PySem.Spec PyProof.Rows L2 TL
def placeOf (r : List Rat) : Nat := r.findIdx fun x => decide (x ≠ 0)
def lastOf (r : List Rat) : Rat := r.getLast?.getD 0
def solL (rows : List (List Rat)) (many : Nat) : List Rat := rows.foldl (fun f r => f.set (placeOf r) (lastOf r)) (List.replicate many 0)
theorem ixN_nat {n j : Nat} (h : j < n) : ixN n (j : Int) = some j := by
  unfold ixN
  simp
  exact h
theorem sol_len : ∀ (rows : List (List Rat)) (f : List Rat), (rows.foldl (fun f r => f.set (placeOf r) (lastOf r)) f).length = f.length
  | [], _ => rfl
  | r :: rs, f => by
    show (rs.foldl _ (f.set _ _)).length = _
    rw [sol_len rs, List.length_set]
theorem pair_set {α β : Type} {R : α → β → Prop} : ∀ {xs : List α} {ys : List β} (j : Nat) {x : α} {y : β}, Paired R xs ys → R x y → Paired R (xs.set j x) (ys.set j y)
  | _, _, _, _, _, .nil, _ => .nil
  | _, _, 0, _, _, .cons _ t, r => .cons r t
  | _, _, j + 1, _, _, .cons h t, r => .cons h (pair_set j t r)
theorem pair_rep {α β : Type} {R : α → β → Prop} {x : α} {y : β} (h : R x y) : ∀ n : Nat, Paired R (List.replicate n x) (List.replicate n y)
  | 0 => .nil
  | n + 1 => .cons h (pair_rep h n)
theorem flat_one {α : Type} (x : α) : ∀ n : Nat, (List.replicate n [x]).flatten = List.replicate n x
  | 0 => rfl
  | n + 1 => by
    show [x] ++ (List.replicate n [x]).flatten = x :: List.replicate n x
    rw [flat_one x n]
    rfl
theorem place_is {r : List Rat} (h : placeOf r < r.length) : ∃ q, r[placeOf r]? = some q ∧ q ≠ 0 ∧ ∀ m, m < placeOf r → r[m]? = some 0 := by
  refine ⟨r[placeOf r], List.getElem?_eq_getElem h, of_decide_eq_true (List.findIdx_getElem (p := fun x : Rat => decide (x ≠ 0)) (w := h)), fun m hm => ?_⟩
  have lm : m < r.length := Nat.lt_trans hm h
  have := List.not_of_lt_findIdx (p := fun x : Rat => decide (x ≠ 0)) hm
  rw [List.getElem?_eq_getElem lm]
  simp at this
  rw [this]
theorem paired_last {R : V → Rat → Prop} {xs : List V} {ys : List Rat} (h : Paired R xs ys) (ne : ys ≠ []) : ∃ x, atI xs (-1) = some x ∧ R x (lastOf ys) := by
  have l := h.length
  have nx : xs ≠ [] := fun z => by
    rw [z] at l
    exact ne (List.eq_nil_of_length_eq_zero l.symm)
  obtain ⟨xa, xb, rfl⟩ : ∃ (xa : List V) (xb : V), xs = xa ++ [xb] := by
    rcases List.eq_nil_or_concat xs with z | ⟨xa, xb, e⟩
    · exact absurd z nx
    · exact ⟨xa, xb, by rw [e, List.concat_eq_append]⟩
  have at_l : (xa ++ [xb])[xa.length]? = some xb := by simp
  obtain ⟨y, hy, r⟩ := Paired.at h at_l
  refine ⟨xb, atI_last xa xb, ?_⟩
  rw [List.length_append, List.length_singleton] at l
  have e : ys.length - 1 = xa.length := by omega
  unfold lastOf
  rw [List.getLast?_eq_getElem?, e, hy]
  exact r
/-- a row that begins below many -/
def BeginsIn (many : Nat) (r : List Rat) : Prop := placeOf r < many ∧ placeOf r < r.length
def spSolution (K : PySem.W.Frag) : Sp := fun vs H Q _ => ∃ (a : Addr) (xs : List V) (rs : List (List Rat)) (wd many : Nat), vs = [.ref a, .int many] ∧ SqL K H a xs ∧ Paired (RatLAt K H) xs rs ∧ (∀ r ∈ rs, ClearOk r) ∧ (rs = [] ∧ wd = 0 ∨ rs ≠ [] ∧ ElimOk wd (rs.map clearedL)) ∧ many < 1000000 ∧
  (∀ r ∈ plainOf (elimL wd (rs.map clearedL)).2, BeginsIn many r) ∧ ∀ p xf H', Same H H' → H p = none → H' p = some (.lst xf) → Paired (RatAt K H') xf (solL (plainOf (elimL wd (rs.map clearedL)).2) many) → Q (.ref p) H'
section
variable {P : Program} {w : World} {K : PySem.W.Frag} {mg : Str → Option Value} {base : Heap} {z : Addr}
end
end Ct

/-! A set of texts: made by a comprehension, sorted. -/
namespace Ct
open PySem PySem.Spec PyProof.Rows L2 TL
/-- at a stands a set of just the texts of l, each once, whose table can be walked -/
def TxSet (P : Program) (w : World) (h : Heap) (a : Addr) (l : List Str) : Prop :=
  ∃ D : Froz.SD, h.get? a = some (Froz.sObj "set" D) ∧ Froz.TxOk P w D l ∧ l.Nodup ∧ Ris D.2.2.place.toList ∧ (w.params.followText "set-order" = true ∨ D.2.2.led = true)
/-- l with c in it -/
def addS (c : Str) (l : List Str) : List Str := if c ∈ l then l else c :: l
theorem addS_mem {c x : Str} {l : List Str} : x ∈ addS c l ↔ x = c ∨ x ∈ l := by
  unfold addS
  split
  · rename_i h
    exact ⟨.inr, fun z => z.elim (fun e => e ▸ h) id⟩
  · exact List.mem_cons
theorem addS_len (c : Str) (l : List Str) : (addS c l).length ≤ l.length + 1 := by
  unfold addS
  split
  · exact Nat.le_succ _
  · exact Nat.le_refl _
theorem tail_ris (ep : Nat) (es : Array (Int × Value)) (t : SetTable) (wd : Bool) (r : Ris t.place.toList) : Ris (Froz.tailTx ep es t wd).2.2.place.toList ∧ (Froz.tailTx ep es t wd).2.2.led = t.led := by
  unfold Froz.tailTx
  split
  · exact ⟨relayAll_ris _ _ _, relayAll_led _ _ _⟩
  · exact ⟨r, rfl⟩
theorem lay_ris (hs : Int) (v : Value) (D : Froz.SD) (r : Ris D.2.2.place.toList) : Ris (Froz.addTx hs v D).2.2.place.toList ∧ (Froz.addTx hs v D).2.2.led = D.2.2.led := by
  have r1 := layNew_ris D.2.2 D.1 hs v r
  have l1 := layNew_led D.2.2 D.1 hs v
  unfold Froz.addTx
  generalize layNew D.2.2 D.1 hs v = Z at r1 l1 ⊢
  have q : Ris (if Z.2.1.plain = true then { Z.2.1 with plain := false } else Z.2.1).place.toList ∧ (if Z.2.1.plain = true then { Z.2.1 with plain := false } else Z.2.1).led = D.2.2.led := by
    split
    · exact ⟨r1, l1⟩
    · exact ⟨r1, l1⟩
  have z := tail_ris D.2.1 Z.1 _ Z.2.2.1 q.1
  exact ⟨z.1, z.2.trans q.2⟩
theorem perm_sub {α : Type} [DecidableEq α] : ∀ (l m : List α), l.Nodup → (∀ x ∈ l, x ∈ m) → m.length ≤ l.length → m.Perm l
  | [], m, _, _, h => by
    rw [List.eq_nil_of_length_eq_zero (Nat.le_zero.mp h)]
  | x :: r, m, nd, sub, h => by
    obtain ⟨n1, n2⟩ := List.nodup_cons.mp nd
    have hx := sub x List.mem_cons_self
    refine (List.perm_cons_erase hx).trans ((perm_sub r (m.erase x) n2 (fun y hy => ?_) ?_).cons x)
    · exact (List.mem_erase_of_ne fun e : y = x => n1 (by rw [← e]; exact hy)).mpr (sub y (List.mem_cons_of_mem _ hy))
    · rw [List.length_erase_of_mem hx]
      rw [List.length_cons] at h
      omega
section
variable {P : Program} {w : World} {A : Around} {E : Value → Shared → Prop} {s : Shared} {a : Addr} {l : List Str}
theorem TxSet.at {h h' : Heap} (R : TxSet P w h a l) (k : ∀ o, h.get? a = some o → h'.get? a = some o) : TxSet P w h' a l := by
  obtain ⟨D, ho, r⟩ := R
  exact ⟨D, k _ ho, r⟩
theorem TxSet.once {h : Heap} (R : TxSet P w h a l) : l.Nodup := by
  obtain ⟨_, _, _, nd, _⟩ := R
  exact nd
theorem tx_hashed {k : Str} {u : Tok} {Q : Bool → Shared → Prop} (R : TxSet P w s.heap a l) (room : l.length + 1 < scanBound)
    (hQ : ∀ b h', Heap.SameBut a s.heap h' → TxSet P w h' a (addS k l) → Q b { s with heap := h' }) : wpAny (model P w) A (setAddHashed a (.str k u) (hashStr w k)) Q E s := by
  obtain ⟨D, ho, F, nd, r, hl⟩ := R
  by_cases hk : k ∈ l
  · have R2 : TxSet P w s.heap a (addS k l) := by
      unfold addS
      rw [if_pos hk]
      exact ⟨D, ho, F, nd, r, hl⟩
    obtain ⟨es, ep, t⟩ := D
    have dat : (Froz.sObj "set" (es, ep, t)).data = .set es ep t := rfl
    have size : es.size = l.length := F.sz
    obtain ⟨e, he, q⟩ := (F.mem k).mp hk
    have found : ∃ j, List.findIdx? (fun e => (strKind P w).is k e.2) es.toList = some j := by
      cases z : List.findIdx? (fun e => (strKind P w).is k e.2) es.toList with
      | some j => exact ⟨j, rfl⟩
      | none =>
        have y := List.findIdx?_eq_none_iff.mp z e he
        rw [q] at y
        cases y
    obtain ⟨j, hj⟩ := found
    unfold setAddHashed setAddHashedIn
    refine wpAny_holding (wpAny_bind (wpAny_setState_of ho dat F.fit ?_))
    dsimp only
    rw [byScan_of (knd := strKind P w) rfl (by show es.size < scanBound; omega) F.el]
    simp only [↓reduceIte]
    unfold setAddByScan
    refine wpAny_bind (wpAny_bind (wpAny_rule (wpAny_bind (wpAny_setScan_of (knd := strKind P w) (k := k) (Froz.is_str k u) ho dat F.fit F.el ?_))))
    rw [hj]
    exact wpAny_pure (wpAny_pure (hQ _ s.heap (Heap.SameBut.refl a s.heap) R2))
  · refine Froz.add_x ho F hk room ?_
    have r2 := lay_ris (hashStr w k) (.str k u) D r
    have he : (s.heap.update a fun _ => Froz.sObj "set" (Froz.addTx (hashStr w k) (.str k u) D)).get? a = some (Froz.sObj "set" (Froz.addTx (hashStr w k) (.str k u) D)) := Froz.get_upd _ ho rfl
    refine hQ _ _ (Heap.SameBut.update _ _ _) ⟨_, he, ?_⟩
    unfold addS
    rw [if_neg hk]
    exact ⟨Froz.add_ok u F, List.nodup_cons.mpr ⟨hk, nd⟩, r2.1, hl.imp id fun z => r2.2.trans z⟩
/-- found.add(k) -/
theorem tx_add {k : Str} {u : Tok} {Q : Value → Shared → Prop} (R : TxSet P w s.heap a l) (room : l.length + 1 < scanBound)
    (hQ : ∀ h', Heap.SameBut a s.heap h' → TxSet P w h' a (addS k l) → Q .none { s with heap := h', toks := s.toks + 1 }) : wpAny (model P w) A (call (.builtin "set.add") [.ref a, .str k u]) Q E s := by
  have ty : s.TypeIs (.ref a) "set" := by
    obtain ⟨D, ho, _⟩ := R
    exact ⟨_, ho, rfl⟩
  refine wpAny_call_entry F.slot_set_add ty F.entry_set_add ?_ (F.args_set_add_2 _ _)
  unfold Builtin.«set.add» Builtin.Frozenset.oneOther Builtin.Frozenset.addrOf setAdd
  simp only [List.isEmpty_nil, bind_assoc]
  refine wpAny_bind (wpAny_pure ?_)
  try dsimp only
  refine wpAny_bind (wpAny_pure ?_)
  try dsimp only
  refine wpAny_bind (wpAny_holding (wpAny_bind ((strKind P w).pyHash (Froz.is_str k u) ?_)))
  refine tx_hashed (s := { s with toks := s.toks + 1 }) R room fun b h' sb r => ?_
  exact wpAny_pure ⟨_, rfl, hQ h' sb r⟩
theorem tx_sorted {Q : Value → Shared → Prop} (R : TxSet P w s.heap a l) (hh : A.handled = none) (few : l.length < 64)
    (hQ : ∀ s' p (out : Array Value) (c : Nat) (ys : List Str), (∀ b o, s.heap.get? b = some o → s'.heap.get? b = some o) → s'.gens = s.gens → s'.os = s.os → s.heap.objs.size ≤ p →
      s'.heap.get? p = some (seqObj "list" out c) → StrsAre out.toList ys → ys.Perm l → sortedS ys = true → Q (.ref p) s') : wpAny (model P w) A (call (.builtin "sorted") [.ref a]) Q E s := by
  obtain ⟨D, ho, F, nd, r, hl⟩ := R
  obtain ⟨es, ep, t⟩ := D
  have size : es.size = l.length := F.sz
  refine Calls.call_function_entry kind_sorted plain_sorted entry_sorted (args_sorted1 _) ?_
  unfold Builtin.«sorted»
  refine wpAny_bind (m := checkCount "sorted" 1 1 _) (wpAny_pure (wpAny_bind (collect_set (A := A.in1) hh ⟨_, ho, rfl, rfl⟩ F.fit (by rw [size]; exact Nat.lt_trans few (by decide)) r hl fun s1 vs k1 hz g1 o1 pm => ?_)))
  have all : ∀ v ∈ vs, ∃ x y, v = Value.str x y := fun v hv => by
    obtain ⟨e, he, q⟩ := List.mem_map.mp (pm.mem_iff.mp hv)
    obtain ⟨⟨k, h1, _⟩, _⟩ := F.el e he
    have h1 : Value.isStrOf k e.2 = true := h1
    cases z : e.2 with
    | str x y => exact ⟨x, y, by rw [← q]; exact z⟩
    | _ => rw [z] at h1; cases h1
  have S := strsAre_map vs all
  have lv : vs.length = l.length := by
    rw [pm.length_eq, List.length_map, Array.length_toList]
    exact size
  -- the texts of the table are l's, in another sequence
  have perm : (vs.map strOf).Perm l := by
    have sub : ∀ x, x ∈ l → x ∈ vs.map strOf := fun x hx => by
      obtain ⟨e, he, q⟩ := (F.mem x).mp hx
      have q : Value.isStrOf x e.2 = true := q
      refine List.mem_map.mpr ⟨e.2, pm.mem_iff.mpr (List.mem_map_of_mem he), ?_⟩
      cases z : e.2 with
      | str y tk =>
        rw [z] at q
        have : y = x := by simpa [Value.isStrOf] using q
        rw [this]
        rfl
      | _ => rw [z] at q; cases q
    exact perm_sub l _ nd sub (by rw [List.length_map, lv]; exact Nat.le_refl _)
  refine wpAny_bind (wpAny_newList ?_ (by rw [lv, sizeLine_eq]; omega))
  have new : (s1.heap.push (seqObj "list" vs.toArray 0)).get? s1.heap.objs.size = some (seqObj "list" vs.toArray 0) := Heap.get?_push_size _ rfl
  refine wpAny_bind (wpAny_holding (wpAny_call_entry slot_list_sort ⟨_, new, rfl⟩ entry_list_sort (list_sort_treeKAny strKind_oneLt new S.keysOf (fun v₁ v₂ rest e => keyKind_strs (by rw [← e]; exact S)) (by rw [lv, sizeLine_eq]; omega)
    fun st' hp hs => ?_) (args_list_sort _)))
  obtain ⟨ys, h1, h2, h3⟩ := sorted_out_str S hp hs
  refine ⟨_, rfl, ?_⟩
  obtain ⟨c, hc⟩ := sortedHeap_at (vs := vs) (out := (arrOf st').map (·.2)) new
  refine wpAny_pure ⟨_, rfl, hQ _ s1.heap.objs.size _ c ys (fun b u e => ?_) g1 o1 hz hc h1 (h2.trans perm) h3⟩
  have q := k1 b u e
  have lt := Heap.lt_size q
  exact (sortedHeap_old (Nat.ne_of_lt lt) (by rw [size_push']; exact Nat.lt_succ_of_lt lt)).trans (Heap.get?_push_of_some _ q)
end
/-- the set of the texts l, as an object of the abstract heap -/
def TxO (P : Program) (w : World) (a : Addr) (l : List Str) : HO := .ext fun h => TxSet P w h a l
theorem txO_new {P : Program} {w : World} {H : Hp} {h : Heap} {a : Addr} {l : List Str} (R : TxSet P w h a l) : ObjOk P w H h a (TxO P w a l) := by
  have he : ∃ o, h.get? a = some o := by
    obtain ⟨D, ho, _⟩ := R
    exact ⟨_, ho⟩
  exact ⟨R, he, fun _ _ p k => TxSet.at p k⟩
section
variable {X : Cx}
theorem txO_get {pins : List (Addr × Obj)} {σ : L2.St} {H : Hp} {s : Shared} {a : Addr} {l : List Str} (I : Inv X pins σ H s) (ha : H a = some (TxO X.prog X.w a l)) : TxSet X.prog X.w s.heap a l := (I.hok a _ ha).1
theorem txO_add {pins : List (Addr × Obj)} {σ : L2.St} {H : Hp} {s : Shared} {E : Value → Shared → Prop} {D : Addr} {l : List Str} {y : Str} {u : Tok} {Q : Value → Shared → Prop} (I : Inv X pins σ H s) (hD : H D = some (TxO X.prog X.w D l)) (room : l.length + 1 < scanBound)
    (h : ∀ s', Inv X pins σ (upd H D (TxO X.prog X.w D (addS y l))) s' → Q .none s') : wpAny (model X.prog X.w) X.A (call (.builtin "set.add") [.ref D, .str y u]) Q E s := by
  refine tx_add (txO_get I hD) room fun h' sb new => h _ (I.write (e := D) (t' := s.toks + 1) (by rw [hD]; trivial) (.inl rfl) (fun b u hb hu => (sb.2 b hb).trans hu) ?_ (txO_new new))
  obtain ⟨D', ho, _⟩ := new
  exact ⟨_, ho⟩
/-- sorted(found), fewer than 64 texts -/
def rSortedTx (X : Cx) : List V → Hp → VK → Prop := fun vs H Q => ∃ (a : Addr) (l : List Str), vs = [V.ref a] ∧ H a = some (TxO X.prog X.w a l) ∧ l.length < 64 ∧
  ∀ (ys : List Str) (p : Addr), ys.Perm l → l.Nodup → sortedS ys = true → H p = none → Q (.ref p) (upd H p (.lst (ys.map V.str)))
theorem cr_sortedTx (calm : X.calm = true) : CallR X (.builtin "sorted") (rSortedTx X) := by
  intro pins s σ H vs us Q I r ⟨a, l, e, ha, few, q⟩
  subst e
  rw [Vals.ref1 r]
  have R := txO_get I ha
  refine tx_sorted R (I.ok.hd calm) few fun s' p out c ys k g o hp new ai pm so => ?_
  have none : H p = Option.none := I.hok.fresh hp
  have len : (ys.map V.str).length ≤ sizeLine := by rw [List.length_map, pm.length_eq, sizeLine_eq]; omega
  have J : Inv X pins σ (upd H p (.lst (ys.map V.str))) { s with heap := s'.heap, gens := s'.gens, drawn := s'.drawn, toks := s'.toks } :=
    I.call (ch := []) (Un.laid k hp none) (I.hok.laid k hp ⟨len, out.toList, c, vals_of_strs ai, new⟩) (by rw [g]; exact I.bare) (fun _ z => nomatch z)
  have same : s' = { s with heap := s'.heap, gens := s'.gens, drawn := s'.drawn, toks := s'.toks } := by
    cases s'
    cases s
    cases o
    rfl
  rw [same]
  exact ⟨.ref p, _, J, rfl, q ys p pm R.once so none⟩
/-- {elt for target in iter if ..}, elt a text: D the new set -/
def tScT (P : Program) (w : World) (wi : TI) (g : TG) (tt : TT) (te : TE) (vs : List Nat) : TE := fun σ H Q => wi σ H fun J H1 => ∀ D, H1 D = none → ∃ W : Nat → Nat → Hp → Prop, (∃ m, W 0 m (upd H1 D (TxO P w D []))) ∧ ∀ i m G, W i m G →
  (J.stop i G ∧ Q (.ref D) G) ∨ (J.go i G ∧ ∃ Nx : Hp → Prop, (∀ G', Nx G' → ∃ m', m' < m ∧ W (i + 1) m' G') ∧ ∀ x G', J.yld i G x G' → g x (wipe σ vs) G' fun σ2 H2 => wipe σ2 vs = wipe σ vs ∧ tt σ2 H2 fun b H3 =>
    if b = true then te σ2 H3 fun y H4 => ∃ (c : Str) (l : List Str), y = .str c ∧ H4 D = some (TxO P w D l) ∧ l.length + 1 < scanBound ∧ Nx (upd H4 D (TxO P w D (addS c l))) else Nx H3)
/-- an empty set -/
theorem tx_fresh {P : Program} {h : Heap} (w : World) : TxSet P w (h.push { cls := .type "set", dict := none, data := .set #[] 0 (.fresh 0 0 (!w.params.followText "set-order")) }) h.objs.size [] := by
  refine ⟨(#[], 0, .fresh 0 0 (!w.params.followText "set-order")), Heap.get?_push_size _ rfl, Froz.TxOk.nil rfl, List.nodup_nil, List.Pairwise.nil, ?_⟩
  show _ ∨ (!w.params.followText "set-order") = true
  cases w.params.followText "set-order"
  · exact .inr rfl
  · exact .inl rfl
theorem pe_scT {elt tg iter : Expr} {ifs : List Expr} {scope : Scope} {own : List (PySem.Str × Nat)} {pos : Pos} {wi : TI} {g : TG} {tt : TT} {te : TE} (hc : X.calm = true) (hN : X.N.Nodup) (hi : PI X tg iter wi) (ok : BlkOk X.N X.env.scope scope own)
    (hg : ∀ (s : Shared) (H : Hp) (C : Addr) (cl : List (PySem.Str × Addr)) (fp : List Addr), PG (X.blk s H scope (compEnvC scope cl C X.env) fp) tg g) (ht : ∀ (s : Shared) (H : Hp) (C : Addr) (cl : List (PySem.Str × Addr)) (fp : List Addr), PTs (X.blk s H scope (compEnvC scope cl C X.env) fp) ifs tt)
    (he : ∀ (s : Shared) (H : Hp) (C : Addr) (cl : List (PySem.Str × Addr)) (fp : List Addr), PE (X.blk s H scope (compEnvC scope cl C X.env) fp) elt te) (hs : ∀ x, foldedSetIterable iter X.env x = pure x := by intro _; rfl) :
    PE X (.SetComp elt [⟨tg, iter, ifs, 0⟩] scope pos) (tScT X.prog X.w wi g tt te (own.map (·.2))) := by
  constructor
  intro pins s σ H Q I h
  rw [PpSet.eval_SetComp]
  have free : ∀ y ∈ scope.names, y.2 = .free → ∃ c, X.env.cells.lookup y.1 = some c := fun y hy e => (ok.free y hy e).elim (fun k => I.ok.has _ (.inl k)) fun k => I.ok.has _ (.inr k)
  refine wpAny_comprehension_free rfl hs (closure_ok free) ok.kind (fun y hy e => by rw [ok.uniq y hy, e]) (thn (hi.run pins s σ H _ I h) fun _ s1 h1 => thn h1 fun _ s2 h2 => ?_)
  obtain ⟨it, fp, tn, J, H2, e0, I2, T, st2, f2, q⟩ := h2
  subst e0
  refine PpSet.newSet_ok (newEnv_comp ?_)
  generalize hD : s2.heap.objs.size = D
  obtain ⟨W, ⟨m0, w0⟩, turn⟩ := q D (I2.hok.fresh (Nat.le_of_eq hD))
  -- the set stands, empty
  generalize hT : TxO X.prog X.w D [] = T0 at w0
  have stay : ∀ b o, s2.heap.get? b = some o → (s2.heap.push { cls := .type "set", dict := none, data := .set #[] 0 (.fresh 0 0 (!X.w.params.followText "set-order")) }).get? b = some o := fun b o e => Heap.get?_push_of_some _ e
  have I3 : Inv X pins σ (upd H2 D T0) { s2 with heap := s2.heap.push { cls := .type "set", dict := none, data := .set #[] 0 (.fresh 0 0 (!X.w.params.followText "set-order")) } } := by
    refine I2.laid (t' := s2.toks) stay (Nat.le_of_eq hD) ?_
    rw [← hT, ← hD]
    exact txO_new (tx_fresh X.w)
  have room : ∀ b ∈ fp, b < s2.heap.objs.size := fun b hb => by
    obtain ⟨o, e, _⟩ := T.obj _ _ st2 b hb
    exact Heap.lt_size e
  have grow : ∀ b ∈ fp, b < (s2.heap.push { cls := .type "set", dict := none, data := .set #[] 0 (.fresh 0 0 (!X.w.params.followText "set-order")) }).objs.size := fun b hb => by
    rw [Heap.size_push]
    exact Nat.lt_succ_of_lt (room b hb)
  have st3 := T.keep _ _ _ st2 fun b _ o e => stay b o e
  generalize hs3 : ({ s2 with heap := s2.heap.push { cls := .type "set", dict := none, data := .set #[] 0 (.fresh 0 0 (!X.w.params.followText "set-order")) } } : Shared) = s3 at I3
  have h3 : s3.heap = s2.heap.push { cls := .type "set", dict := none, data := .set #[] 0 (.fresh 0 0 (!X.w.params.followText "set-order")) } := by rw [← hs3]
  rw [← h3] at st3 grow
  have f3 : ∀ b ∈ fp, FpOk X pins (upd H2 D T0) b ∧ b < s3.heap.objs.size := fun b hb =>
    ⟨⟨(upd_ne (by rw [← hD]; exact Nat.ne_of_lt (room b hb))).trans (f2 b hb).1, (f2 b hb).2⟩, grow b hb⟩
  generalize upd H2 D T0 = H3 at I3 f3 w0
  have I4 := block_start I3 ok hN f3
  generalize hcl : cellsFrom (s3.heap.objs.size + 1) scope.names (cloFrom X.env.cells scope.names []) = cl at I4
  have pg := hg s3 H3 s3.heap.objs.size cl fp
  have pt := ht s3 H3 s3.heap.objs.size cl fp
  have pe := he s3 H3 s3.heap.objs.size cl fp
  suffices main : codeAny (model X.prog X.w) X.A (.compStart (.SetComp elt [⟨tg, iter, ifs, 0⟩] scope pos) 0 (.ref it) (.ref D) (compEnvC scope cl s3.heap.objs.size X.env)) (compPost (model X.prog X.w) X.A X.xe none (fun v s' => ∃ x H', Inv X pins σ H' s' ∧ RelV x v ∧ Q x H') (.ref D) s3.heap.objs.size)
      { s3 with heap := pushCells (s3.heap.push { cls := .type "dict", data := .dict #[] }) scope.names } by
    exact main
  generalize hce : compEnvC scope cl s3.heap.objs.size X.env = ce at I4 pg pt pe ⊢
  have cL : ce.locals = s3.heap.objs.size := by rw [← hce]; rfl
  generalize hs4 : ({ s3 with heap := pushCells (s3.heap.push { cls := .type "dict", data := .dict #[] }) scope.names } : Shared) = s4 at I4 ⊢
  have st4 : tn 0 s4.heap := T.keep _ _ _ st3 fun b _ o e => by
    rw [← hs4]
    exact pushCells_keeps _ _ _ _ (Heap.get?_push_of_some _ e)
  -- what the walk holds stands apart
  have apart : ∀ {τ : L2.St} {H' : Hp} {s' : Shared}, Inv (X.blk s3 H3 scope ce fp) [] τ H' s' → (∀ b ∈ fp, H' b = none) → ∀ b ∈ fp, FpOk (X.blk s3 H3 scope ce fp) [] H' b := fun {τ H' s'} I' z b hb =>
    ⟨z b hb, (I'.ok.exf b hb).1, I'.ok.exfs b hb, .inl hb, fun x c e => (I'.ok.exf b hb).2 x c e, fun p hp => nomatch (show p ∈ ([] : List (Addr × Obj)) from by simpa using hp)⟩
  have loop : codeAny (model X.prog X.w) X.A (.compLoop (.SetComp elt [⟨tg, iter, ifs, 0⟩] scope pos) 0 (.ref it) (.ref D) ce) (compPost (model X.prog X.w) X.A X.xe none (fun v s' => ∃ x H', Inv X pins σ H' s' ∧ RelV x v ∧ Q x H') (.ref D) s3.heap.objs.size) s4 := by
    refine PpSet.compLoopS_any (fun n s' => ∃ i H', Inv (X.blk s3 H3 scope ce fp) [] (wipe σ (own.map (·.2))) H' s' ∧ tn i s'.heap ∧ (∀ b ∈ fp, H' b = none) ∧ W i n H') ?_ m0 ⟨0, H3, I4, st4, fun b hb => (f3 b hb).1.1, w0⟩
    rintro n s5 ⟨i, H5, I5, st5, n5, w5⟩
    rcases turn i n H5 w5 with ⟨stop, qq⟩ | ⟨go, Nx, hNx, step⟩
    · refine thnF (T.done (X.blk s3 H3 scope ce fp) rfl rfl rfl hc i [] s5 _ H5 (fun _ _ => False) I5 (apart I5 n5) st5 stop) fun r s6 ⟨hr, I6⟩ => ?_
      subst hr
      have I7 : Inv X pins σ H5 s6 := I3.call' (ch := fp) I6.os I6.base I6.hok I6.bare fun b hb => let z := (f3 b hb).1.2; ⟨z.2.2.1, z.1, z.2.2.2.1, z.2.2.2.2⟩
      have nC : H5 s3.heap.objs.size = none := cL ▸ I6.free
      obtain ⟨m, hn, _⟩ := I6.loc
      have hn : s6.heap.Ns ce.locals m := hn
      rw [cL] at hn
      refine ⟨m, hn, fun h'' sb => ?_⟩
      obtain ⟨z0, z1, z2, z3, z4, z5⟩ := I3.fpOk (Nat.le_refl _) nC
      exact ⟨.ref D, H5, I7.turned (t' := s6.toks) (fun b o hb e => (sb.2 b hb).trans e) z0 z1 z3 z4 z5, rfl, qq⟩
    · refine thnF (T.item (X.blk s3 H3 scope ce fp) rfl rfl rfl hc i [] s5 _ H5 (fun _ _ => False) I5 (apart I5 n5) st5 go) fun r s6 ⟨u, hr, h6⟩ => ?_
      subst hr
      refine thnF h6 fun _ s7 ⟨x, H7, I7, r7, y7, st7, n7⟩ => ?_
      refine thnF (pg.run _ s7 _ H7 x u _ (I7.pinned (apart I7 n7) (T.obj _ _ st7)) r7 (step x H7 y7)) fun _ s8 ⟨τ, H8, I8, hw8, q8⟩ => ?_
      have next : ∀ {s' : Shared} {H' : Hp}, Inv (X.blk s3 H3 scope ce fp) ([] ++ pinsAt fp s7.heap) τ H' s' → Nx H' → ∃ m, m < n ∧ ∃ i H', Inv (X.blk s3 H3 scope ce fp) [] (wipe σ (own.map (·.2))) H' s' ∧ tn i s'.heap ∧ (∀ b ∈ fp, H' b = none) ∧ W i m H' := fun {s' H'} I' nx => by
        obtain ⟨m', hm, w'⟩ := hNx H' nx
        have held : ∀ b ∈ fp, ∀ o, s7.heap.get? b = some o → s'.heap.get? b = some o ∧ H' b = none := fun b hb o e => by
          have z := I'.pin (b, o) (List.mem_append_right _ (List.mem_append_right _ (mem_pinsAt hb e)))
          exact ⟨z.1, z.2.1⟩
        refine ⟨m', hm, i + 1, H', (I'.unpinned (pins := [])).weak (by rw [← hw8, wipe_length]) (fun j v e => (wipe_some (hw8 ▸ e)).1), T.keep _ _ _ st7 fun b hb o e => (held b hb o e).1, fun b hb => ?_, w'⟩
        obtain ⟨o, e, _⟩ := T.obj _ _ st7 b hb
        exact (held b hb o e).2
      refine thnF (pt.run _ s8 τ H8 _ I8 q8) fun b s9 ⟨H9, I9, q9⟩ => ?_
      cases b with
      | false =>
        simp only [Bool.false_eq_true, if_false] at q9 ⊢
        exact next I9 q9
      | true =>
        simp only [if_true] at q9 ⊢
        refine thnF (pe.run _ s9 τ H9 _ I9 q9) fun z s10 ⟨yv, H10, I10, r10, cb, l0, ey, hD10, hz10, nx⟩ => ?_
        subst ey
        obtain ⟨tk, rfl⟩ : ∃ tk, z = Value.str cb tk := r10
        exact txO_add (X := X.blk s3 H3 scope ce fp) I10 hD10 hz10 fun s11 I11 => next I11 nx
  exact PpSet.codeAny_compStart_set loop (T.self X.A 0 _ _ _ st4 loop)
end
end Ct

/-! Numbers as texts: what the reader of fractions asks of them. -/
namespace Ct
open PySem PySem.Spec PyProof.Rows L2 TL
theorem numL_head {n : Nat} : n ≠ 0 → ∃ c r, numL n = c :: r ∧ c ≠ 48 := by
  induction n using Nat.strongRecOn with
  | _ n ih =>
    intro h
    by_cases h10 : n < 10
    · exact ⟨48 + n, [], numL_lt h10, by omega⟩
    · obtain ⟨c, r, e, hc⟩ := ih (n / 10) (by omega) (by omega)
      exact ⟨c, r ++ [48 + n % 10], by rw [numL_step (by omega), e]; rfl, hc⟩
theorem tl_numText (i : Int) : tl (numText i) = if i < 0 then 45 :: numL i.natAbs else numL i.natAbs := by
  unfold numText
  split
  · rename_i h
    obtain ⟨n, rfl⟩ : ∃ n : Nat, i = Int.negSucc n := ⟨i.natAbs - 1, by omega⟩
    have e : toString (Int.negSucc n) = "-" ++ toString (n + 1) := rfl
    rw [e, tl_ofString, String.toList_append, List.map_append, ← tl_ofString (toString (n + 1))]
    have q := tl_num (n + 1)
    have z : toString (((n + 1 : Nat)) : Int) = toString (n + 1) := rfl
    rw [z] at q
    rw [q]
    rfl
  · rename_i h
    obtain ⟨n, rfl⟩ := Int.eq_ofNat_of_zero_le (show 0 ≤ i by omega)
    exact tl_num n
/-- the digits alone -/
def dig (i : Int) : Str := ⟨(numL i.natAbs).toArray⟩
theorem tl_dig (i : Int) : tl (dig i) = numL i.natAbs := rfl
theorem tl_cut1 (z : Str) : tl (cutS z none (some 1)) = (tl z).take 1 := by
  unfold cutS
  rw [tl_mk]
  show ((tl z).drop 0).take (min 1 z.length - 0) = _
  rw [List.drop_zero, len_tl]
  cases tl z with
  | nil => rfl
  | cons c r =>
    have e : min 1 (c :: r).length - 0 = 1 := by simp
    rw [e]
theorem tl_cutR (z : Str) : tl (cutS z (some 1) none) = (tl z).drop 1 := by
  unfold cutS
  rw [tl_mk]
  show ((tl z).drop (min 1 z.length)).take (z.length - min 1 z.length) = _
  rw [len_tl]
  cases tl z with
  | nil => rfl
  | cons c r =>
    have e : min 1 (c :: r).length = 1 := by simp
    rw [e]
    simp
theorem minus_tl : tl ("-" : Str) = [45] := by decide +kernel
theorem zero_tl : tl ("0" : Str) = [48] := by decide +kernel
theorem digits_tl : tl ("0123456789" : Str) = [48, 49, 50, 51, 52, 53, 54, 55, 56, 57] := by decide +kernel
theorem letters_tl : tl ("abcdefghijklmnopqrstuvwxyz" : Str) = [97, 98, 99, 100, 101, 102, 103, 104, 105, 106, 107, 108, 109, 110, 111, 112, 113, 114, 115, 116, 117, 118, 119, 120, 121, 122] := by decide +kernel
theorem in_digits {c : Nat} (h : 48 ≤ c ∧ c ≤ 57) : decide (c ∈ tl ("0123456789" : Str)) = true := by
  rw [digits_tl]
  refine decide_eq_true ?_
  simp
  omega
theorem in_letters {c : Nat} (h : 97 ≤ c ∧ c ≤ 122) : decide (c ∈ tl ("abcdefghijklmnopqrstuvwxyz" : Str)) = true := by
  rw [letters_tl]
  refine decide_eq_true ?_
  simp
  omega
theorem num_digit {n c : Nat} (h : c ∈ numL n) : 48 ≤ c ∧ c ≤ 57 := numL_digits n c h
theorem num_neg {i : Int} (h : i < 0) : cutS (numText i) none (some 1) = "-" ∧ cutS (numText i) (some 1) none = dig i := by
  refine ⟨ext_tl ?_, ext_tl ?_⟩
  · rw [tl_cut1, tl_numText, if_pos h, minus_tl]
    rfl
  · rw [tl_cutR, tl_numText, if_pos h]
    rfl
theorem num_pos {i : Int} (h : ¬ i < 0) : cutS (numText i) none (some 1) ≠ "-" ∧ numText i = dig i := by
  refine ⟨fun z => ?_, ext_tl ?_⟩
  · have e := congrArg tl z
    rw [tl_cut1, tl_numText, if_neg h, minus_tl] at e
    cases q : numL i.natAbs with
    | nil => exact numL_ne _ q
    | cons c r =>
      rw [q] at e
      have hc : c = 45 := by simpa using e
      have := num_digit (n := i.natAbs) (c := c) (by rw [q]; exact List.mem_cons_self)
      omega
  · rw [tl_numText, if_neg h]
    rfl
/-- the first digit is no nought, but in 0 itself -/
theorem num_first (i : Int) : ∃ c r, numL i.natAbs = c :: r ∧ (c ≠ 48 ∨ i = 0) := by
  by_cases h : i = 0
  · subst h
    exact ⟨48, [], numL_lt (by decide), .inr rfl⟩
  · obtain ⟨c, r, e, hc⟩ := numL_head (n := i.natAbs) (by omega)
    exact ⟨c, r, e, .inl hc⟩
theorem big_pow {n : Nat} (h : n < 2 ^ 1000) : n < 10 ^ 302 := Nat.lt_trans h (by decide +kernel)
theorem numText_len {i : Int} (h : i.natAbs < 2 ^ 1000) : (numText i).length ≤ 303 := by
  have := numL_len (k := 302) (by decide) (big_pow h)
  rw [len_tl, tl_numText]
  split
  · rw [List.length_cons]; omega
  · omega
theorem num_read {i : Int} (h : i.natAbs < 2 ^ 1000) : PySem.intText? (numText i) = some i := by
  have l := numL_len (k := 302) (by decide) (big_pow h)
  have l2 := numText_len h
  by_cases hi : i < 0
  · have q := PySem.intText_neg (x := numText i) (cs := numL i.natAbs) (by have q2 := tl_numText i; rw [if_pos hi] at q2; exact q2) (numL_digits _) (numL_ne _) (by omega)
    rw [q, numL_val]
    congr 1
    omega
  · have e : numText i = Str.ofString (toString ((i.natAbs : Nat) : Int)) := by
      rw [show ((i.natAbs : Nat) : Int) = i by omega]
      rfl
    rw [e, int_num (by omega)]
    congr 1
    omega
theorem num_free {i : Int} {s : Nat} (h : s < 45 ∨ 57 < s ∨ s = 47) : s ∉ tl (numText i) := by
  rw [tl_numText]
  intro hm
  split at hm
  · rcases List.mem_cons.mp hm with q | q
    · omega
    · have := num_digit q
      omega
  · have := num_digit hm
    omega
end Ct

/-! enumerate(xs, start=k) over a list; a call by keywords alone. -/
namespace Ct
open PySem PySem.Spec PyProof.Rows L2 TL
def ItFrom (K : PySem.W.Frag) (k : Int) (a : Addr) : It where
  go := fun i H => ∃ xs x, SqL K H a xs ∧ xs[i]? = some x
  yld := fun i H v H' => ∃ T x, v = .ref T ∧ H T = none ∧ H' = upd H T (.tup [.int (k + (i : Nat)), x]) ∧
    ∀ xs, SqL K H a xs → xs[i]? = some x
  stop := fun i H => ∃ xs, SqL K H a xs ∧ xs.length ≤ i
theorem turn_from {P : Program} {w : World} {K : PySem.W.Frag} {elts : List Expr} {kk : Nat} {tpos : Pos} (k : Int) (a e it : Addr) :
    Turn P w K (.Tuple elts kk tpos) (ItFrom K k a) [e, it] e fun i h => (∃ o, IsEnum h e it (k + ((i : Nat) : Int)) o) ∧ h.IsListIter it a i ∧ e ≠ it ∧ e ≠ a ∧ a ≠ it where
  mem := List.mem_cons_self
  obj := by
    rintro i h ⟨⟨w0, hE⟩, ⟨w1, hI, _, hF⟩, _⟩ b hb
    rcases List.mem_cons.mp hb with rfl | hb
    · exact ⟨_, hE, fun v z => nomatch z⟩
    · obtain rfl := List.mem_singleton.mp hb
      exact ⟨w1, hI, fun v z => by rw [hF] at z; cases z⟩
  keep := by
    rintro i h h' ⟨⟨w0, hE⟩, hI, n1, n2, n3⟩ kp
    exact ⟨⟨w0, kp e List.mem_cons_self _ hE⟩, hI.at fun o z => kp it (List.mem_cons_of_mem _ List.mem_cons_self) o z, n1, n2, n3⟩
  item := by
    rintro X rfl rfl rfl hc i pins s σ H E I hf ⟨⟨w0, hE⟩, hI, n1, n2, n3⟩ ⟨xs, x, hxs, hxi⟩
    obtain ⟨zs, rz, pz, lz⟩ := I.list hxs
    obtain ⟨y, hy, ry⟩ := rz.get hxi
    have lt1 := Heap.lt_size hE
    have lt2 : it < s.heap.objs.size := by
      obtain ⟨_, z, _⟩ := hI
      exact Heap.lt_size z
    have Dl := Draws.list (prog := X.prog) (w := X.w) (A := X.A.in1) (I.ok.hd hc) it a n3 zs.toArray
    have hyi : i < zs.toArray.size := by
      have := (List.getElem?_eq_some_iff.mp hy).1
      simpa using this
    refine wpAny_pyNext_enum_itemC (i := i) Dl hE ⟨hI, pz.isList⟩ hyi n1 (by simp [n1, n2]) fun x2 h1 tk hx2 hO st1 hT hsz hk => ?_
    obtain rfl : y = x2 := by
      have e2 : zs[i]? = some x2 := by simpa using hx2
      rw [hy] at e2
      exact Option.some.inj e2
    refine ⟨_, rfl, wpAny_letOwnedTupleGo_enum (s := { s with heap := h1, toks := tk + 1 }) hO fun h2 hE2 sb => ?_⟩
    have hT2 := (sb.2 _ (Nat.ne_of_gt lt1)).trans hT
    have ob : ObjOk X.prog X.w (upd H s.heap.objs.size (.tup [.int (k + (i : Nat)), x])) h2 s.heap.objs.size (.tup [.int (k + (i : Nat)), x]) :=
      ⟨by show 2 ≤ sizeLine; decide, [.int (k + (i : Nat)) tk, y], .cons ⟨_, rfl⟩ (.cons ry .nil), ⟨_, hT2, rfl, _, rfl⟩⟩
    have J := I.turnedNew (t' := tk + 1) (ch := [e, it]) (fun b o hb q => (sb.2 b (fun z => hb (z ▸ List.mem_cons_self))).trans (hk b o (fun z => hb (z ▸ List.mem_cons_self)) (fun z => hb (by simp [z])) q)) hf (Nat.le_refl _) ob
    refine ⟨.ref s.heap.objs.size, _, J, rfl, ⟨_, x, rfl, I.hok.fresh (Nat.le_refl _), rfl, fun ys hys => by rw [I.list_inj hys hxs]; exact hxi⟩, ⟨⟨y, ?_⟩, st1.1.at fun o q => (sb.2 it (Ne.symm n1)).trans q, n1, n2, n3⟩, fun b hb => ?_⟩
    · rw [show (k + ((i + 1 : Nat) : Int)) = k + (i : Int) + 1 by omega]
      exact hE2
    · have hlt : b < s.heap.objs.size := by
        rcases List.mem_cons.mp hb with rfl | hb
        · exact lt1
        · obtain rfl := List.mem_singleton.mp hb
          exact lt2
      rw [upd_ne (Nat.ne_of_lt hlt)]
      exact (hf b hb).1
  done := by
    rintro X rfl rfl rfl hc i pins s σ H E I hf ⟨⟨w0, hE⟩, hI, n1, n2, n3⟩ ⟨xs, hxs, hle⟩
    obtain ⟨zs, rz, pz, lz⟩ := I.list hxs
    have hx : zs.toArray[i]? = none := by
      have := rz.length
      simp
      omega
    have De : Draws X.prog X.w X.A.in1 it [it, a] i (fun _ _ => False) (fun j h => j = i ∧ h.IsListIter it a i ∧ h.IsList a zs.toArray) :=
      { live := fun _ _ st => let ⟨o, ho, _⟩ := st.2.1; ⟨o, ho⟩
        frame := fun _ _ _ st kp => ⟨st.1, st.2.1.at fun o q => kp it (by simp) o q, st.2.2.at fun o q => kp a (by simp) o q⟩
        item := fun j _ _ _ hj st _ => absurd (st.1 ▸ hj) (Nat.lt_irrefl _)
        done := fun s2 Q2 E2 st hE2 => wpAny_nextOf_list_end (I.ok.hd hc) st.2.1 st.2.2 hx fun h2 y q1 q2 => hE2 h2 y q1 q2 }
    obtain ⟨f0, f1, f2, f3, f4, f5⟩ := hf it (by simp)
    exact wpAny_pyNext_enum_endD De hE ⟨rfl, hI, pz.isList⟩ fun h2 eb => ⟨rfl, I.turned (t' := s.toks) (fun b o hb q => eb b o hb q) f0 f1 f3 f4 f5⟩
  self := fun A i s Q E st h => let ⟨⟨_, z⟩, _⟩ := st; wpAny_pyIter_enum z h
/-- how a for over enumerate(e, start=k) is read -/
def iFrom (K : PySem.W.Frag) (k : Int) (ta : TA) : TI := fun σ H R => ta σ H fun vs H1 => ∃ a xs, vs = [.ref a] ∧ SqL K H1 a xs ∧ R (ItFrom K k a) H1
theorem pi_from {X : Cx} {e : Expr} {ta : TA} {p pos kp cp tpos : Pos} {elts : List Expr} {kk j : Nat} {k : Int} (hg : Gl X "enumerate") (hm : X.mg "enumerate" = none) (hk0 : -(2 ^ 63) ≤ k) (hk1 : k < 2 ^ 63) (ha : PA X [e] ta)
    (hs : starEach (e :: []) X.env = (false, eval e X.env) :: starEach [] X.env := by rfl)
    (hpl : ((backTo pos (starEach (e :: []) X.env)).any (·.1) || (backToKw pos (keywordEach [⟨some "start", .Constant (.int k) j cp, kp⟩] X.env)).any (·.1.isNone)) = false := by rfl) : PI X (.Tuple elts kk tpos) (.Call (.Name "enumerate" p) [e] [⟨some "start", .Constant (.int k) j cp, kp⟩] pos) (iFrom X.K k ta) := by
  refine ⟨fun pins s σ H R I h => ?_⟩
  refine wpAny_Call_Name_kw (ld_blt I hg hm boot_enumerate ?_)
  refine PySem.W.callWith_of (P := fun _ => True) hpl (fun _ _ => ⟨.machine, .inr (.inl rfl), fun _ _ _ _ _ z => wpAny_pure z⟩) (PyProof.Rows.evalArgs_kw2 rfl (thn (ha.run pos pins s σ H _ I h) fun us s1 ⟨vs, H1, I1, r1, q1⟩ => ?_) hs)
  obtain ⟨a, xs, rfl, hxs, q⟩ := q1
  refine thn ((pk_cons (nm := some "start") (kpos := kp) (pe_int (X := X) (i := k) (j := j) (pos := cp)) pk_nil).run pos pins s1 σ H1 (fun vs H2 => vs = [.int k] ∧ H2 = H1) I1 ⟨rfl, rfl⟩) fun ws s2 ⟨zs, H2, I2, rz, ez, eH⟩ => ⟨trivial, ?_⟩
  subst ez eH
  cases r1 with
  | cons ra rn =>
    cases rn
    cases ra
    cases rz with
    | cons rk rn2 =>
      cases rn2
      obtain ⟨t, rfl⟩ := rk
      obtain ⟨items, rv, pl, hz⟩ := I2.list hxs
      refine enum_begins_start (begins_list a items.toArray) pl.isList hk0 hk1 fun h1 hE hI hsz kp => wpAny_pyIter_enum hE ?_
      have I3 : Inv X pins σ H2 { s2 with heap := h1 } := I2.kept (t' := s2.toks) kp
      have lt : a < s2.heap.objs.size := by
        obtain ⟨_, z, _⟩ := pl.isList
        exact Heap.lt_size z
      refine ⟨s2.heap.objs.size + 1, [s2.heap.objs.size + 1, s2.heap.objs.size], _, _, H2, rfl, I3, turn_from k a (s2.heap.objs.size + 1) s2.heap.objs.size, ⟨⟨.none, ?_⟩, ⟨_, hI, rfl, rfl⟩, Nat.succ_ne_self _, Nat.ne_of_gt (Nat.lt_succ_of_lt lt), Nat.ne_of_lt lt⟩, fun b hb => ?_, q⟩
      · rw [show k + ((0 : Nat) : Int) = k by omega]
        exact hE
      have ge : s2.heap.objs.size ≤ b := by
        rcases List.mem_cons.mp hb with rfl | hb
        · exact Nat.le_add_right _ _
        · obtain rfl := List.mem_singleton.mp hb
          exact Nat.le_refl _
      exact I2.fpOk ge (I2.hok.fresh ge)
end Ct

/-! A text times an int; noughts ahead of digits. -/
namespace Ct
open PySem PySem.Spec PyProof.Rows L2 TL
theorem foldl_app {α : Type} : ∀ (ls : List (Array α)) (a : Array α), (ls.foldl (· ++ ·) a).toList = a.toList ++ (ls.map Array.toList).flatten
  | [], a => by simp
  | x :: ls, a => by
    rw [List.foldl_cons, foldl_app ls]
    simp
/-- the text's signs so many times -/
def repS (x : Str) (n : Int) : Str := ⟨(List.replicate n.toNat x.cps.toList).flatten.toArray⟩
def rRepS : R2 := fun x y H Q => ∃ (z : Str) (n : Int), x = .str z ∧ y = .int n ∧ -1000000 ≤ n ∧ n ≤ 1000 ∧ z.length ≤ 1000 ∧ Q (.str (repS z n)) H
theorem str_exL {x y : Str} (h : x.cps.toList = y.cps.toList) : x = y := by
  cases x
  cases y
  congr
  exact Array.toList_inj.mp h
theorem len_flat_rep {α : Type} (l : List α) : ∀ n : Nat, (List.replicate n l).flatten.length = n * l.length
  | 0 => by simp
  | n + 1 => by rw [List.replicate_succ, List.flatten_cons, List.length_append, len_flat_rep l n, Nat.succ_mul]; omega
variable {X : Cx}
theorem op_repS : OpR X (binaryOp .Mult) rRepS := by
  intro pins s σ H x y v u Q I rx ry h
  obtain ⟨z, n, rfl, rfl, h1, h2, h3, q⟩ := h
  obtain ⟨t, rfl⟩ := rx
  obtain ⟨t', rfl⟩ := ry
  have hm : z.length * n.toNat ≤ 1000 * 1000 := Nat.mul_le_mul h3 (by omega)
  have zl : z.length = z.cps.toList.length := by
    show z.cps.size = _
    rw [Array.length_toList]
  refine PySem.P.mul_str ?_ (fun g1 g2 => ?_) (fun g1 g2 => ?_) ?_
  · rw [decide_eq_false (by omega), decide_eq_false (by omega)]
    rfl
  · have : n ≤ 1000 := h2
    have p : 1000 ≤ (2 ^ 63 - 1) / n := by
      refine (Int.le_ediv_iff_mul_le (by omega)).mpr ?_
      omega
    omega
  · show decide (z.length * n.toNat > sizeLine) = false
    refine decide_eq_false ?_
    have : sizeLine = 16777216 := by decide
    omega
  · by_cases c1 : n < 1
    · rw [if_pos c1]
      have e : repS z n = Str.empty := str_exL (by
        show (List.replicate n.toNat z.cps.toList).flatten.toArray.toList = _
        rw [show n.toNat = 0 by omega]
        rfl)
      exact ⟨by decide, .str Str.empty, H, I.tok _, ⟨_, rfl⟩, e ▸ q⟩
    · rw [if_neg c1]
      cases c2 : (n == 1 || z.length == 0) with
      | true =>
        rw [if_pos rfl]
        have e : repS z n = z := str_exL (by
          show (List.replicate n.toNat z.cps.toList).flatten.toArray.toList = _
          rcases Bool.or_eq_true _ _ ▸ c2 with c | c
          · rw [show n.toNat = 1 by have := beq_iff_eq.mp c; omega]
            simp
          · have c := beq_iff_eq.mp c
            have e0 : z.cps.toList = [] := List.eq_nil_of_length_eq_zero (by omega)
            rw [e0]
            simp)
        exact ⟨.str z, H, I, ⟨_, rfl⟩, e ▸ q⟩
      | false =>
        rw [if_neg (by decide)]
        have e : (⟨(List.replicate n.toNat z.cps).foldl (· ++ ·) #[]⟩ : Str) = repS z n := str_exL (by
          show ((List.replicate n.toNat z.cps).foldl (· ++ ·) #[]).toList = (List.replicate n.toNat z.cps.toList).flatten.toArray.toList
          rw [foldl_app]
          simp)
        rw [e]
        refine ⟨?_, .str (repS z n), H, I.tok _, ⟨_, rfl⟩, q⟩
        show (List.replicate n.toNat z.cps.toList).flatten.toArray.size ≤ _
        rw [List.size_toArray, len_flat_rep, ← zl, Nat.mul_comm]
        exact Nat.le_trans hm (by decide)
/-! ### noughts ahead of digits -/
open PySem.NumText in
theorem val_acc : ∀ (b : List Nat) (n : Nat), b.foldl (fun acc c => acc * 10 + (c - 48)) n = n * 10 ^ b.length + digitsVal b
  | [], n => by simp [digitsVal]
  | c :: b, n => by
    unfold digitsVal
    rw [List.foldl_cons, List.foldl_cons, val_acc b, val_acc b (0 * 10 + (c - 48)), List.length_cons, Nat.pow_succ]
    generalize digitsVal b = y
    grind
open PySem.NumText in
theorem val_app (a b : List Nat) : digitsVal (a ++ b) = digitsVal a * 10 ^ b.length + digitsVal b := by
  unfold digitsVal
  rw [List.foldl_append, val_acc]
  rfl
open PySem.NumText in
theorem val_noughts : ∀ k : Nat, digitsVal (List.replicate k 48) = 0
  | 0 => rfl
  | k + 1 => by
    rw [show k + 1 = 1 + k by omega, ← List.replicate_append_replicate, val_app, val_noughts k, show digitsVal (List.replicate 1 48) = 0 from rfl, Nat.zero_mul]
theorem take_more {α : Type} (l : List α) (a b : Nat) : l.take (a + b) = l.take a ++ (l.drop a).take b := List.take_add
open PySem.NumText in
theorem val_take {l : List Nat} {a b : Nat} (h : a + b ≤ l.length) : digitsVal (l.take (a + b)) = digitsVal (l.take a) * 10 ^ b + digitsVal ((l.drop a).take b) := by
  rw [take_more, val_app]
  have : ((l.drop a).take b).length = b := by
    rw [List.length_take, List.length_drop]
    omega
  rw [this]
theorem cut_mid {z : Str} {a b : Nat} (h : a ≤ b) (hb : b ≤ z.length) : tl (cutS z (some (a : Int)) (some (b : Int))) = ((tl z).drop a).take (b - a) := by
  unfold cutS
  rw [tl_mk, HT.sIx_nat, HT.sIx_nat, Nat.min_eq_left (Nat.le_trans h hb), Nat.min_eq_left hb]
theorem rg18 : ∀ m : Nat, m < 20 → Builtin.Range.small 0 ((18 * m : Nat) : Int) 18 = true ∧ Builtin.Range.rangeSize 0 ((18 * m : Nat) : Int) 18 = m := by decide +kernel
end Ct

namespace Ct
open PySem PySem.Spec PyProof.Rows L2 TL
abbrev s_is_integer : Stmt := top 12
abbrev N_is_integer : List Str := ["value"]
theorem sc_is_integer : FnScope N_is_integer ["value"] (defScope s_is_integer) := ⟨rfl, rfl, rfl, by decide +kernel, rfl, by decide +kernel, by decide +kernel⟩
abbrev s_is_fraction : Stmt := top 13
abbrev N_is_fraction : List Str := ["value", "top", "bottom"]
theorem sc_is_fraction : FnScope N_is_fraction ["value"] (defScope s_is_fraction) := ⟨rfl, rfl, rfl, by decide +kernel, rfl, by decide +kernel, by decide +kernel⟩
abbrev s_is_above_nought : Stmt := top 14
abbrev N_is_above_nought : List Str := ["value"]
theorem sc_is_above_nought : FnScope N_is_above_nought ["value"] (defScope s_is_above_nought) := ⟨rfl, rfl, rfl, by decide +kernel, rfl, by decide +kernel, by decide +kernel⟩
abbrev s_read_fraction : Stmt := top 16
abbrev N_read_fraction : List Str := ["word", "top", "stroke", "bottom", "number"]
theorem sc_read_fraction : FnScope N_read_fraction ["word"] (defScope s_read_fraction) := ⟨rfl, rfl, rfl, by decide +kernel, rfl, by decide +kernel, by decide +kernel⟩
abbrev s_is_integer_text : Stmt := top 17
abbrev N_is_integer_text : List Str := ["word", "digits", "sign"]
theorem sc_is_integer_text : FnScope N_is_integer_text ["word"] (defScope s_is_integer_text) := ⟨rfl, rfl, rfl, by decide +kernel, rfl, by decide +kernel, by decide +kernel⟩
abbrev s_read_integer : Stmt := top 19
abbrev N_read_integer : List Str := ["word", "digits", "padded", "number", "start"]
theorem sc_read_integer : FnScope N_read_integer ["word"] (defScope s_read_integer) := ⟨rfl, rfl, rfl, by decide +kernel, rfl, by decide +kernel, by decide +kernel⟩
abbrev s_is_name : Stmt := top 24
abbrev N_is_name : List Str := ["value", "sign"]
theorem sc_is_name : FnScope N_is_name ["value"] (defScope s_is_name) := ⟨rfl, rfl, rfl, by decide +kernel, rfl, by decide +kernel, by decide +kernel⟩
abbrev s_names_of : Stmt := top 25
abbrev N_names_of : List Str := ["told", "entry"]
theorem sc_names_of : FnScope N_names_of ["told"] (defScope s_names_of) := ⟨rfl, rfl, rfl, by decide +kernel, rfl, by decide +kernel, by decide +kernel⟩
abbrev s_is_another : Stmt := top 43
abbrev N_is_another : List Str := ["name", "told", "most"]
theorem sc_is_another : FnScope N_is_another ["name", "told", "most"] (defScope s_is_another) := ⟨rfl, rfl, rfl, by decide +kernel, rfl, by decide +kernel, by decide +kernel⟩
abbrev s_is_junction : Stmt := top 44
abbrev N_is_junction : List Str := ["word"]
theorem sc_is_junction : FnScope N_is_junction ["word"] (defScope s_is_junction) := ⟨rfl, rfl, rfl, by decide +kernel, rfl, by decide +kernel, by decide +kernel⟩
def spIsInt : Sp := fun vs H Q _ => ∃ i : Int, vs = [.int i] ∧ Q (.bl true) H
def spIsFr (K : PySem.W.Frag) : Sp := fun vs H Q _ => ∃ (t : Addr) (f : Int × Int), vs = [.ref t] ∧ SqT K H t [.int f.1, .int f.2] ∧ 0 < f.2 ∧ Int.gcd f.1 f.2 = 1 ∧ Q (.bl true) H
def spIsSize (K : PySem.W.Frag) : Sp := fun vs H Q _ => ∃ (t : Addr) (f : Int × Int), vs = [.ref t] ∧ SqT K H t [.int f.1, .int f.2] ∧ 0 < f.2 ∧ Int.gcd f.1 f.2 = 1 ∧ 0 < f.1 ∧ Q (.bl true) H
def spIsNum : Sp := fun vs H Q _ => ∃ i : Int, vs = [.str (numText i)] ∧ i.natAbs < 2 ^ 1000 ∧ ∀ H', Same H H' → Q (.bl true) H'
def spReadI : Sp := fun vs H Q _ => ∃ i : Int, vs = [.str (numText i)] ∧ i.natAbs < 2 ^ 1000 ∧ Q (.int i) H
def spRead (K : PySem.W.Frag) : Sp := fun vs H Q _ => ∃ f : Int × Int, vs = [.str (fracText f)] ∧ FrOk f ∧ ∀ t H', Same H H' → H' t = some (.tup [.int f.1, .int f.2]) → Q (.ref t) H'
def spIsName : Sp := fun vs H Q _ => ∃ x : Str, vs = [.str x] ∧ Name x ∧ ∀ H', Same H H' → Q (.bl true) H'
def spNames (K : PySem.W.Frag) : Sp := fun vs H Q _ => ∃ (a : Addr) (us : List V) (xs : List Str), vs = [.ref a] ∧ SqL K H a us ∧ Paired (HeadAt K H) us xs ∧ xs.length < 1000000 ∧
  ∀ l H', Same H H' → H l = none → H' l = some (.lst (xs.map V.str)) → Q (.ref l) H'
def spNamesT (K : PySem.W.Frag) : Sp := fun vs H Q _ => ∃ (a : Addr) (us : List V) (xs : List Str), vs = [.ref a] ∧ SqT K H a us ∧ Paired (HeadAt K H) us xs ∧ xs.length < 1000000 ∧
  ∀ l H', Same H H' → H l = none → H' l = some (.lst (xs.map V.str)) → Q (.ref l) H'
def spAnother (K : PySem.W.Frag) : Sp := fun vs H Q _ => ∃ (x : Str) (a : Addr) (us : List V) (xs : List Str) (m : Int), vs = [.str x, .ref a, .int m] ∧ Name x ∧ SqL K H a us ∧ Paired (HeadAt K H) us xs ∧ (xs.length : Int) < m ∧ m ≤ 10 ∧ x ∉ xs ∧
  ∀ H', Same H H' → Q (.bl true) H'
def spJunc : Sp := fun vs H Q _ => ∃ x : Str, vs = [.str x] ∧ Junc x ∧ ∀ H', Same H H' → Q (.bl true) H'
theorem tyx_tup {K : PySem.W.Frag} {H : Hp} {t : Addr} {xs : List V} (h : SqT K H t xs) : TyX K H (.ref t) (.type "tuple") := by
  rcases h with (h | ⟨o, h⟩) | ⟨o, its, n, h, c, _⟩
  · exact .base (.tup h)
  · exact .fTuple h
  · exact .kTuple h c
theorem pull_false {c : Bool} {A B : Prop} (hc : c = false) (h : B) : if c = true then A else B := by
  subst hc
  exact iteF h
section
variable {P : Program} {w : World} {K : PySem.W.Frag} {mg : Str → Option Value} {base : Heap}
theorem k_is_integer (D : Lies K mg "is_integer" s_is_integer) (T : Plain mg) : Keeps P w K mg base 1 "is_integer" ["value"] spIsInt := by
  refine D.keeps sc_is_integer (fun _ _ _ _ _ _ us hl => match us, hl with | [_], _ => rfl) (fun vs H Q E h => ?_) (fun f cdv A outer s H vs Q E hr h => ?_)
  · obtain ⟨i, rfl, _⟩ := h
    rfl
  · obtain ⟨i, rfl, k⟩ := h
    refine ⟨_, (pss_one (ps_ret (pe_and (pe_callB call_isi (by rfl) T.n_isinstance b_isinstance (pa_cons (pv 0) (pa_cons (pe_bltn (v := .ty "int") (by rfl) T.n_int b_int rfl) pa_nil))) (pe_one (pe_not (pe_callB call_isi (by rfl) T.n_isinstance b_isinstance (pa_cons (pv 0) (pa_cons (pe_bltn (v := .ty "bool") (by rfl) T.n_bool b_bool rfl) pa_nil)))))))), ?_⟩
    refine ⟨_, rfl, _, _, _, _, true, rfl, .ty _, .base (.int i), kit_ty (by decide +kernel), true, rfl, iteT ?_⟩
    exact ⟨_, rfl, _, _, _, _, false, rfl, .ty _, .base (.int i), kit_ty (by decide +kernel), false, rfl, k⟩
theorem k_is_fraction (D : Lies K mg "is_fraction" s_is_fraction) (T : Plain mg) (G_is_integer : Keeps P w K mg base 1 "is_integer" ["value"] spIsInt) : Keeps P w K mg base 2 "is_fraction" ["value"] (spIsFr K) := by
  refine D.keeps sc_is_fraction (fun _ _ _ _ _ _ us hl => match us, hl with | [_], _ => rfl) (fun vs H Q E h => ?_) (fun f cdv A outer s H vs Q E hr h => ?_)
  · obtain ⟨t, f, rfl, _⟩ := h
    rfl
  · obtain ⟨t, ⟨a, b⟩, rfl, ht, h0, h1, k⟩ := h
    refine ⟨_, (pss_cons (ps_if (PW.pt (pw_or (pt_not (pt_val (pe_callB call_isi (by rfl) T.n_isinstance b_isinstance (pa_cons (pv 0) (pa_cons (pe_bltn (v := .ty "tuple") (by rfl) T.n_tuple b_tuple rfl) pa_nil))))) (pw_or1 (pt_cmpR op_ne (pe_callB call_len_seq (by rfl) T.n_len b_len (pa_cons (pv 0) pa_nil)) pe_int (nomark _)))))
        (pss_one (ps_ret pe_bl))
        pss_nil)
      (pss_cons (ps_asg (pv 0) (pg_tup rfl (pgs_cons (pg_name (i := 1) sc_is_fraction.nd rfl (Or.inl rfl)) (pgs_cons (pg_name (i := 2) sc_is_fraction.nd rfl (Or.inl rfl)) pgs_nil))))
      (pss_cons (ps_if (PW.pt (pw_or (pt_not (pt_val (pe_go G_is_integer (hr.mono (by decide)) rfl (pa_cons (pv 1) pa_nil)))) (pw_or1 (pt_not (pt_val (pe_go G_is_integer (hr.mono (by decide)) rfl (pa_cons (pv 2) pa_nil)))))))
        (pss_one (ps_ret pe_bl))
        pss_nil)
      (pss_one (ps_ret (pe_and (pe_cmpR op_gt (pv 2) pe_int (nomark _)) (pe_one (pe_cmpR op_eq (pe_callBfun cr_gcd rfl T.gcd (pa_cons (pv 1) (pa_cons (pv 2) pa_nil))) pe_int (nomark _))))))))), ?_⟩
    refine ⟨_, rfl, _, _, _, _, true, rfl, .ty _, tyx_tup ht, kit_ty (by decide +kernel), true, rfl, pull_false rfl ⟨_, rfl, t, _, rfl, .inr ht, rfl, false, by rw [show decide (V.int (([V.int a, V.int b].length : Nat) : Int) = V.int 2) = true from decide_eq_true rfl]; rfl, iteF ?_⟩⟩
    refine ⟨_, rfl, t, _, rfl, ht, rfl, _, _, rfl, _, _, rfl, ⟨rfl, ?_⟩⟩
    refine ⟨_, rfl, a, rfl, true, rfl, pull_false rfl ⟨_, rfl, b, rfl, true, rfl, iteF ?_⟩⟩
    refine ⟨_, rfl, _, _, rfl, rfl, _, rfl, if_true_of' (decide_eq_true h0) ?_⟩
    refine ⟨_, rfl, _, rfl, a, b, rfl, rfl, ?_⟩
    have e : (V.int ((Nat.gcd a.natAbs b.natAbs : Nat) : Int)) = V.int 1 := by
      have : Nat.gcd a.natAbs b.natAbs = 1 := h1
      rw [this]
      rfl
    show Q (.bl (decide (V.int ((Nat.gcd a.natAbs b.natAbs : Nat) : Int) = V.int 1))) H
    rw [decide_eq_true e]
    exact k
theorem k_is_above_nought (D : Lies K mg "is_above_nought" s_is_above_nought) (T : Plain mg) (G_is_fraction : Keeps P w K mg base 2 "is_fraction" ["value"] (spIsFr K)) : Keeps P w K mg base 3 "is_above_nought" ["value"] (spIsSize K) := by
  refine D.keeps sc_is_above_nought (fun _ _ _ _ _ _ us hl => match us, hl with | [_], _ => rfl) (fun vs H Q E h => ?_) (fun f cdv A outer s H vs Q E hr h => ?_)
  · obtain ⟨t, f, rfl, _⟩ := h
    rfl
  · obtain ⟨t, f, rfl, ht, h0, h1, h2, k⟩ := h
    refine ⟨_, (pss_one (ps_ret (pe_and (pe_go G_is_fraction (hr.mono (by decide)) rfl (pa_cons (pv 0) pa_nil)) (pe_one (pe_cmpR op_gt (pe_ix ix_tup (pv 0) pe_int (fun _ _ => rfl)) pe_int (nomark _)))))), ?_⟩
    refine ⟨_, rfl, t, f, rfl, ht, h0, h1, true, rfl, iteT ⟨_, rfl, t, _, _, _, rfl, rfl, ht, rfl, _, _, rfl, rfl, ?_⟩⟩
    show Q (.bl (decide (0 < f.1))) H
    rw [decide_eq_true h2]
    exact k
theorem k_is_integer_text (D : Lies K mg "_is_integer_text" s_is_integer_text) (T : Plain mg) : Keeps P w K mg base 1 "_is_integer_text" ["word"] spIsNum := by
  refine D.keeps sc_is_integer_text (fun _ _ _ _ _ _ us hl => match us, hl with | [_], _ => rfl) (fun vs H Q E h => ?_) (fun f cdv A outer s H vs Q E hr h => ?_)
  · obtain ⟨i, rfl, _⟩ := h
    rfl
  · obtain ⟨i, rfl, hi, k⟩ := h
    have l1 := numText_len hi
    have lz : (numText i).length ≤ sizeLine := Nat.le_trans l1 (by decide)
    obtain ⟨c, r, ec, hc⟩ := num_first i
    refine ⟨_, (Evl.pss_cut (ps_set (i := 1) sc_is_integer_text.nd rfl (Or.inl rfl) (pe_ifExp (pt_cmpR op_eq (pe_slice sl_str (pv 0) po_none (po_some pe_int)) pe_str (nomark _)) (pe_slice sl_str (pv 0) (po_some pe_int) po_none) (pv 0)))
      (pss_cons (ps_if (PW.pt (pw_or (pt_cmpR op_eq (pv 1) pe_str (nomark _)) (pw_or1 (pt_not (pt_val (pe_callB (cr_all rfl) (by rfl) T.n_all b_all (pa_cons (pe_lc (own := [("sign", 2)]) (g := gName 2) (tt := tYes) rfl sc_is_integer_text.nd (pi_str (pv 1)) (blkOk_by (N := N_is_integer_text) (sc := defScope s_is_integer_text) (by decide +kernel)) (fun _ _ _ _ _ => pg_name (i := 2) sc_is_integer_text.nd rfl (Or.inl rfl)) (fun _ _ _ _ _ => pts_nil) (fun _ _ _ _ _ => by exact (pe_cmpR op_in_sign (pv 2) (pe_cs T.c_DIGITS rfl) (by rfl)))) pa_nil)))))))
        (pss_one (ps_ret pe_bl))
        pss_nil)
      (pss_one (ps_ret (pe_or (pe_cmpR op_ne (pe_ix ix_str (pv 1) pe_int (fun _ _ => rfl)) pe_str (nomark _)) (pe_one (pe_cmpR op_eq (pv 0) pe_str (nomark _)))))))), ?_⟩
    have ld : (dig i).length ≤ 302 := by
      rw [len_tl, tl_dig]
      exact numL_len (by decide) (big_pow hi)
    have ne : dig i ≠ "" := fun z => by
      have := congrArg tl z
      rw [tl_dig, ec] at this
      cases this
    refine ⟨fun σ' H' => σ' = [some (.str (numText i)), some (.str (dig i)), none] ∧ H' = H, ?_, ?_⟩
    · refine ⟨_, rfl, (1 : Int), rfl, _, rfl, lz, rfl, _, rfl, ite2 (fun h0 => ?_) (fun h0 => ?_)⟩
      · have e0 := V.str.inj (of_decide_eq_true h0)
        by_cases hn : i < 0
        · refine ⟨_, rfl, (1 : Int), rfl, _, rfl, lz, ?_⟩
          refine ⟨?_, rfl⟩
          rw [(num_neg hn).2]
          rfl
        · exact absurd e0 (num_pos hn).1
      · have e0 : cutS (numText i) none (some 1) ≠ "-" := fun z => h0 (decide_eq_true (by rw [z]))
        by_cases hn : i < 0
        · exact absurd (num_neg hn).1 e0
        · refine ⟨_, rfl, ?_, rfl⟩
          have e3 := (num_pos hn).2
          show [some (V.str (numText i)), some (V.str (numText i)), none] = [some (V.str (numText i)), some (V.str (dig i)), none]
          rw [← e3]
    · rintro σ' H' ⟨rfl, rfl⟩
      refine ⟨_, rfl, rfl, _, rfl, pull_false (decide_eq_false fun z => ne (V.str.inj z)) ?_⟩
      refine into_not (into_b (into_cb (into_args1 (comp_str (g := fun c => .bl (decide (c ∈ tl ("0123456789" : Str)))) (fun R q => ⟨_, rfl, q⟩) (Nat.lt_of_le_of_lt ld (by decide)) (fun _ => rfl) (fun c hc H Z hz => ⟨_, rfl, c, _, rfl, rfl, hz⟩) fun D hD => ?_))))
      refine ⟨D, (tl (dig i)).map fun c => decide (c ∈ tl ("0123456789" : Str)), rfl, SqL.of (by rw [List.map_map]; exact upd_same), ?_⟩
      have all : ((tl (dig i)).map fun c => decide (c ∈ tl ("0123456789" : Str))).all id = true := by
        rw [List.all_map]
        exact List.all_eq_true.mpr fun x hx => in_digits (num_digit hx)
      rw [all]
      refine ⟨true, rfl, iteF ?_⟩
      refine ⟨_, rfl, _, (0 : Int), c, rfl, rfl, Nat.le_trans ld (by decide), ?_, ?_⟩
      · show atI (tl (dig i)) 0 = some c
        rw [tl_dig, ec]
        exact atI_nat (j := 0) rfl
      · refine ⟨rfl, ?_⟩
        rcases hc with hc | rfl
        · have e1 : (⟨#[c]⟩ : Str) ≠ "0" := fun z => hc (by
            have := congrArg tl z
            rw [zero_tl] at this
            simpa [tl] using this)
          have e2 : (!decide (V.str (⟨#[c]⟩ : Str) = V.str "0")) = true := by
            rw [decide_eq_false fun z => e1 (V.str.inj z)]
            rfl
          exact ⟨true, congrArg V.bl e2, iteT (k _ (same_upd hD))⟩
        · have e0 : c = 48 := by
            have z : numL (0 : Int).natAbs = [48] := numL_lt (by decide)
            rw [z] at ec
            exact (List.cons.inj ec).1.symm
          subst e0
          refine ⟨false, rfl, iteF ⟨_, rfl, rfl, ?_⟩⟩
          have e3 : numText 0 = "0" := ext_tl (by decide +kernel)
          show Q (.bl (decide (V.str (numText 0) = V.str "0"))) _
          rw [decide_eq_true (congrArg V.str e3)]
          exact k _ (same_upd hD)
theorem k_read_integer (D : Lies K mg "_read_integer" s_read_integer) (T : Plain mg) : Keeps P w K mg base 1 "_read_integer" ["word"] spReadI := by
  refine D.keeps sc_read_integer (fun _ _ _ _ _ _ us hl => match us, hl with | [_], _ => rfl) (fun vs H Q E h => ?_) (fun f cdv A outer s H vs Q E hr h => ?_)
  · obtain ⟨i, rfl, _⟩ := h
    rfl
  · obtain ⟨i, rfl, hi, k⟩ := h
    have l1 := numText_len hi
    have lz : (numText i).length ≤ sizeLine := Nat.le_trans l1 (by decide)
    refine ⟨_, (Evl.pss_cut (ps_set (i := 1) sc_read_integer.nd rfl (Or.inl rfl) (pe_ifExp (pt_cmpR op_eq (pe_slice sl_str (pv 0) po_none (po_some pe_int)) pe_str (nomark _)) (pe_slice sl_str (pv 0) (po_some pe_int) po_none) (pv 0)))
      (pss_cons (ps_set (i := 2) sc_read_integer.nd rfl (Or.inl rfl) (pe_op op_add_str (pe_op op_repS pe_str (pe_op op_mod (pe_un un_neg (pe_callB call_len_str (by rfl) T.n_len b_len (pa_cons (pv 1) pa_nil))) (pe_ci T.c_PIECE rfl))) (pv 1)))
      (pss_cons (ps_set (i := 3) sc_read_integer.nd rfl (Or.inl rfl) pe_int)
      (pss_cons (ps_for PassesOwn.never rfl (pi_range3 rfl T.n_range (pa_cons pe_int (pa_cons (pe_callB call_len_str (by rfl) T.n_len b_len (pa_cons (pv 2) pa_nil)) (pa_cons (pe_ci T.c_PIECE rfl) pa_nil)))) (pg_name (i := 4) sc_read_integer.nd rfl (Or.inl rfl))
        (pss_one (ps_set (i := 3) sc_read_integer.nd rfl (Or.inl rfl) (pe_op op_add (pe_op op_mul (pv 3) (pe_ci T.c_SHIFT rfl)) (pe_callTy call_int_str (by rfl) T.n_int b_int (pa_cons (pe_slice sl_str (pv 2) (po_some (pv 4)) (po_some (pe_op op_add (pv 4) (pe_ci T.c_PIECE rfl)))) pa_nil))))))
      (pss_one (ps_ret (pe_ifExp (pt_cmpR op_eq (pe_slice sl_str (pv 0) po_none (po_some pe_int)) pe_str (nomark _)) (pe_un un_neg (pv 3)) (pv 3)))))))), ?_⟩
    have ld : (dig i).length ≤ 302 := by
      rw [len_tl, tl_dig]
      exact numL_len (by decide) (big_pow hi)
    refine ⟨fun σ' H' => σ' = [some (.str (numText i)), some (.str (dig i)), none, none, none] ∧ H' = H, ?_, ?_⟩
    · refine ⟨_, rfl, (1 : Int), rfl, _, rfl, lz, rfl, _, rfl, ite2 (fun h0 => ?_) (fun h0 => ?_)⟩
      · have e0 := V.str.inj (of_decide_eq_true h0)
        by_cases hn : i < 0
        · refine ⟨_, rfl, (1 : Int), rfl, _, rfl, lz, ?_⟩
          refine ⟨?_, rfl⟩
          rw [(num_neg hn).2]
          rfl
        · exact absurd e0 (num_pos hn).1
      · have e0 : cutS (numText i) none (some 1) ≠ "-" := fun z => h0 (decide_eq_true (by rw [z]))
        by_cases hn : i < 0
        · exact absurd (num_neg hn).1 e0
        · refine ⟨_, rfl, ?_, rfl⟩
          have e3 := (num_pos hn).2
          show [some (V.str (numText i)), some (V.str (numText i)), none, none, none] = [some (V.str (numText i)), some (V.str (dig i)), none, none, none]
          rw [← e3]
    · rintro σ' H' ⟨rfl, rfl⟩
      have dl : (dig i).length = (numL i.natAbs).length := by rw [len_tl, tl_dig]
      have d0 : 0 < (numL i.natAbs).length := List.length_pos_iff.mpr (numL_ne _)
      generalize hL : (numL i.natAbs).length = L at *
      obtain ⟨kk, hkk⟩ : ∃ kk : Nat, ((-(L : Int)) % 18) = (kk : Int) := ⟨((-(L : Int)) % 18).toNat, by omega⟩
      have k18 : kk < 18 := by omega
      obtain ⟨m, hm⟩ : ∃ m : Nat, 18 * m = kk + L := ⟨(kk + L) / 18, by omega⟩
      have ezero : ("0" : Str).length = 1 := by decide +kernel
      refine ⟨_, rfl, dig i, rfl, Nat.le_trans ld (by decide), _, rfl, _, _, rfl, rfl, by show (0 : Int) < 18; decide, "0", (kk : Int), rfl, by show V.int (-((dig i).length : Int) % 18) = V.int (kk : Int); rw [dl, hkk], by omega, by omega, by rw [ezero]; decide, ?_⟩
      have tr : tl (repS "0" (kk : Int)) = List.replicate kk 48 := by
        show (List.replicate (kk : Int).toNat (tl ("0" : Str))).flatten.toArray.toList = _
        rw [zero_tl, Int.toNat_natCast]
        have : ∀ n : Nat, (List.replicate n ([48] : List Nat)).flatten = List.replicate n 48 := by
          intro n
          induction n with
          | zero => rfl
          | succ n ih => rw [List.replicate_succ, List.flatten_cons, ih]; rfl
        rw [this]
      have lr : (repS "0" (kk : Int)).length = kk := by rw [len_tl, tr, List.length_replicate]
      refine ⟨_, rfl, _, _, rfl, rfl, by rw [lr]; show kk + (dig i).length ≤ 16777216; omega, ?_⟩
      have tp : tl (repS "0" (kk : Int) ++ dig i) = List.replicate kk 48 ++ numL i.natAbs := by rw [tl_append, tr, tl_dig]
      have lp : (repS "0" (kk : Int) ++ dig i).length = 18 * m := by
        rw [len_app, lr, dl, hm]
      have dg : ∀ c ∈ tl (repS "0" (kk : Int) ++ dig i), 48 ≤ c ∧ c ≤ 57 := by
        rw [tp]
        intro c hc
        rcases List.mem_append.mp hc with hc | hc
        · rw [List.eq_of_mem_replicate hc]
          omega
        · exact num_digit hc
      have va : PySem.NumText.digitsVal (tl (repS "0" (kk : Int) ++ dig i)) = i.natAbs := by
        rw [tp, val_app, val_noughts, Nat.zero_mul, Nat.zero_add, numL_val]
      generalize repS "0" (kk : Int) ++ dig i = pad at *
      have m20 : m < 20 := by omega
      refine into_name ?_
      dsimp only
      refine into_set ?_
      refine into_name ?_
      refine ⟨_, rfl, pad, rfl, by rw [lp]; show 18 * m ≤ 16777216; omega, 0, ((18 * m : Nat) : Int), 18, m, by rw [lp], ⟨by decide, by decide, (rg18 m m20).1, (rg18 m m20).2⟩, for_rangeC (lo := 0) (c := 18) (n := m) (fun j σ' H2 => ∃ v4 : Option V, σ' = [some (.str (numText i)), some (.str (dig i)), some (.str pad), some (.int (PySem.NumText.digitsVal ((tl pad).take (18 * j)) : Nat)), v4] ∧ H2 = H') ⟨none, rfl, rfl⟩ ?_ ?_⟩
      · rintro j σ' H2 hj ⟨v4, rfl, rfl⟩
        have e0 : (0 : Int) + (j : Nat) * 18 = ((18 * j : Nat) : Int) := by omega
        refine into_name ?_
        dsimp only
        refine ⟨_, rfl, _, _, rfl, rfl, .inr ⟨by decide, by decide⟩, _, rfl, _, rfl, ((18 * j : Nat) : Int), by rw [← e0], _, rfl, _, _, rfl, rfl, ((18 * j + 18 : Nat) : Int), ?_, pad, rfl, by rw [lp]; show 18 * m ≤ 16777216; omega, ?_⟩
        · show V.int (0 + (j : Nat) * 18 + 18) = _
          congr 1
          omega
        have cut := cut_mid (z := pad) (a := 18 * j) (b := 18 * j + 18) (by omega) (by rw [lp]; omega)
        have piece : (((tl pad).drop (18 * j)).take 18).length = 18 := by
          rw [List.length_take, List.length_drop, ← len_tl, lp]
          omega
        rw [show 18 * j + 18 - 18 * j = 18 by omega] at cut
        have cl : (cutS pad (some ((18 * j : Nat) : Int)) (some ((18 * j + 18 : Nat) : Int))).length = 18 := by rw [len_tl, cut, piece]
        have rd : PySem.intText? (cutS pad (some ((18 * j : Nat) : Int)) (some ((18 * j + 18 : Nat) : Int))) = some ((PySem.NumText.digitsVal (((tl pad).drop (18 * j)).take 18) : Nat) : Int) := by
          have q := PySem.intText_digits (x := cutS pad (some ((18 * j : Nat) : Int)) (some ((18 * j + 18 : Nat) : Int))) (by
            intro c hc
            have hc : c ∈ tl (cutS pad (some ((18 * j : Nat) : Int)) (some ((18 * j + 18 : Nat) : Int))) := hc
            rw [cut] at hc
            exact dg c (List.mem_of_mem_drop (List.mem_of_mem_take hc))) (by
            intro z
            have z : tl (cutS pad (some ((18 * j : Nat) : Int)) (some ((18 * j + 18 : Nat) : Int))) = [] := z
            rw [cut] at z
            rw [z] at piece
            exact absurd piece (by decide)) (by rw [cl]; decide)
          rw [q]
          show some (((PySem.NumText.digitsVal (tl _) : Nat)) : Int) = _
          rw [cut]
        refine ⟨_, _, rfl, rd, by rw [cl]; decide, _, _, rfl, rfl, ?_⟩
        refine ⟨some (.int (0 + (j : Nat) * 18)), ?_, rfl⟩
        have vt := val_take (l := tl pad) (a := 18 * j) (b := 18) (by rw [← len_tl, lp]; omega)
        rw [show 18 * (j + 1) = 18 * j + 18 by omega, vt, Int.natCast_add, Int.natCast_mul]
        rfl
      · rintro σ' H2 ⟨v4, rfl, rfl⟩
        have full : (tl pad).take (18 * m) = tl pad := List.take_of_length_le (by rw [← len_tl, lp]; exact Nat.le_refl _)
        rw [full, va]
        refine ⟨_, rfl, (1 : Int), rfl, _, rfl, lz, rfl, _, rfl, ite2 (fun h0 => ?_) (fun h0 => ?_)⟩
        · have e0 := V.str.inj (of_decide_eq_true h0)
          by_cases hn : i < 0
          · refine ⟨_, rfl, _, rfl, ?_⟩
            have : (-((i.natAbs : Nat) : Int)) = i := by omega
            show Q (.int (-((i.natAbs : Nat) : Int))) _
            rw [this]
            exact k
          · exact absurd e0 (num_pos hn).1
        · have e0 : cutS (numText i) none (some 1) ≠ "-" := fun z => h0 (decide_eq_true (by rw [z]))
          by_cases hn : i < 0
          · exact absurd (num_neg hn).1 e0
          · refine ⟨_, rfl, ?_⟩
            have : (((i.natAbs : Nat) : Int)) = i := by omega
            show Q (.int ((i.natAbs : Nat) : Int)) _
            rw [this]
            exact k
theorem k_read_fraction (D : Lies K mg "read_fraction" s_read_fraction) (T : Plain mg) (G_read_integer : Keeps P w K mg base 1 "_read_integer" ["word"] spReadI) (G_is_integer_text : Keeps P w K mg base 1 "_is_integer_text" ["word"] spIsNum) (G_is_fraction : Keeps P w K mg base 2 "is_fraction" ["value"] (spIsFr K)) : Keeps P w K mg base 3 "read_fraction" ["word"] (spRead K) := by
  refine D.keeps sc_read_fraction (fun _ _ _ _ _ _ us hl => match us, hl with | [_], _ => rfl) (fun vs H Q E h => ?_) (fun f cdv A outer s H vs Q E hr h => ?_)
  · obtain ⟨f, rfl, _⟩ := h
    rfl
  · obtain ⟨⟨a, b⟩, rfl, ⟨hb, hg, sa, sb⟩, k⟩ := h
    have sl : tl ("/" : Str) = 47 :: [] := by decide +kernel
    have fr : (47 : Nat) ∉ tl (numText a) := num_free (.inr (.inr rfl))
    have la := numText_len sa
    have lb := numText_len sb
    have lw := frac_len (f := (a, b)) sa sb
    have ls : ("/" : Str).length = 1 := by decide +kernel
    refine ⟨_, (pss_cons (ps_asg (pe_partition (pv 0) pe_str) (pg_tup rfl (pgs_cons (pg_name (i := 1) sc_read_fraction.nd rfl (Or.inl rfl)) (pgs_cons (pg_name (i := 2) sc_read_fraction.nd rfl (Or.inl rfl)) (pgs_cons (pg_name (i := 3) sc_read_fraction.nd rfl (Or.inl rfl)) pgs_nil)))))
      (pss_cons (ps_if (pt_not (pt_val (pe_go G_is_integer_text (hr.mono (by decide)) rfl (pa_cons (pv 1) pa_nil))))
        (pss_one (ps_ret pe_non))
        pss_nil)
      (pss_cons (ps_if (pt_cmpR op_eq (pv 2) pe_str (nomark _))
        (pss_one (ps_ret (pe_tup (pa_cons (pe_go G_read_integer (hr.mono (by decide)) rfl (pa_cons (pv 1) pa_nil)) (pa_cons pe_int pa_nil)))))
        pss_nil)
      (pss_cons (ps_if (pt_not (pt_val (pe_go G_is_integer_text (hr.mono (by decide)) rfl (pa_cons (pv 3) pa_nil))))
        (pss_one (ps_ret pe_non))
        pss_nil)
      (pss_cons (ps_set (i := 4) sc_read_fraction.nd rfl (Or.inl rfl) (pe_tup (pa_cons (pe_go G_read_integer (hr.mono (by decide)) rfl (pa_cons (pv 1) pa_nil)) (pa_cons (pe_go G_read_integer (hr.mono (by decide)) rfl (pa_cons (pv 3) pa_nil)) pa_nil))))
      (pss_cons (ps_if (PW.pt (pw_and (pt_cmpR op_gt (pe_ix ix_tup (pv 4) pe_int (fun _ _ => rfl)) pe_int (nomark _)) (pw_and1 (pt_val (pe_go G_is_fraction (hr.mono (by decide)) rfl (pa_cons (pv 4) pa_nil))))))
        (pss_one (ps_ret (pv 4)))
        pss_nil)
      (pss_one (ps_ret pe_non)))))))), ?_⟩
    refine ⟨_, rfl, ⟨_, rfl⟩, _, _, rfl, rfl, by rw [ls]; rfl, Nat.le_trans lw (by decide), fun q nq => ?_⟩
    by_cases e : b = 1
    · subst e
      have ew : fracText (a, 1) = numText a := by unfold fracText; rw [if_pos rfl]
      rw [ew, partition_none sl fr]
      refine ⟨q, _, rfl, SqT.of upd_same, rfl, _, _, rfl, _, _, rfl, _, _, rfl, ⟨rfl, ?_⟩⟩
      refine ⟨_, rfl, a, rfl, sa, fun H1 s1 => ⟨true, rfl, iteF ?_⟩⟩
      refine ⟨_, rfl, rfl, _, rfl, if_true_of' (decide_eq_true rfl) ?_⟩
      refine ⟨_, rfl, a, rfl, sa, by show 2 ≤ sizeLine; decide, fun t nt => ?_⟩
      exact k t _ ((same_upd nq).trans (s1.trans (same_upd nt))) upd_same
    · have ew : fracText (a, b) = numText a ++ "/" ++ numText b := by unfold fracText; rw [if_neg e]
      rw [ew, partition_app sl fr]
      refine ⟨q, _, rfl, SqT.of upd_same, rfl, _, _, rfl, _, _, rfl, _, _, rfl, ⟨rfl, ?_⟩⟩
      refine ⟨_, rfl, a, rfl, sa, fun H1 s1 => ⟨true, rfl, iteF ?_⟩⟩
      refine ⟨_, rfl, rfl, _, rfl, pull_false (decide_eq_false fun z => ?_) ?_⟩
      · have := congrArg Str.length (V.str.inj z)
        rw [ls] at this
        cases this
      refine ⟨_, rfl, b, rfl, sb, fun H2 s2 => ⟨true, rfl, iteF ?_⟩⟩
      refine ⟨_, rfl, a, rfl, sa, _, rfl, b, rfl, sb, by show 2 ≤ sizeLine; decide, fun t nt => ?_⟩
      refine ⟨_, rfl, t, _, _, _, rfl, rfl, SqT.of upd_same, rfl, _, _, rfl, rfl, _, rfl, if_true_of' (decide_eq_true (show (1 : Int) < b by omega)) ?_⟩
      refine ⟨_, rfl, t, (a, b), rfl, SqT.of upd_same, hb, hg, true, rfl, iteT ?_⟩
      refine ⟨_, rfl, k t _ ((same_upd nq).trans (s1.trans (s2.trans (same_upd nt)))) upd_same⟩
theorem gnd_name {x : Str} (h : Name x) : V.str x ≠ V.str "gnd" := fun z => h.2.2.2 (V.str.inj z)
theorem k_is_name (D : Lies K mg "is_name" s_is_name) (T : Plain mg) : Keeps P w K mg base 1 "is_name" ["value"] spIsName := by
  refine D.keeps sc_is_name (fun _ _ _ _ _ _ us hl => match us, hl with | [_], _ => rfl) (fun vs H Q E h => ?_) (fun f cdv A outer s H vs Q E hr h => ?_)
  · obtain ⟨x, rfl, _⟩ := h
    rfl
  · obtain ⟨x, rfl, hx, k⟩ := h
    refine ⟨_, (pss_cons (ps_if (PW.pt (pw_or (pt_not (pt_val (pe_callB call_isi (by rfl) T.n_isinstance b_isinstance (pa_cons (pv 0) (pa_cons (pe_bltn (v := .ty "str") (by rfl) T.n_str b_str rfl) pa_nil))))) (pw_or1 (pt_cmpR op_eq (pv 0) (pe_cs T.c_GROUND rfl) (nomark _)))))
        (pss_one (ps_ret pe_bl))
        pss_nil)
      (pss_one (ps_ret (pe_and (pe_chain op_le op_le pe_int (pe_callB call_len_str (by rfl) T.n_len b_len (pa_cons (pv 0) pa_nil)) (pe_ci T.c_LONGEST_NAME rfl)) (pe_one (pe_callB (cr_all rfl) (by rfl) T.n_all b_all (pa_cons (pe_lc (own := [("sign", 1)]) (g := gName 1) (tt := tYes) rfl sc_is_name.nd (pi_str (pv 0)) (blkOk_by (N := N_is_name) (sc := defScope s_is_name) (by decide +kernel)) (fun _ _ _ _ _ => pg_name (i := 1) sc_is_name.nd rfl (Or.inl rfl)) (fun _ _ _ _ _ => pts_nil) (fun _ _ _ _ _ => by exact (pe_cmpR op_in_sign (pv 1) (pe_cs T.c_LETTERS rfl) (by rfl)))) pa_nil))))))), ?_⟩
    refine ⟨_, rfl, _, _, _, _, true, rfl, .ty _, .base (.str x), kit_ty (by decide +kernel), true, rfl, pull_false rfl ⟨_, rfl, rfl, _, rfl, pull_false (decide_eq_false (gnd_name hx)) ?_⟩⟩
    refine ⟨_, rfl, x, rfl, Nat.le_trans hx.2.1 (by decide), _, _, rfl, rfl, true, congrArg V.bl (decide_eq_true (by have := hx.1; omega)), iteT ⟨_, _, rfl, rfl, true, congrArg V.bl (decide_eq_true (by have := hx.2.1; omega)), iteT ?_⟩⟩
    refine into_cb (into_args1 (comp_str (g := fun c => .bl (decide (c ∈ tl ("abcdefghijklmnopqrstuvwxyz" : Str)))) (fun R q => ⟨_, rfl, q⟩) (Nat.lt_of_le_of_lt hx.2.1 (by decide)) (fun _ => rfl) (fun c hc H Z hz => ⟨_, rfl, c, _, rfl, rfl, hz⟩) fun D hD => ?_))
    refine ⟨D, (tl x).map fun c => decide (c ∈ tl ("abcdefghijklmnopqrstuvwxyz" : Str)), rfl, SqL.of (by rw [List.map_map]; exact upd_same), ?_⟩
    have all : ((tl x).map fun c => decide (c ∈ tl ("abcdefghijklmnopqrstuvwxyz" : Str))).all id = true := by
      rw [List.all_map]
      exact List.all_eq_true.mpr fun y hy => in_letters (hx.2.2.1 y hy)
    rw [all]
    exact k _ (same_upd hD)
theorem k_names_of (D : Lies K mg "names_of" s_names_of) (T : Plain mg) : Keeps P w K mg base 1 "names_of" ["told"] (spNames K) := by
  refine D.keeps sc_names_of (fun _ _ _ _ _ _ us hl => match us, hl with | [_], _ => rfl) (fun vs H Q E h => ?_) (fun f cdv A outer s H vs Q E hr h => ?_)
  · obtain ⟨a, us, xs, rfl, _⟩ := h
    rfl
  · obtain ⟨a, us, xs, rfl, hS, pr, hz, k⟩ := h
    refine ⟨_, (pss_one (ps_ret (pe_lc (own := [("entry", 1)]) (g := gName 1) (tt := tYes) rfl sc_names_of.nd (pi_list (pv 0)) (blkOk_by (N := N_names_of) (sc := defScope s_names_of) (by decide +kernel)) (fun _ _ _ _ _ => pg_name (i := 1) sc_names_of.nd rfl (Or.inl rfl)) (fun _ _ _ _ _ => pts_nil) (fun _ _ _ _ _ => by exact (pe_ix (ix_tupK (K := K) rfl) (pv 1) pe_int (fun _ _ => rfl)))))), ?_⟩
    refine into_ret (comp_pure (f := fun x : Str => x) (R := HeadAt K H) (R' := fun _ => StrV) (fun R r => ⟨_, rfl, r⟩) hS pr (by rw [pr.length]; exact hz) (fun _ _ _ h => h) (fun _ _ _ _ h => h) (fun v e H0 Z r he s0 hZ => ?_) (fun H2 D acc hD s2 hL hp => ?_))
    · obtain ⟨t, rst, rfl, ht⟩ := r
      exact ⟨rfl, _, rfl, t, _, _, _, rfl, rfl, SqT.same s0 ht, atI_nat (j := 0) rfl, hZ _ _ (Same.refl _) rfl⟩
    · rw [List.map_id'] at hp
      have e := strs_are hp
      subst e
      exact k D H2 s2 hD hL
theorem k_names_ofT (D : Lies K mg "names_of" s_names_of) (T : Plain mg) : Keeps P w K mg base 1 "names_of" ["told"] (spNamesT K) := by
  refine D.keeps sc_names_of (fun _ _ _ _ _ _ us hl => match us, hl with | [_], _ => rfl) (fun vs H Q E h => ?_) (fun f cdv A outer s H vs Q E hr h => ?_)
  · obtain ⟨a, us, xs, rfl, _⟩ := h
    rfl
  · obtain ⟨a, us, xs, rfl, hS, pr, hz, k⟩ := h
    refine ⟨_, (pss_one (ps_ret (pe_lc (own := [("entry", 1)]) (g := gName 1) (tt := tYes) rfl sc_names_of.nd (pi_tup (pv 0)) (blkOk_by (N := N_names_of) (sc := defScope s_names_of) (by decide +kernel)) (fun _ _ _ _ _ => pg_name (i := 1) sc_names_of.nd rfl (Or.inl rfl)) (fun _ _ _ _ _ => pts_nil) (fun _ _ _ _ _ => by exact (pe_ix (ix_tupK (K := K) rfl) (pv 1) pe_int (fun _ _ => rfl)))))), ?_⟩
    refine into_ret (comp_pureT (f := fun x : Str => x) (R := HeadAt K H) (R' := fun _ => StrV) (fun R r => ⟨_, rfl, r⟩) hS pr (by rw [pr.length]; exact hz) (fun _ _ _ h => h) (fun _ _ _ _ h => h) (fun v e H0 Z r he s0 hZ => ?_) (fun H2 D acc hD s2 hL hp => ?_))
    · obtain ⟨t, rst, rfl, ht⟩ := r
      exact ⟨rfl, _, rfl, t, _, _, _, rfl, rfl, SqT.same s0 ht, atI_nat (j := 0) rfl, hZ _ _ (Same.refl _) rfl⟩
    · rw [List.map_id'] at hp
      have e := strs_are hp
      subst e
      exact k D H2 s2 hD hL
theorem k_is_another (D : Lies K mg "_is_another" s_is_another) (T : Plain mg) (G_is_name : Keeps P w K mg base 1 "is_name" ["value"] spIsName) (G_names_of : Keeps P w K mg base 1 "names_of" ["told"] (spNames K)) :
    Keeps P w K mg base 2 "_is_another" ["name", "told", "most"] (spAnother K) := by
  refine D.keeps sc_is_another (fun _ _ _ _ _ _ us hl => match us, hl with | [_, _, _], _ => rfl) (fun vs H Q E h => ?_) (fun f cdv A outer s H vs Q E hr h => ?_)
  · obtain ⟨x, a, us, xs, m, rfl, _⟩ := h
    rfl
  · obtain ⟨x, a, us, xs, m, rfl, hx, hS, pr, hm, hm2, nx, k⟩ := h
    have lu := pr.length
    refine ⟨_, (pss_one (ps_ret (pe_and (pe_go G_is_name (hr.mono (by decide)) rfl (pa_cons (pv 0) pa_nil)) (pe_and (pe_cmpR op_lt (pe_callB call_len_seq (by rfl) T.n_len b_len (pa_cons (pv 1) pa_nil)) (pv 2) (nomark _)) (pe_one (pe_cmpR op_notIn_seq (pv 0) (pe_go G_names_of (hr.mono (by decide)) rfl (pa_cons (pv 1) pa_nil)) (by rfl))))))), ?_⟩
    refine ⟨_, rfl, x, rfl, hx, fun H1 s1 => ⟨true, rfl, iteT ?_⟩⟩
    refine ⟨_, rfl, a, _, rfl, .inl (Same.seq s1 hS), _, rfl, _, _, rfl, rfl, true, congrArg V.bl (decide_eq_true (by omega)), iteT ?_⟩
    refine ⟨_, rfl, _, rfl, a, us, xs, rfl, Same.seq s1 hS, pr.mono fun v c ⟨t, r, e, h⟩ => ⟨t, r, e, SqT.same s1 h⟩, by omega, fun l H2 s2 _ hl => ?_⟩
    refine ⟨l, _, rfl, .inl (SqL.of hl), rfl, strs_flat xs, ?_⟩
    have e : (if true = true then !inV (.str x) (xs.map V.str) else inV (.str x) (xs.map V.str)) = true := by
      rw [if_pos rfl, in_strs, decide_eq_false nx]
      rfl
    rw [e]
    exact k H2 (s1.trans s2)
theorem k_is_junction (D : Lies K mg "_is_junction" s_is_junction) (T : Plain mg) (G_is_name : Keeps P w K mg base 1 "is_name" ["value"] spIsName) : Keeps P w K mg base 2 "_is_junction" ["word"] spJunc := by
  refine D.keeps sc_is_junction (fun _ _ _ _ _ _ us hl => match us, hl with | [_], _ => rfl) (fun vs H Q E h => ?_) (fun f cdv A outer s H vs Q E hr h => ?_)
  · obtain ⟨x, rfl, _⟩ := h
    rfl
  · obtain ⟨x, rfl, hx, k⟩ := h
    refine ⟨_, (pss_one (ps_ret (pe_or (pe_cmpR op_eq (pv 0) (pe_cs T.c_GROUND rfl) (nomark _)) (pe_one (pe_go G_is_name (hr.mono (by decide)) rfl (pa_cons (pv 0) pa_nil)))))), ?_⟩
    rcases hx with rfl | hx
    · exact ⟨_, rfl, rfl, true, congrArg V.bl (decide_eq_true rfl), iteT (k _ (Same.refl _))⟩
    · exact ⟨_, rfl, rfl, false, congrArg V.bl (decide_eq_false (gnd_name hx)), iteF ⟨_, rfl, x, rfl, hx, fun H1 s1 => k _ s1⟩⟩
end
end Ct

namespace Ct
open PySem PySem.Spec PyProof.Rows L2 TL
abbrev s_takes_source : Stmt := top 39
abbrev N_takes_source : List Str := ["words", "sources", "parts", "name", "voltage"]
theorem sc_takes_source : FnScope N_takes_source ["words", "sources", "parts"] (defScope s_takes_source) := ⟨rfl, rfl, rfl, by decide +kernel, rfl, by decide +kernel, by decide +kernel⟩
abbrev s_takes_part : Stmt := top 40
abbrev N_takes_part : List Str := ["words", "parts", "joinings", "name", "size"]
theorem sc_takes_part : FnScope N_takes_part ["words", "parts", "joinings"] (defScope s_takes_part) := ⟨rfl, rfl, rfl, by decide +kernel, rfl, by decide +kernel, by decide +kernel⟩
abbrev s_takes_joining : Stmt := top 41
abbrev N_takes_joining : List Str := ["words", "parts", "joinings", "name"]
theorem sc_takes_joining : FnScope N_takes_joining ["words", "parts", "joinings"] (defScope s_takes_joining) := ⟨rfl, rfl, rfl, by decide +kernel, rfl, by decide +kernel, by decide +kernel⟩
abbrev s_takes_tie : Stmt := top 42
abbrev N_takes_tie : List Str := ["words", "parts", "joinings", "_", "part", "plus", "minus", "ties"]
theorem sc_takes_tie : FnScope N_takes_tie ["words", "parts", "joinings"] (defScope s_takes_tie) := ⟨rfl, rfl, rfl, by decide +kernel, rfl, by decide +kernel, by decide +kernel⟩
abbrev s_takes_line : Stmt := top 38
abbrev N_takes_line : List Str := ["words", "sources", "parts", "joinings"]
theorem sc_takes_line : FnScope N_takes_line ["words", "sources", "parts", "joinings"] (defScope s_takes_line) := ⟨rfl, rfl, rfl, by decide +kernel, rfl, by decide +kernel, by decide +kernel⟩
def txts (l : List Str) : List V := l.map V.str
def spTSrc (K : PySem.W.Frag) : Sp := fun vs H Q _ => ∃ (a s p j : Addr) (G : Hp) (o : Own) (e : Str × Int × Int), vs = [.ref a, .ref s, .ref p] ∧ Acc K G H s p j o ∧ SqL K G a (txts (Line.src e).words) ∧ Fits o (.src e) ∧
  ∀ G' H', Same G G' → Acc K G' H' s p j (o.add (.src e)) → Q (.bl true) H'
def spTPrt (K : PySem.W.Frag) : Sp := fun vs H Q _ => ∃ (a s p j : Addr) (G : Hp) (o : Own) (e : Str × Int × Int), vs = [.ref a, .ref p, .ref j] ∧ Acc K G H s p j o ∧ SqL K G a (txts (Line.prt e).words) ∧ Fits o (.prt e) ∧
  ∀ G' H', Same G G' → Acc K G' H' s p j (o.add (.prt e)) → Q (.bl true) H'
def spTJoi (K : PySem.W.Frag) : Sp := fun vs H Q _ => ∃ (a s p j : Addr) (G : Hp) (o : Own) (x : Str), vs = [.ref a, .ref p, .ref j] ∧ Acc K G H s p j o ∧ SqL K G a (txts (Line.joi x).words) ∧ Fits o (.joi x) ∧
  ∀ G' H', Same G G' → Acc K G' H' s p j (o.add (.joi x)) → Q (.bl true) H'
def spTTie (K : PySem.W.Frag) : Sp := fun vs H Q _ => ∃ (a s p j : Addr) (G : Hp) (o : Own) (t : Str × Str × Str), vs = [.ref a, .ref p, .ref j] ∧ Acc K G H s p j o ∧ SqL K G a (txts (Line.tie t).words) ∧ Fits o (.tie t) ∧
  ∀ G' H', Same G G' → Acc K G' H' s p j (o.add (.tie t)) → Q (.bl true) H'
def spTLine (K : PySem.W.Frag) : Sp := fun vs H Q _ => ∃ (a s p j : Addr) (G : Hp) (o : Own) (l : Line), vs = [.ref a, .ref s, .ref p, .ref j] ∧ Acc K G H s p j o ∧ SqL K G a (txts l.words) ∧ Fits o l ∧
  ∀ G' H', Same G G' → Acc K G' H' s p j (o.add l) → Q (.bl true) H'
theorem heads_mono {K : PySem.W.Frag} {H H' : Hp} (s : Same H H') {us : List V} {xs : List Str} (h : Paired (HeadAt K H) us xs) : Paired (HeadAt K H') us xs := h.mono fun v c ⟨t, r, e, q⟩ => ⟨t, r, e, SqT.same s q⟩
theorem Paired.nil_of {α β : Type} {F : α → β → Prop} {xs : List α} (h : Paired F xs []) : xs = [] := by
  cases h
  rfl
section
variable {P : Program} {w : World} {K : PySem.W.Frag} {mg : Str → Option Value} {base : Heap}
theorem k_takes_source (D : Lies K mg "_takes_source" s_takes_source) (T : Plain mg) (G_read_fraction : Keeps P w K mg base 3 "read_fraction" ["word"] (spRead K)) (G_is_another : Keeps P w K mg base 2 "_is_another" ["name", "told", "most"] (spAnother K)) :
    Keeps P w K mg base 4 "_takes_source" ["words", "sources", "parts"] (spTSrc K) := by
  refine D.keeps sc_takes_source (fun _ _ _ _ _ _ us hl => match us, hl with | [_, _, _], _ => rfl) (fun vs H Q E h => ?_) (fun f cdv A outer s0 H vs Q E hr h => ?_)
  · obtain ⟨a, s, p, j, G, o, e, rfl, _⟩ := h
    rfl
  · obtain ⟨a, s, p, j, G, o, e, rfl, ac, hS, ⟨f1, f2, f3, f4, f5⟩, k⟩ := h
    have hS1 := Same.seq ac.sub hS
    refine ⟨_, (pss_cons (ps_par (i := 3) (j := 4) (by rfl) sc_takes_source.nd rfl rfl (by decide) rfl rfl (pa_cons (pe_ix ix_list (pv 0) pe_int (fun _ _ => rfl)) (pa_cons (pe_go G_read_fraction (hr.mono (by decide)) rfl (pa_cons (pe_ix ix_list (pv 0) pe_int (fun _ _ => rfl)) pa_nil)) pa_nil)) (by rfl))
      (pss_cons (ps_if (PW.pt (pw_or (pt_cmpR op_isN (pv 4) pe_non (nomark _)) (pw_or (pt_truth (pv 2) (by intro _; rfl)) (pw_or1 (pt_not (pt_val (pe_go G_is_another (hr.mono (by decide)) rfl (pa_cons (pv 3) (pa_cons (pv 1) (pa_cons (pe_ci T.c_MOST_SOURCES rfl) pa_nil))))))))))
        (pss_one (ps_ret pe_bl))
        pss_nil)
      (pss_cons (ps_expr (pe_bm PySem.F.plainAttrs_list PySem.F.slot_list_append PySem.F.type_list_append mt_append (pv 1) (pa_cons (pe_tup (pa_cons (pv 3) (pa_cons (pv 4) pa_nil))) pa_nil)))
      (pss_one (ps_ret pe_bl))))), ?_⟩
    refine ⟨_, rfl, a, _, _, _, rfl, rfl, hS1, atI_nat (j := 1) rfl, _, rfl, a, _, _, _, rfl, rfl, hS1, atI_nat (j := 2) rfl, e.2, rfl, f3, fun t H1 s1 ht => ⟨_, _, rfl, ?_⟩⟩
    obtain ⟨ac1, sg1⟩ := (ac.more s1).fix ht
    obtain ⟨v1, h1, r1⟩ := ac1.src
    obtain ⟨v2, h2, r2⟩ := ac1.prt
    rw [f1] at r2
    obtain rfl := Paired.nil_of r2
    refine ⟨_, rfl, rfl, _, rfl, pull_false (decide_eq_false fun z => by cases z) ⟨_, rfl, false, .inl ⟨_, SqL.of h2, rfl⟩, pull_false rfl ?_⟩⟩
    refine ⟨_, rfl, _, rfl, e.1, s, v1, o.sources.map (·.1), 4, rfl, f2, SqL.of h1, heads_mono ac1.sub (heads r1 fun v c h => HeadAt.ent h), by rw [List.length_map]; omega, by decide, f5, fun H2 s2 => ⟨true, rfl, iteF ?_⟩⟩
    have ac2 := ac1.more s2
    refine ⟨_, rfl, .inl ⟨rfl, _, SqL.of (s2 _ _ h1)⟩, _, rfl, _, rfl, by show 2 ≤ sizeLine; decide, fun t2 nt2 => ?_⟩
    obtain ⟨ac3, sg3⟩ := (ac2.more (same_upd nt2)).fix (t := t2) (xs := [V.str e.1, V.ref t]) upd_same
    have h3 := (same_upd (o := .tup [V.str e.1, V.ref t]) nt2) _ _ (s2 _ _ h1)
    refine ⟨s, v1, _, rfl, rfl, h3, ?_, ?_⟩
    · have := r1.length
      show v1.length < 16777216
      omega
    refine k _ _ (sg1.trans sg3) (ac3.addSrc h3 ⟨t2, _, rfl, SqT.of upd_same, t, rfl, SqT.of (sg3 _ _ upd_same)⟩)
theorem k_takes_part (D : Lies K mg "_takes_part" s_takes_part) (T : Plain mg) (G_read_fraction : Keeps P w K mg base 3 "read_fraction" ["word"] (spRead K)) (G_is_another : Keeps P w K mg base 2 "_is_another" ["name", "told", "most"] (spAnother K)) (G_is_above_nought : Keeps P w K mg base 3 "is_above_nought" ["value"] (spIsSize K)) :
    Keeps P w K mg base 4 "_takes_part" ["words", "parts", "joinings"] (spTPrt K) := by
  refine D.keeps sc_takes_part (fun _ _ _ _ _ _ us hl => match us, hl with | [_, _, _], _ => rfl) (fun vs H Q E h => ?_) (fun f cdv A outer s0 H vs Q E hr h => ?_)
  · obtain ⟨a, s, p, j, G, o, e, rfl, _⟩ := h
    rfl
  · obtain ⟨a, s, p, j, G, o, e, rfl, ac, hS, ⟨f1, f2, f3, f4, f5, f6⟩, k⟩ := h
    have hS1 := Same.seq ac.sub hS
    refine ⟨_, (pss_cons (ps_par (i := 3) (j := 4) (by rfl) sc_takes_part.nd rfl rfl (by decide) rfl rfl (pa_cons (pe_ix ix_list (pv 0) pe_int (fun _ _ => rfl)) (pa_cons (pe_go G_read_fraction (hr.mono (by decide)) rfl (pa_cons (pe_ix ix_list (pv 0) pe_int (fun _ _ => rfl)) pa_nil)) pa_nil)) (by rfl))
      (pss_cons (ps_if (PW.pt (pw_or (pt_not (pt_val (pe_go G_is_above_nought (hr.mono (by decide)) rfl (pa_cons (pv 4) pa_nil)))) (pw_or (pt_truth (pv 2) (by intro _; rfl)) (pw_or1 (pt_not (pt_val (pe_go G_is_another (hr.mono (by decide)) rfl (pa_cons (pv 3) (pa_cons (pv 1) (pa_cons (pe_ci T.c_MOST_PARTS rfl) pa_nil))))))))))
        (pss_one (ps_ret pe_bl))
        pss_nil)
      (pss_cons (ps_expr (pe_bm PySem.F.plainAttrs_list PySem.F.slot_list_append PySem.F.type_list_append mt_append (pv 1) (pa_cons (pe_tup (pa_cons (pv 3) (pa_cons (pv 4) pa_nil))) pa_nil)))
      (pss_one (ps_ret pe_bl))))), ?_⟩
    refine ⟨_, rfl, a, _, _, _, rfl, rfl, hS1, atI_nat (j := 1) rfl, _, rfl, a, _, _, _, rfl, rfl, hS1, atI_nat (j := 2) rfl, e.2, rfl, f3, fun t H1 s1 ht => ⟨_, _, rfl, ?_⟩⟩
    obtain ⟨ac1, sg1⟩ := (ac.more s1).fix ht
    obtain ⟨v2, h2, r2⟩ := ac1.prt
    obtain ⟨v3, h3, r3⟩ := ac1.joi
    have l3 := r3.len
    rw [f1] at l3
    obtain rfl : v3 = [] := List.eq_nil_of_length_eq_zero l3
    refine ⟨_, rfl, t, e.2, rfl, SqT.of ht, f3.1, f3.2.1, f4, true, rfl, pull_false rfl ⟨_, rfl, false, .inl ⟨_, SqL.of h3, rfl⟩, pull_false rfl ?_⟩⟩
    refine ⟨_, rfl, _, rfl, e.1, p, v2, o.parts.map (·.1), 8, rfl, f2, SqL.of h2, heads_mono ac1.sub (heads r2 fun v c h => HeadAt.ent h), by rw [List.length_map]; omega, by decide, f6, fun H2 s2 => ⟨true, rfl, iteF ?_⟩⟩
    have ac2 := ac1.more s2
    refine ⟨_, rfl, .inl ⟨rfl, _, SqL.of (s2 _ _ h2)⟩, _, rfl, _, rfl, by show 2 ≤ sizeLine; decide, fun t2 nt2 => ?_⟩
    obtain ⟨ac3, sg3⟩ := (ac2.more (same_upd nt2)).fix (t := t2) (xs := [V.str e.1, V.ref t]) upd_same
    have h3 := (same_upd (o := .tup [V.str e.1, V.ref t]) nt2) _ _ (s2 _ _ h2)
    refine ⟨p, v2, _, rfl, rfl, h3, ?_, ?_⟩
    · have := r2.length
      show v2.length < 16777216
      omega
    refine k _ _ (sg1.trans sg3) (ac3.addPrt h3 ⟨t2, _, rfl, SqT.of upd_same, t, rfl, SqT.of (sg3 _ _ upd_same)⟩)
theorem JacAt.heads {G H : Hp} {s p j : Addr} {vs : List V} {js : List (Str × List (Str × Str × Str))} (h : JacAt K G H s p j vs js) : Paired (HeadAt K G) vs (js.map (·.1)) := by
  cases h with
  | nil => exact .nil
  | last front ht gl ls lp lj hl ties =>
    rw [List.map_append]
    exact (Ct.heads front fun v c h => HeadAt.joi h).snoc ⟨_, _, rfl, ht⟩
theorem k_takes_joining (D : Lies K mg "_takes_joining" s_takes_joining) (T : Plain mg) (G_is_another : Keeps P w K mg base 2 "_is_another" ["name", "told", "most"] (spAnother K)) : Keeps P w K mg base 3 "_takes_joining" ["words", "parts", "joinings"] (spTJoi K) := by
  refine D.keeps sc_takes_joining (fun _ _ _ _ _ _ us hl => match us, hl with | [_, _, _], _ => rfl) (fun vs H Q E h => ?_) (fun f cdv A outer s0 H vs Q E hr h => ?_)
  · obtain ⟨a, s, p, j, G, o, x, rfl, _⟩ := h
    rfl
  · obtain ⟨a, s, p, j, G, o, x, rfl, ac, hS, ⟨f1, f2, f3, f4⟩, k⟩ := h
    have hS1 := Same.seq ac.sub hS
    refine ⟨_, (pss_cons (ps_set (i := 3) sc_takes_joining.nd rfl (Or.inl rfl) (pe_ix ix_list (pv 0) pe_int (fun _ _ => rfl)))
      (pss_cons (ps_if (PW.pt (pw_or (pt_not (pt_truth (pv 1) (by intro _; rfl))) (pw_or1 (pt_not (pt_val (pe_go G_is_another (hr.mono (by decide)) rfl (pa_cons (pv 3) (pa_cons (pv 2) (pa_cons (pe_ci T.c_MOST_JOININGS rfl) pa_nil)))))))))
        (pss_one (ps_ret pe_bl))
        pss_nil)
      (pss_cons (ps_expr (pe_bm PySem.F.plainAttrs_list PySem.F.slot_list_append PySem.F.type_list_append mt_append (pv 2) (pa_cons (pe_tup (pa_cons (pv 3) (pa_cons (pe_lst pa_nil) pa_nil))) pa_nil)))
      (pss_one (ps_ret pe_bl))))), ?_⟩
    obtain ⟨v2, h2, r2⟩ := ac.prt
    obtain ⟨v3, h3, r3⟩ := ac.joi
    have e2 : (!v2.isEmpty) = true := by
      have l := r2.length
      cases v2 with
      | nil => exact absurd (List.eq_nil_of_length_eq_zero l.symm) f1
      | cons _ _ => rfl
    refine ⟨_, rfl, a, _, _, _, rfl, rfl, hS1, atI_nat (j := 1) rfl, ?_⟩
    refine ⟨_, rfl, true, .inl ⟨_, SqL.of h2, e2.symm⟩, pull_false rfl ?_⟩
    refine ⟨_, rfl, _, rfl, x, j, v3, o.joinings.map (·.1), 6, rfl, f2, SqL.of h3, heads_mono ac.sub r3.heads, by rw [List.length_map]; omega, by decide, f4, fun H2 s2 => ⟨true, rfl, iteF ?_⟩⟩
    have ac2 := ac.more s2
    refine ⟨_, rfl, .inl ⟨rfl, _, SqL.of (s2 _ _ h3)⟩, _, rfl, Nat.zero_le _, fun l nl => ⟨by show 2 ≤ sizeLine; decide, fun t nt => ?_⟩⟩
    obtain ⟨G', sg, ac3⟩ := ac2.addJoi (x := x) (s2 _ _ h3) nl nt
    refine ⟨j, v3, _, rfl, rfl, (same_upd nt) _ _ ((same_upd nl) _ _ (s2 _ _ h3)), ?_, k G' _ sg ac3⟩
    have := r3.len
    show v3.length < 16777216
    omega
theorem k_takes_tie (D : Lies K mg "_takes_tie" s_takes_tie) (T : Plain mg) (G_names_of : Keeps P w K mg base 1 "names_of" ["told"] (spNames K)) (G_is_junction : Keeps P w K mg base 2 "_is_junction" ["word"] spJunc) : Keeps P w K mg base 3 "_takes_tie" ["words", "parts", "joinings"] (spTTie K) := by
  refine D.keeps sc_takes_tie (fun _ _ _ _ _ _ us hl => match us, hl with | [_, _, _], _ => rfl) (fun vs H Q E h => ?_) (fun f cdv A outer s0 H vs Q E hr h => ?_)
  · obtain ⟨a, s, p, j, G, o, x, rfl, _⟩ := h
    rfl
  · obtain ⟨a, s, p, j, G, o, t, rfl, ac, hS, ⟨fr, x, ts, f1, f2, f3, f4, f5, f6, f7⟩, k⟩ := h
    have hS1 := Same.seq ac.sub hS
    refine ⟨_, (pss_cons (ps_asg (pv 0) (pg_lst rfl (pgs_cons (pg_name (i := 3) sc_takes_tie.nd rfl (Or.inl rfl)) (pgs_cons (pg_name (i := 4) sc_takes_tie.nd rfl (Or.inl rfl)) (pgs_cons (pg_name (i := 5) sc_takes_tie.nd rfl (Or.inl rfl)) (pgs_cons (pg_name (i := 6) sc_takes_tie.nd rfl (Or.inl rfl)) pgs_nil))))))
      (pss_cons (ps_if (PW.pt (pw_or (pt_not (pt_truth (pv 2) (by intro _; rfl))) (pw_or1 (pt_cmpR op_notIn_seq (pv 4) (pe_go G_names_of (hr.mono (by decide)) rfl (pa_cons (pv 1) pa_nil)) (by rfl)))))
        (pss_one (ps_ret pe_bl))
        pss_nil)
      (pss_cons (ps_set (i := 7) sc_takes_tie.nd rfl (Or.inl rfl) (pe_ix ix_tup (pe_ix ix_list (pv 2) (pe_un un_neg pe_int) (fun _ _ => rfl)) pe_int (fun _ _ => rfl)))
      (pss_cons (ps_if (PW.pt (pw_or (pt_cmpR op_in_seq (pv 4) (pe_go G_names_of (hr.mono (by decide)) rfl (pa_cons (pv 7) pa_nil)) (by rfl)) (pw_or (pt_not (pt_val (pe_go G_is_junction (hr.mono (by decide)) rfl (pa_cons (pv 5) pa_nil)))) (pw_or1 (pt_not (pt_val (pe_go G_is_junction (hr.mono (by decide)) rfl (pa_cons (pv 6) pa_nil))))))))
        (pss_one (ps_ret pe_bl))
        pss_nil)
      (pss_cons (ps_expr (pe_bm PySem.F.plainAttrs_list PySem.F.slot_list_append PySem.F.type_list_append mt_append (pv 7) (pa_cons (pe_tup (pa_cons (pv 4) (pa_cons (pv 5) (pa_cons (pv 6) pa_nil)))) pa_nil)))
      (pss_one (ps_ret pe_bl))))))), ?_⟩
    obtain ⟨v2, h2, r2⟩ := ac.prt
    obtain ⟨v3, h3, r3⟩ := ac.joi
    rw [f1] at r3
    generalize ejs : fr ++ [(x, ts)] = js at r3
    cases r3 with
    | nil => exact absurd ejs (by simp)
    | last front ht gl ls lp lj hl ties =>
      rename_i vF fr0 t0 l x0 ts0 tv
      obtain ⟨rfl, e2⟩ := List.append_inj' ejs.symm rfl
      obtain ⟨rfl, rfl⟩ := Prod.mk.inj (List.cons.inj e2).1
      refine ⟨_, rfl, a, _, rfl, hS1, rfl, _, _, rfl, _, _, rfl, _, _, rfl, _, _, rfl, ⟨rfl, ?_⟩⟩
      refine ⟨_, rfl, true, .inl ⟨_, SqL.of h3, by simp⟩, pull_false rfl ?_⟩
      refine ⟨_, rfl, _, rfl, p, v2, o.parts.map (·.1), rfl, SqL.of h2, heads_mono ac.sub (heads r2 fun v c h => HeadAt.ent h), by rw [List.length_map]; omega, fun q1 H1 s1 _ hq1 => ?_⟩
      refine ⟨q1, _, rfl, .inl (SqL.of hq1), rfl, strs_flat _, false, congrArg V.bl ?_, iteF ?_⟩
      · rw [if_pos rfl, in_strs, decide_eq_true f4]
        rfl
      have ac1 := ac.more s1
      refine ⟨_, rfl, _, rfl, j, _, _, _, rfl, rfl, SqL.of (s1 _ _ h3), atI_last _ _, t0, _, _, _, rfl, rfl, SqT.same ac1.sub ht, atI_nat (j := 1) rfl, ?_⟩
      refine ⟨_, rfl, _, rfl, l, tv, ts0.map (·.1), rfl, SqL.of (s1 _ _ hl), heads_mono ac1.sub (heads ties fun v c h => HeadAt.tie h), by rw [List.length_map]; omega, fun q2 H2 s2 _ hq2 => ?_⟩
      refine ⟨q2, _, rfl, .inl (SqL.of hq2), rfl, strs_flat _, false, congrArg V.bl ?_, pull_false rfl ?_⟩
      · rw [if_neg Bool.false_ne_true, in_strs, decide_eq_false f5]
      refine ⟨_, rfl, _, rfl, f6, fun H3 s3 => ⟨true, rfl, pull_false rfl ?_⟩⟩
      refine ⟨_, rfl, _, rfl, f7, fun H4 s4 => ⟨true, rfl, iteF ?_⟩⟩
      have s14 := s1.trans (s2.trans (s3.trans s4))
      refine ⟨_, rfl, .inl ⟨rfl, _, SqL.of (s14 _ _ hl)⟩, _, rfl, _, rfl, _, rfl, by show 3 ≤ sizeLine; decide, fun t2 nt2 => ?_⟩
      have s15 := s14.trans (same_upd (o := .tup [V.str t.1, V.str t.2.1, V.str t.2.2]) nt2)
      obtain ⟨ac3, sg3⟩ := (ac.more s15).fix (t := t2) (xs := [V.str t.1, V.str t.2.1, V.str t.2.2]) upd_same
      have gl2 : (upd G t2 (.tup [V.str t.1, V.str t.2.1, V.str t.2.2])) l = none := by
        rw [upd_ne (ne_of_none (s14 _ _ hl) nt2)]
        exact gl
      refine ⟨l, tv, _, rfl, rfl, s15 _ _ hl, ?_, ?_⟩
      · have := ties.length
        show tv.length < 16777216
        omega
      exact k _ _ sg3 (ac3.addTie f1 (s15 _ _ h3) (front.mono fun v c h => h.same sg3) (SqT.same sg3 ht) gl2 ls lp lj (s15 _ _ hl) (ties.mono fun v c h => h.same sg3) ⟨t2, rfl, SqT.of upd_same⟩)
end
end Ct

/-! A circuit's lines: read one behind the other they tell the circuit again. -/
namespace Ct
open PySem PySem.Spec PyProof.Rows L2 TL
def Line.text (l : Line) : Str := Txt.join " " l.words
def linesOf (o : Own) : List Line := o.sources.map Line.src ++ (o.parts.map Line.prt ++ o.joinings.flatMap fun j => Line.joi j.1 :: j.2.map Line.tie)
def emp : Own := ⟨[], [], []⟩
def FitsFrom : Own → List Line → Prop
  | _, [] => True
  | o, l :: r => Fits o l ∧ FitsFrom (o.add l) r
theorem fits_app : ∀ (a b : List Line) (o : Own), FitsFrom o a → FitsFrom (a.foldl Own.add o) b → FitsFrom o (a ++ b)
  | [], _, _, _, h => h
  | l :: r, b, o, ⟨h1, h2⟩, h3 => ⟨h1, fits_app r b (o.add l) h2 h3⟩
/-! ### the texts -/
theorem join_two (a b : Str) : Txt.join " " [a, b] = a ++ " " ++ b := by
  rw [TL.join_eq]
  refine ext_tl ?_
  rw [tl_join]
  simp only [List.map_cons, List.map_nil, joinL, tl_append, List.append_assoc]
theorem join_three (a b c : Str) : Txt.join " " [a, b, c] = a ++ " " ++ b ++ " " ++ c := by
  rw [TL.join_eq]
  refine ext_tl ?_
  rw [tl_join]
  simp only [List.map_cons, List.map_nil, joinL, tl_append, List.append_assoc]
theorem join_four (a b c d : Str) : Txt.join " " [a, b, c, d] = a ++ " " ++ Txt.join " " [b, c, d] := by
  rw [join_three, TL.join_eq]
  refine ext_tl ?_
  rw [tl_join]
  simp only [List.map_cons, List.map_nil, joinL, tl_append, List.append_assoc]
theorem kw_src : ("source " : Str) = ("source" : Str) ++ " " := by decide +kernel
theorem kw_prt : ("part " : Str) = ("part" : Str) ++ " " := by decide +kernel
theorem kw_joi : ("joining " : Str) = ("joining" : Str) ++ " " := by decide +kernel
theorem kw_tie : ("tie " : Str) = ("tie" : Str) ++ " " := by decide +kernel
theorem rows_lines (o : Own) : rowsOf o = ("circuit" : Str) :: (linesOf o).map Line.text := by
  unfold rowsOf linesOf
  have e1 : (o.sources.map Line.src).map Line.text = o.sources.map (entLine "source ") := by
    rw [List.map_map]
    refine List.map_congr_left fun e _ => ?_
    show Txt.join " " ["source", e.1, fracText e.2] = _
    rw [join_three]
    unfold entLine
    rw [kw_src]
  have e2 : (o.parts.map Line.prt).map Line.text = o.parts.map (entLine "part ") := by
    rw [List.map_map]
    refine List.map_congr_left fun e _ => ?_
    show Txt.join " " ["part", e.1, fracText e.2] = _
    rw [join_three]
    unfold entLine
    rw [kw_prt]
  have e3 : (o.joinings.flatMap fun j => Line.joi j.1 :: j.2.map Line.tie).map Line.text = o.joinings.flatMap joiRows := by
    rw [List.map_flatMap]
    congr 1
    funext j
    unfold joiRows
    rw [List.map_cons, List.map_map]
    have a1 : Line.text (.joi j.1) = joiLine j.1 := by
      show Txt.join " " ["joining", j.1] = _
      rw [join_two]
      unfold joiLine
      rw [kw_joi]
    rw [a1]
    congr 1
    refine List.map_congr_left fun t _ => ?_
    show Txt.join " " ["tie", t.1, t.2.1, t.2.2] = _
    rw [join_four]
    unfold tieLine
    rw [kw_tie]
  rw [List.map_append, List.map_append, e1, e2, e3, List.append_assoc]
/-! ### read again -/
theorem fold_src (P : List (Str × Int × Int)) (J : List (Str × List (Str × Str × Str))) : ∀ (S S0 : List (Str × Int × Int)), (S.map Line.src).foldl Own.add ⟨S0, P, J⟩ = ⟨S0 ++ S, P, J⟩
  | [], S0 => by rw [List.append_nil]; rfl
  | e :: r, S0 => by
    show (r.map Line.src).foldl Own.add ⟨S0 ++ [e], P, J⟩ = _
    rw [fold_src P J r (S0 ++ [e]), List.append_assoc]
    rfl
theorem fold_prt (S : List (Str × Int × Int)) (J : List (Str × List (Str × Str × Str))) : ∀ (P P0 : List (Str × Int × Int)), (P.map Line.prt).foldl Own.add ⟨S, P0, J⟩ = ⟨S, P0 ++ P, J⟩
  | [], P0 => by rw [List.append_nil]; rfl
  | e :: r, P0 => by
    show (r.map Line.prt).foldl Own.add ⟨S, P0 ++ [e], J⟩ = _
    rw [fold_prt S J r (P0 ++ [e]), List.append_assoc]
    rfl
theorem fold_tie (S P : List (Str × Int × Int)) (J : List (Str × List (Str × Str × Str))) (x : Str) : ∀ (ts ts0 : List (Str × Str × Str)), (ts.map Line.tie).foldl Own.add ⟨S, P, J ++ [(x, ts0)]⟩ = ⟨S, P, J ++ [(x, ts0 ++ ts)]⟩
  | [], ts0 => by rw [List.append_nil]; rfl
  | t :: r, ts0 => by
    show (r.map Line.tie).foldl Own.add ⟨S, P, addTie t (J ++ [(x, ts0)])⟩ = _
    rw [addTie_last, fold_tie S P J x r (ts0 ++ [t]), List.append_assoc]
    rfl
theorem fold_joi (S P : List (Str × Int × Int)) : ∀ (J J0 : List (Str × List (Str × Str × Str))), (J.flatMap fun j => Line.joi j.1 :: j.2.map Line.tie).foldl Own.add ⟨S, P, J0⟩ = ⟨S, P, J0 ++ J⟩
  | [], J0 => by rw [List.append_nil]; rfl
  | (x, ts) :: r, J0 => by
    rw [List.flatMap_cons, List.foldl_append]
    show (r.flatMap fun j => Line.joi j.1 :: j.2.map Line.tie).foldl Own.add ((ts.map Line.tie).foldl Own.add ⟨S, P, J0 ++ [(x, [])]⟩) = _
    rw [fold_tie S P J0 x ts [], List.nil_append, fold_joi S P r (J0 ++ [(x, ts)]), List.append_assoc]
    rfl
theorem fold_lines (o : Own) : (linesOf o).foldl Own.add emp = o := by
  unfold linesOf emp
  rw [List.foldl_append, fold_src, List.foldl_append, List.nil_append, fold_prt, List.nil_append, fold_joi, List.nil_append]
theorem notin_of {α : Type} {a : List α} {x : α} {r : List α} (h : (a ++ x :: r).Nodup) : x ∉ a := fun hx => by
  have := (List.nodup_append.mp h).2.2 x hx x List.mem_cons_self
  exact this rfl
theorem fits_src : ∀ (S S0 : List (Str × Int × Int)), S0.length + S.length ≤ 4 → ((S0 ++ S).map (·.1)).Nodup → (∀ e ∈ S, Name e.1 ∧ FrOk e.2) → FitsFrom ⟨S0, [], []⟩ (S.map Line.src)
  | [], _, _, _, _ => trivial
  | e :: r, S0, hl, nd, ok => by
    have q := ok e List.mem_cons_self
    rw [List.length_cons] at hl
    refine ⟨⟨rfl, q.1, q.2, by show S0.length < 4; omega, ?_⟩, ?_⟩
    · rw [List.map_append, List.map_cons] at nd
      exact notin_of nd
    · exact fits_src r (S0 ++ [e]) (by rw [List.length_append, List.length_singleton]; omega) (by rw [List.append_assoc]; exact nd) fun z hz => ok z (List.mem_cons_of_mem _ hz)
theorem fits_prt (S : List (Str × Int × Int)) : ∀ (P P0 : List (Str × Int × Int)), P0.length + P.length ≤ 8 → ((P0 ++ P).map (·.1)).Nodup → (∀ e ∈ P, Name e.1 ∧ FrOk e.2 ∧ 0 < e.2.1) → FitsFrom ⟨S, P0, []⟩ (P.map Line.prt)
  | [], _, _, _, _ => trivial
  | e :: r, P0, hl, nd, ok => by
    have q := ok e List.mem_cons_self
    rw [List.length_cons] at hl
    refine ⟨⟨rfl, q.1, q.2.1, q.2.2, by show P0.length < 8; omega, ?_⟩, ?_⟩
    · rw [List.map_append, List.map_cons] at nd
      exact notin_of nd
    · exact fits_prt S r (P0 ++ [e]) (by rw [List.length_append, List.length_singleton]; omega) (by rw [List.append_assoc]; exact nd) fun z hz => ok z (List.mem_cons_of_mem _ hz)
theorem fits_tie (S P : List (Str × Int × Int)) (hP : P.length ≤ 8) (J : List (Str × List (Str × Str × Str))) (x : Str) : ∀ (ts ts0 : List (Str × Str × Str)), ts0.length + ts.length ≤ 8 → ((ts0 ++ ts).map (·.1)).Nodup →
    (∀ t ∈ ts, t.1 ∈ P.map (·.1) ∧ Junc t.2.1 ∧ Junc t.2.2) → FitsFrom ⟨S, P, J ++ [(x, ts0)]⟩ (ts.map Line.tie)
  | [], _, _, _, _ => trivial
  | t :: r, ts0, hl, nd, ok => by
    have q := ok t List.mem_cons_self
    rw [List.length_cons] at hl
    refine ⟨⟨J, x, ts0, rfl, hP, by omega, q.1, ?_, q.2.1, q.2.2⟩, ?_⟩
    · rw [List.map_append, List.map_cons] at nd
      exact notin_of nd
    · show FitsFrom ⟨S, P, addTie t (J ++ [(x, ts0)])⟩ _
      rw [addTie_last]
      exact fits_tie S P hP J x r (ts0 ++ [t]) (by rw [List.length_append, List.length_singleton]; omega) (by rw [List.append_assoc]; exact nd) fun z hz => ok z (List.mem_cons_of_mem _ hz)
theorem fits_joi (S P : List (Str × Int × Int)) (hP : P.length ≤ 8) (hP1 : P ≠ []) : ∀ (J J0 : List (Str × List (Str × Str × Str))), J0.length + J.length ≤ 6 → ((J0 ++ J).map (·.1)).Nodup → (∀ j ∈ J, JoiOk (P.map (·.1)) j) →
    FitsFrom ⟨S, P, J0⟩ (J.flatMap fun j => Line.joi j.1 :: j.2.map Line.tie)
  | [], _, _, _, _ => trivial
  | (x, ts) :: r, J0, hl, nd, ok => by
    have q := ok (x, ts) List.mem_cons_self
    rw [List.length_cons] at hl
    rw [List.flatMap_cons]
    refine fits_app _ _ _ ⟨⟨hP1, q.name, by show J0.length < 6; omega, ?_⟩, ?_⟩ ?_
    · rw [List.map_append, List.map_cons] at nd
      exact notin_of nd
    · exact fits_tie S P hP J0 x ts [] (by have h8 : ts.length ≤ 8 := q.few; rw [List.length_nil]; omega) q.once q.tie
    · show FitsFrom ((ts.map Line.tie).foldl Own.add ⟨S, P, J0 ++ [(x, [])]⟩) _
      rw [fold_tie S P J0 x ts [], List.nil_append]
      exact fits_joi S P hP hP1 r (J0 ++ [(x, ts)]) (by rw [List.length_append, List.length_singleton]; omega) (by rw [List.append_assoc]; exact nd) fun z hz => ok z (List.mem_cons_of_mem _ hz)
theorem fits_lines {o : Own} (ok : OwnOk o) : FitsFrom emp (linesOf o) := by
  unfold linesOf emp
  refine fits_app _ _ _ (fits_src o.sources [] (by rw [List.length_nil]; have := ok.s_few; omega) ok.s_once ok.src) ?_
  rw [fold_src, List.nil_append]
  refine fits_app _ _ _ (fits_prt o.sources o.parts [] (by rw [List.length_nil]; have := ok.p_few; omega) ok.p_once ok.prt) ?_
  rw [fold_prt, List.nil_append]
  refine fits_joi o.sources o.parts ok.p_few (fun z => ?_) o.joinings [] (by rw [List.length_nil]; have := ok.j_few; omega) ok.j_once ok.joi
  have := ok.p_some
  rw [z] at this
  exact absurd this (by decide)
/-! ### words without blanks, lines without line feeds -/
theorem name_free {x : Str} (h : Name x) {s : Nat} (hs : s < 97) : s ∉ tl x := fun hm => by
  have := h.2.2.1 s hm
  omega
theorem junc_free {x : Str} (h : Junc x) {s : Nat} (hs : s < 97) : s ∉ tl x := by
  rcases h with rfl | h
  · rw [show tl ("gnd" : Str) = [103, 110, 100] by decide +kernel]
    simp
    omega
  · exact name_free h hs
theorem frac_free {f : Int × Int} {s : Nat} (h : s < 45) : s ∉ tl (fracText f) := by
  unfold fracText
  split
  · exact num_free (.inl h)
  · rw [tl_append, tl_append]
    simp only [List.mem_append, not_or]
    refine ⟨⟨num_free (.inl h), ?_⟩, num_free (.inl h)⟩
    rw [show tl ("/" : Str) = [47] by decide +kernel]
    simp
    omega
theorem word_free {o : Own} {l : Line} (h : Fits o l) (hp : ∀ e ∈ o.parts, Name e.1) {s : Nat} (hs : s < 45) : ∀ x ∈ l.words, s ∉ tl x := by
  have k : ∀ x : Str, (tl x).all (fun c => decide (97 ≤ c)) = true → s ∉ tl x := fun x hx hm => by
    have := List.all_eq_true.mp hx s hm
    have := of_decide_eq_true this
    omega
  cases l with
  | src e =>
    obtain ⟨_, h2, _⟩ := h
    intro x hx
    simp only [Line.words, List.mem_cons, List.not_mem_nil, or_false] at hx
    rcases hx with rfl | rfl | rfl
    · exact k _ (by decide +kernel)
    · exact name_free h2 (by omega)
    · exact frac_free hs
  | prt e =>
    obtain ⟨_, h2, _⟩ := h
    intro x hx
    simp only [Line.words, List.mem_cons, List.not_mem_nil, or_false] at hx
    rcases hx with rfl | rfl | rfl
    · exact k _ (by decide +kernel)
    · exact name_free h2 (by omega)
    · exact frac_free hs
  | joi y =>
    obtain ⟨_, h2, _⟩ := h
    intro x hx
    simp only [Line.words, List.mem_cons, List.not_mem_nil, or_false] at hx
    rcases hx with rfl | rfl
    · exact k _ (by decide +kernel)
    · exact name_free h2 (by omega)
  | tie t =>
    obtain ⟨_, _, _, _, _, _, h2, _, h3, h4⟩ := h
    obtain ⟨e, he, ee⟩ := List.mem_map.mp h2
    intro x hx
    simp only [Line.words, List.mem_cons, List.not_mem_nil, or_false] at hx
    rcases hx with rfl | rfl | rfl | rfl
    · exact k _ (by decide +kernel)
    · exact ee ▸ name_free (hp e he) (by omega)
    · exact junc_free h3 (by omega)
    · exact junc_free h4 (by omega)
theorem blank_tl : tl (" " : Str) = 32 :: [] := by decide +kernel
theorem feed_tl : tl ("\n" : Str) = 10 :: [] := by decide +kernel
theorem words_ne (l : Line) : l.words ≠ [] := by cases l <;> exact fun z => nomatch z
theorem line_split {o : Own} {l : Line} (h : Fits o l) (hp : ∀ e ∈ o.parts, Name e.1) : Txt.split l.text " " = l.words := by
  unfold Line.text
  exact split_join blank_tl (by decide +kernel) (words_ne l) (word_free h hp (by decide))
theorem join_mem {S : List Nat} {c : Nat} : ∀ {ps : List (List Nat)}, c ∈ joinL S ps → c ∈ S ∨ ∃ p ∈ ps, c ∈ p
  | [], h => nomatch h
  | [p], h => .inr ⟨p, List.mem_cons_self, h⟩
  | p :: q :: r, h => by
    simp only [joinL, List.mem_append] at h
    rcases h with h | h | h
    · exact .inr ⟨p, List.mem_cons_self, h⟩
    · exact .inl h
    · rcases join_mem (ps := q :: r) h with h | ⟨z, hz, hc⟩
      · exact .inl h
      · exact .inr ⟨z, List.mem_cons_of_mem _ hz, hc⟩
theorem text_free {o : Own} {l : Line} (h : Fits o l) (hp : ∀ e ∈ o.parts, Name e.1) : 10 ∉ tl l.text := by
  unfold Line.text
  rw [TL.join_eq, tl_join]
  intro hm
  rcases join_mem hm with hm | ⟨p, hp2, hm⟩
  · rw [blank_tl] at hm
    simp at hm
  · obtain ⟨x, hx, rfl⟩ := List.mem_map.mp hp2
    exact word_free h hp (by decide) x hx hm
def PartsOk (o : Own) : Prop := ∀ e ∈ o.parts, Name e.1
theorem parts_add {o : Own} {l : Line} (h : Fits o l) (hp : PartsOk o) : PartsOk (o.add l) := by
  cases l with
  | prt e =>
    intro z hz
    have hz : z ∈ o.parts ++ [e] := hz
    rcases List.mem_append.mp hz with hz | hz
    · exact hp z hz
    · rw [List.mem_singleton] at hz
      exact hz ▸ h.2.1
  | src e => exact hp
  | joi x => exact hp
  | tie t => exact hp
theorem all_free : ∀ {ls : List Line} {o : Own}, FitsFrom o ls → PartsOk o → ∀ l ∈ ls, 10 ∉ tl l.text
  | [], _, _, _, _, h => nomatch h
  | l :: r, o, ⟨h1, h2⟩, hp, z, hz => by
    rcases List.mem_cons.mp hz with rfl | hz
    · exact text_free h1 hp
    · exact all_free h2 (parts_add h1 hp) z hz
theorem rows_free {o : Own} (ok : OwnOk o) : ∀ y ∈ rowsOf o, 10 ∉ tl y := by
  rw [rows_lines]
  intro y hy
  rcases List.mem_cons.mp hy with rfl | hy
  · decide +kernel
  · obtain ⟨l, hl, rfl⟩ := List.mem_map.mp hy
    exact all_free (fits_lines ok) (fun e he => nomatch he) l hl
theorem text_split {o : Own} (ok : OwnOk o) : Txt.split (textOf o) "\n" = rowsOf o := by
  unfold textOf
  exact split_join feed_tl (by decide +kernel) (by rw [rows_lines]; exact fun z => nomatch z) (rows_free ok)
end Ct

namespace Ct
open PySem PySem.Spec PyProof.Rows L2 TL
abbrev s_read_lines : Stmt := top 37
abbrev N_read_lines : List Str := ["lines", "sources", "parts", "joinings", "number", "line"]
theorem sc_read_lines : FnScope N_read_lines ["lines"] (defScope s_read_lines) := ⟨rfl, rfl, rfl, by decide +kernel, rfl, by decide +kernel, by decide +kernel⟩
/-- all lines are taken: three lists -/
def spReadLines (K : PySem.W.Frag) : Sp := fun vs H Q _ => ∃ (a : Addr) (ls : List Line), vs = [.ref a] ∧ SqL K H a (txts (("circuit" : Str) :: ls.map Line.text)) ∧ FitsFrom emp ls ∧ ls.length ≤ 100 ∧ (∀ l ∈ ls, l.text.length ≤ 4000) ∧ (ls.foldl Own.add emp).joinings ≠ [] ∧
  ∀ (t s p j : Addr) (G' H' : Hp), Same H G' → Acc K G' H' s p j (ls.foldl Own.add emp) → H' t = some (.tup [.ref s, .ref p, .ref j]) → Q (.ref t) H'
theorem walk_from {K : PySem.W.Frag} {k : Int} {a : Addr} {xs : List V} : Walk (ItFrom K k a) xs.length (fun H => SqL K H a xs) (fun i H v H' => ∃ T x, v = .ref T ∧ H T = none ∧ H' = upd H T (.tup [.int (k + (i : Nat)), x]) ∧ xs[i]? = some x) := by
  refine ⟨fun i _ hi q => ⟨xs, xs[i], q, by simp [hi]⟩, fun _ q => ⟨xs, q, Nat.le_refl _⟩, fun i H v H' _ q y => ?_⟩
  obtain ⟨T, x, h1, h2, h3, h4⟩ := y
  exact ⟨T, x, h1, h2, h3, h4 xs q⟩
theorem sp_len1 : (" " : Str).length = 1 := by decide +kernel
theorem ws_1 : ¬ ("part" : Str) = "source" := by decide +kernel
theorem ws_2 : ¬ ("joining" : Str) = "source" := by decide +kernel
theorem ws_3 : ¬ ("tie" : Str) = "source" := by decide +kernel
theorem ws_4 : ¬ ("joining" : Str) = "part" := by decide +kernel
theorem ws_5 : ¬ ("tie" : Str) = "part" := by decide +kernel
theorem ws_6 : ¬ ("tie" : Str) = "joining" := by decide +kernel
theorem st_ne {x y : Str} (h : ¬ x = y) : decide (V.str x = V.str y) = false := decide_eq_false fun z => h (V.str.inj z)
section
variable {P : Program} {w : World} {K : PySem.W.Frag} {mg : Str → Option Value} {base : Heap}
theorem k_takes_line (D : Lies K mg "_takes_line" s_takes_line) (T : Plain mg) (G_takes_source : Keeps P w K mg base 4 "_takes_source" ["words", "sources", "parts"] (spTSrc K)) (G_takes_part : Keeps P w K mg base 4 "_takes_part" ["words", "parts", "joinings"] (spTPrt K))
    (G_takes_joining : Keeps P w K mg base 3 "_takes_joining" ["words", "parts", "joinings"] (spTJoi K)) (G_takes_tie : Keeps P w K mg base 3 "_takes_tie" ["words", "parts", "joinings"] (spTTie K)) : Keeps P w K mg base 5 "_takes_line" ["words", "sources", "parts", "joinings"] (spTLine K) := by
  refine D.keeps sc_takes_line (fun _ _ _ _ _ _ us hl => match us, hl with | [_, _, _, _], _ => rfl) (fun vs H Q E h => ?_) (fun f cdv A outer s0 H vs Q E hr h => ?_)
  · obtain ⟨a, s, p, j, G, o, x, rfl, _⟩ := h
    rfl
  · obtain ⟨a, s, p, j, G, o, l, rfl, ac, hS, hf, k⟩ := h
    have hS1 := Same.seq ac.sub hS
    refine ⟨_, (pss_cons (ps_if (PW.pt (pw_and (pt_cmpR op_eq (pe_ix ix_list (pv 0) pe_int (fun _ _ => rfl)) pe_str (nomark _)) (pw_and1 (pt_cmpR op_eq (pe_callB call_len_seq (by rfl) T.n_len b_len (pa_cons (pv 0) pa_nil)) pe_int (nomark _)))))
        (pss_one (ps_ret (pe_go G_takes_source (hr.mono (by decide)) rfl (pa_cons (pv 0) (pa_cons (pv 1) (pa_cons (pv 2) pa_nil))))))
        pss_nil)
      (pss_cons (ps_if (PW.pt (pw_and (pt_cmpR op_eq (pe_ix ix_list (pv 0) pe_int (fun _ _ => rfl)) pe_str (nomark _)) (pw_and1 (pt_cmpR op_eq (pe_callB call_len_seq (by rfl) T.n_len b_len (pa_cons (pv 0) pa_nil)) pe_int (nomark _)))))
        (pss_one (ps_ret (pe_go G_takes_part (hr.mono (by decide)) rfl (pa_cons (pv 0) (pa_cons (pv 2) (pa_cons (pv 3) pa_nil))))))
        pss_nil)
      (pss_cons (ps_if (PW.pt (pw_and (pt_cmpR op_eq (pe_ix ix_list (pv 0) pe_int (fun _ _ => rfl)) pe_str (nomark _)) (pw_and1 (pt_cmpR op_eq (pe_callB call_len_seq (by rfl) T.n_len b_len (pa_cons (pv 0) pa_nil)) pe_int (nomark _)))))
        (pss_one (ps_ret (pe_go G_takes_joining (hr.mono (by decide)) rfl (pa_cons (pv 0) (pa_cons (pv 2) (pa_cons (pv 3) pa_nil))))))
        pss_nil)
      (pss_cons (ps_if (PW.pt (pw_and (pt_cmpR op_eq (pe_ix ix_list (pv 0) pe_int (fun _ _ => rfl)) pe_str (nomark _)) (pw_and1 (pt_cmpR op_eq (pe_callB call_len_seq (by rfl) T.n_len b_len (pa_cons (pv 0) pa_nil)) pe_int (nomark _)))))
        (pss_one (ps_ret (pe_go G_takes_tie (hr.mono (by decide)) rfl (pa_cons (pv 0) (pa_cons (pv 2) (pa_cons (pv 3) pa_nil))))))
        pss_nil)
      (pss_one (ps_ret pe_bl)))))), ?_⟩
    cases l with
    | src e =>
      refine ⟨_, rfl, a, _, _, _, rfl, rfl, hS1, atI_nat (j := 0) rfl, rfl, _, rfl, if_true_of' (decide_eq_true rfl) ⟨_, rfl, a, _, rfl, .inl hS1, rfl, _, rfl, if_true_of' (decide_eq_true rfl) ?_⟩⟩
      exact ⟨_, rfl, _, rfl, _, rfl, a, s, p, j, G, o, e, rfl, ac, hS, hf, k⟩
    | prt e =>
      refine ⟨_, rfl, a, _, _, _, rfl, rfl, hS1, atI_nat (j := 0) rfl, rfl, _, rfl, pull_false (st_ne ws_1) (iteF ?_)⟩
      refine ⟨_, rfl, a, _, _, _, rfl, rfl, hS1, atI_nat (j := 0) rfl, rfl, _, rfl, if_true_of' (decide_eq_true rfl) ⟨_, rfl, a, _, rfl, .inl hS1, rfl, _, rfl, if_true_of' (decide_eq_true rfl) ?_⟩⟩
      exact ⟨_, rfl, _, rfl, _, rfl, a, s, p, j, G, o, e, rfl, ac, hS, hf, k⟩
    | joi x =>
      refine ⟨_, rfl, a, _, _, _, rfl, rfl, hS1, atI_nat (j := 0) rfl, rfl, _, rfl, pull_false (st_ne ws_2) (iteF ?_)⟩
      refine ⟨_, rfl, a, _, _, _, rfl, rfl, hS1, atI_nat (j := 0) rfl, rfl, _, rfl, pull_false (st_ne ws_4) (iteF ?_)⟩
      refine ⟨_, rfl, a, _, _, _, rfl, rfl, hS1, atI_nat (j := 0) rfl, rfl, _, rfl, if_true_of' (decide_eq_true rfl) ⟨_, rfl, a, _, rfl, .inl hS1, rfl, _, rfl, if_true_of' (decide_eq_true rfl) ?_⟩⟩
      exact ⟨_, rfl, _, rfl, _, rfl, a, s, p, j, G, o, x, rfl, ac, hS, hf, k⟩
    | tie t =>
      refine ⟨_, rfl, a, _, _, _, rfl, rfl, hS1, atI_nat (j := 0) rfl, rfl, _, rfl, pull_false (st_ne ws_3) (iteF ?_)⟩
      refine ⟨_, rfl, a, _, _, _, rfl, rfl, hS1, atI_nat (j := 0) rfl, rfl, _, rfl, pull_false (st_ne ws_5) (iteF ?_)⟩
      refine ⟨_, rfl, a, _, _, _, rfl, rfl, hS1, atI_nat (j := 0) rfl, rfl, _, rfl, pull_false (st_ne ws_6) (iteF ?_)⟩
      refine ⟨_, rfl, a, _, _, _, rfl, rfl, hS1, atI_nat (j := 0) rfl, rfl, _, rfl, if_true_of' (decide_eq_true rfl) ⟨_, rfl, a, _, rfl, .inl hS1, rfl, _, rfl, if_true_of' (decide_eq_true rfl) ?_⟩⟩
      exact ⟨_, rfl, _, rfl, _, rfl, a, s, p, j, G, o, t, rfl, ac, hS, hf, k⟩
theorem fits_at : ∀ {ls : List Line} {o : Own} {i : Nat} {l : Line}, FitsFrom o ls → PartsOk o → ls[i]? = some l → Fits ((ls.take i).foldl Own.add o) l ∧ PartsOk ((ls.take i).foldl Own.add o)
  | [], _, _, _, _, _, h => by simp at h
  | x :: r, o, 0, l, ⟨h1, _⟩, hp, h => by
    simp at h
    subst h
    exact ⟨h1, hp⟩
  | x :: r, o, i + 1, l, ⟨h1, h2⟩, hp, h => by
    show Fits ((r.take i).foldl Own.add (o.add x)) l ∧ PartsOk ((r.take i).foldl Own.add (o.add x))
    exact fits_at h2 (parts_add h1 hp) (by simpa using h)
theorem k_read_lines (D : Lies K mg "_read_lines" s_read_lines) (T : Plain mg) (G_takes_line : Keeps P w K mg base 5 "_takes_line" ["words", "sources", "parts", "joinings"] (spTLine K)) : Keeps P w K mg base 6 "_read_lines" ["lines"] (spReadLines K) := by
  refine D.keeps sc_read_lines (fun _ _ _ _ _ _ us hl => match us, hl with | [_], _ => rfl) (fun vs H Q E h => ?_) (fun f cdv A outer s0 H vs Q E hr h => ?_)
  · obtain ⟨a, ls, rfl, _⟩ := h
    rfl
  · obtain ⟨a, ls, rfl, hS, hf, hn, hsh, hj, k⟩ := h
    refine ⟨_, (pss_cons (ps_par3 (i := 1) (j := 2) (l := 3) (by rfl) sc_read_lines.nd rfl rfl rfl (by decide) (by decide) (by decide) rfl rfl rfl (pa_cons (pe_lst pa_nil) (pa_cons (pe_lst pa_nil) (pa_cons (pe_lst pa_nil) pa_nil))) (by rfl))
      (pss_cons (ps_if (pt_cmpR op_ne (pe_ix ix_list (pv 0) pe_int (fun _ _ => rfl)) pe_str (nomark _))
        (pss_one (ps_never))
        pss_nil)
      (pss_cons (ps_for PassesOwn.never rfl (pi_from rfl T.n_enumerate (by decide) (by decide) (pa_cons (pe_slice sl_list (pv 0) (po_some pe_int) po_none) pa_nil)) (pg_tup rfl (pgs_cons (pg_name (i := 4) sc_read_lines.nd rfl (Or.inl rfl)) (pgs_cons (pg_name (i := 5) sc_read_lines.nd rfl (Or.inl rfl)) pgs_nil)))
        (pss_one (ps_if (pt_not (pt_val (pe_go G_takes_line (hr.mono (by decide)) rfl (pa_cons (pe_split (pv 5) pe_str) (pa_cons (pv 1) (pa_cons (pv 2) (pa_cons (pv 3) pa_nil)))))))
          (pss_one (ps_never))
          pss_nil)))
      (pss_cons (ps_if (pt_not (pt_truth (pv 3) (by intro _; rfl)))
        (pss_one (ps_never))
        pss_nil)
      (pss_one (ps_ret (pe_tup (pa_cons (pv 1) (pa_cons (pv 2) (pa_cons (pv 3) pa_nil)))))))))), ?_⟩
    refine ⟨Nat.zero_le _, fun s ns => ⟨Nat.zero_le _, fun p np => ⟨Nat.zero_le _, fun j nj => ⟨_, _, _, rfl, ?_⟩⟩⟩⟩
    have sp : s ≠ p := ne_of_none upd_same np
    have pj : p ≠ j := ne_of_none upd_same nj
    have sj : s ≠ j := ne_of_none ((upd_ne sp).trans upd_same) nj
    have h1 : Same H (upd (upd (upd H s (.lst [])) p (.lst [])) j (.lst [])) := (same_upd ns).trans ((same_upd np).trans (same_upd nj))
    have hp : H p = none := by rw [upd_ne sp.symm] at np; exact np
    have hj0 : H j = none := by rw [upd_ne pj.symm, upd_ne sj.symm] at nj; exact nj
    have ac : Acc K H (upd (upd (upd H s (.lst [])) p (.lst [])) j (.lst [])) s p j emp :=
      ⟨h1, ns, hp, hj0, sp, sj, pj, ⟨[], by rw [upd_ne sj, upd_ne sp]; exact upd_same, .nil⟩, ⟨[], by rw [upd_ne pj]; exact upd_same, .nil⟩, ⟨[], upd_same, .nil⟩⟩
    generalize upd (upd (upd H s (.lst [])) p (.lst [])) j (.lst []) = H1 at *
    refine ⟨_, rfl, a, _, _, _, rfl, rfl, Same.seq h1 hS, atI_nat (j := 0) rfl, rfl, _, rfl, pull_false (by rw [decide_eq_true rfl]; rfl) ?_⟩
    refine ⟨_, rfl, (1 : Int), rfl, a, _, rfl, Same.seq h1 hS, fun q nq => ⟨q, _, rfl, SqL.of upd_same, ?_⟩⟩
    have ecut : cutV (txts (("circuit" : Str) :: ls.map Line.text)) (some 1) none = txts (ls.map Line.text) := by
      unfold cutV txts
      rw [List.map_cons]
      have e1 : HT.sIx ((V.str "circuit") :: (ls.map Line.text).map V.str).length 0 (some 1) = 1 := by
        show min 1 (((ls.map Line.text).map V.str).length + 1) = 1
        omega
      rw [e1]
      show ((ls.map Line.text).map V.str).take _ = _
      refine List.take_of_length_le ?_
      show _ ≤ ((ls.map Line.text).map V.str).length + 1 - 1
      omega
    rw [ecut]
    obtain ⟨ac1, sg1⟩ := ac.fixL (t := q) (xs := txts (ls.map Line.text)) nq
    refine for_it (walk_from (xs := txts (ls.map Line.text))) (fun i σ H' => ∃ (v4 v5 : Option V) (Gi : Hp), σ = [some (.ref a), some (.ref s), some (.ref p), some (.ref j), v4, v5] ∧ Same (upd H q (.lst (txts (ls.map Line.text)))) Gi ∧ Acc K Gi H' s p j ((ls.take i).foldl Own.add emp))
      ⟨none, none, _, rfl, Same.refl _, ac1⟩ (fun i σ H' _ ⟨_, _, Gi, _, sg, aci⟩ => SqL.of (aci.sub _ _ (sg _ _ upd_same))) ?_ ?_
    · rintro i x σ H2 H3 hi ⟨v4, v5, Gi, rfl, sg, aci⟩ ⟨t, y, rfl, nt, rfl, hy⟩
      obtain ⟨l, hl, rfl⟩ : ∃ l, ls[i]? = some l ∧ y = V.str l.text := by
        unfold txts at hy
        rw [List.map_map, List.getElem?_map] at hy
        cases e : ls[i]? with
        | none => rw [e] at hy; cases hy
        | some l => rw [e] at hy; exact ⟨l, rfl, (Option.some.inj hy).symm⟩
      obtain ⟨hfit, hpo⟩ := fits_at hf (fun e he => nomatch he) hl
      have aci2 := aci.more (same_upd (o := .tup [.int (2 + (i : Nat)), V.str l.text]) nt)
      refine ⟨t, _, rfl, SqT.of upd_same, rfl, _, _, rfl, _, _, rfl, ⟨rfl, ?_⟩⟩
      refine ⟨_, rfl, ⟨_, rfl⟩, _, _, rfl, rfl, by rw [sp_len1]; rfl, ?_, fun b nb => ?_⟩
      · have := hsh l (List.mem_of_getElem? hl)
        show l.text.length + 2 ≤ 16777216
        omega
      rw [line_split hfit hpo]
      obtain ⟨ac3, sg3⟩ := aci2.fixL (t := b) (xs := txts l.words) nb
      refine ⟨_, rfl, _, rfl, _, rfl, b, s, p, j, _, _, l, rfl, ac3, SqL.of upd_same, hfit, fun G' H' s4 ac4 => ⟨true, rfl, iteF ?_⟩⟩
      refine ⟨_, _, G', rfl, sg.trans (sg3.trans s4), ?_⟩
      rw [take_snoc hl, List.foldl_append]
      exact ac4
    · rintro σ H2 ⟨v4, v5, Gi, rfl, sg, aci⟩
      have e1 : (ls.take (txts (ls.map Line.text)).length) = ls := by
        unfold txts
        rw [List.length_map, List.length_map, List.take_length]
      rw [e1] at aci
      obtain ⟨v3, h3, r3⟩ := aci.joi
      have e2 : (!v3.isEmpty) = true := by
        have l := r3.len
        cases v3 with
        | nil => exact absurd (List.eq_nil_of_length_eq_zero l.symm) hj
        | cons _ _ => rfl
      refine ⟨_, rfl, true, .inl ⟨_, SqL.of h3, e2.symm⟩, iteF ?_⟩
      refine ⟨_, rfl, _, rfl, _, rfl, by show 3 ≤ sizeLine; decide, fun t nt => ?_⟩
      exact k t s p j Gi _ ((same_upd (by cases e : H q with | none => rfl | some z => rw [h1 _ _ e] at nq; cases nq)).trans sg) (aci.more (same_upd nt)) upd_same
end
end Ct

namespace Ct
open PySem PySem.Spec PyProof.Rows L2 TL
abbrev s_l_pot : Stmt := top 46
abbrev N_l_pot : List Str := ["script", "place", "cell", "own", "small"]
theorem sc_l_pot : FnScope N_l_pot ["script", "place"] (defScope s_l_pot) := ⟨rfl, rfl, rfl, by decide +kernel, rfl, by decide +kernel, by decide +kernel⟩
abbrev s_l_cells : Stmt := top 50
abbrev N_l_cells : List Str := ["script", "most"]
theorem sc_l_cells : FnScope N_l_cells ["script", "most"] (defScope s_l_cells) := ⟨rfl, rfl, rfl, by decide +kernel, rfl, by decide +kernel, by decide +kernel⟩
abbrev s_l_frac_common : Stmt := top 51
abbrev N_l_frac_common : List Str := ["one", "other"]
theorem sc_l_frac_common : FnScope N_l_frac_common ["one", "other"] (defScope s_l_frac_common) := ⟨rfl, rfl, rfl, by decide +kernel, rfl, by decide +kernel, by decide +kernel⟩
abbrev s_l_frac : Stmt := top 52
abbrev N_l_frac : List Str := ["top", "bottom", "by"]
theorem sc_l_frac : FnScope N_l_frac ["top", "bottom"] (defScope s_l_frac) := ⟨rfl, rfl, rfl, by decide +kernel, rfl, by decide +kernel, by decide +kernel⟩
abbrev s_l_frac_text : Stmt := top 53
abbrev N_l_frac_text : List Str := ["one"]
theorem sc_l_frac_text : FnScope N_l_frac_text ["one"] (defScope s_l_frac_text) := ⟨rfl, rfl, rfl, by decide +kernel, rfl, by decide +kernel, by decide +kernel⟩
abbrev s_l_frac_drawn : Stmt := top 54
abbrev N_l_frac_drawn : List Str := ["pot", "low", "high", "bottom"]
theorem sc_l_frac_drawn : FnScope N_l_frac_drawn ["pot", "low", "high"] (defScope s_l_frac_drawn) := ⟨rfl, rfl, rfl, by decide +kernel, rfl, by decide +kernel, by decide +kernel⟩
abbrev s_l_frac_size : Stmt := top 55
abbrev N_l_frac_size : List Str := ["pot"]
theorem sc_l_frac_size : FnScope N_l_frac_size ["pot"] (defScope s_l_frac_size) := ⟨rfl, rfl, rfl, by decide +kernel, rfl, by decide +kernel, by decide +kernel⟩
/-! ### the numbers -/
def ratio (a b : Int) : Int × Int := (a / (Int.gcd a b : Int), b / (Int.gcd a b : Int))


def spCommon : Sp := fun vs H Q _ => ∃ x y : Int, vs = [.int x, .int y] ∧ Q (.int (Int.gcd x y)) H
def spFrac : Sp := fun vs H Q _ => ∃ a b : Int, vs = [.int a, .int b] ∧ 0 < b ∧ b < 1000000 ∧ ∀ t, H t = none → Q (.ref t) (upd H t (.tup [.int (ratio a b).1, .int (ratio a b).2]))
def spFracText (K : PySem.W.Frag) : Sp := fun vs H Q _ => ∃ (t : Addr) (f : Int × Int), vs = [.ref t] ∧ SqT K H t [.int f.1, .int f.2] ∧ f.1.natAbs < 2 ^ 1000 ∧ f.2.natAbs < 2 ^ 1000 ∧ Q (.str (fracText f)) H
/-- a drawn fraction between low and high -/
def drawn (low high : Int) (f : Int × Int) : Prop := ∃ b d : Int, (b = 1 ∨ b = 2 ∨ b = 3 ∨ b = 5) ∧ 0 ≤ d ∧ d ≤ (high - low) * b ∧ f = ratio (low * b + d) b
def spFracDrawn : Sp := fun vs H Q _ => ∃ (p : Addr) (G : Hp) (n : Nat) (low high : Int), vs = [.ref p, .int low, .int high] ∧ Beside p G H ∧ PotAt p H n ∧ n + 2 ≤ 1000000 ∧ -1000 ≤ low ∧ low ≤ high ∧ high ≤ 1000 ∧
  ∀ (f : Int × Int) (t : Addr) (G' H' : Hp), drawn low high f → Same G G' → Beside p G' H' → PotAt p H' (n + 2) → G' t = some (.tup [.int f.1, .int f.2]) → Q (.ref t) H'
theorem gcd_step (a b : Int) (ha : 0 ≤ a) (hb : 0 < b) : Int.gcd b (a % b) = Int.gcd a b := by
  rw [Int.gcd_comm a b]
  obtain ⟨x, rfl⟩ := Int.eq_ofNat_of_zero_le ha
  obtain ⟨y, rfl⟩ := Int.eq_ofNat_of_zero_le (Int.le_of_lt hb)
  show Nat.gcd y (((x : Int) % (y : Int)).natAbs) = Nat.gcd y x
  rw [← Int.natCast_emod, Int.natAbs_natCast, Nat.gcd_comm y, ← Nat.gcd_rec y x]
theorem gcd_abs (a b : Int) : Int.gcd (if a < 0 then -a else a) (if b < 0 then -b else b) = Int.gcd a b := by
  by_cases h : a < 0 <;> by_cases g : b < 0 <;> simp [h, g]
section
variable {P : Program} {w : World} {K : PySem.W.Frag} {mg : Str → Option Value} {base : Heap}
theorem k_common (D : Lies K mg "_law_frac_common" s_l_frac_common) (T : Plain mg) : Keeps P w K mg base 1 "_law_frac_common" ["one", "other"] spCommon := by
  refine D.keeps sc_l_frac_common (fun _ _ _ _ _ _ us hl => match us, hl with | [_, _], _ => rfl) (fun vs H Q E h => ?_) (fun f cdv A outer s H vs Q E hr h => ?_)
  · obtain ⟨x, y, rfl, _⟩ := h
    rfl
  · obtain ⟨x, y, rfl, k⟩ := h
    refine ⟨_, (pss_cons (ps_par (i := 0) (j := 1) (by rfl) sc_l_frac_common.nd rfl rfl (by decide) rfl rfl (pa_cons (pe_callB call_abs (by rfl) T.n_abs b_abs (pa_cons (pv 0) pa_nil)) (pa_cons (pe_callB call_abs (by rfl) T.n_abs b_abs (pa_cons (pv 1) pa_nil)) pa_nil)) (by rfl))
      (pss_cons (ps_while PassesOwn.never (pt_cmpR op_gt (pv 1) pe_int (nomark _))
        (pss_one (ps_par (i := 0) (j := 1) (by rfl) sc_l_frac_common.nd rfl rfl (by decide) rfl rfl (pa_cons (pv 1) (pa_cons (pe_op op_mod (pe_callTy call_int1 (by rfl) T.n_int b_int (pa_cons (pv 0) pa_nil)) (pv 1)) pa_nil)) (by rfl))))
      (pss_one (ps_ret (pv 0))))), ?_⟩
    refine ⟨_, rfl, _, rfl, _, rfl, _, rfl, _, _, rfl, while_by (fun σ H' => ∃ a b : Int, σ = [some (.int a), some (.int b)] ∧ H' = H ∧ 0 ≤ a ∧ 0 ≤ b ∧ Int.gcd a b = Int.gcd x y) (fun σ _ => match σ with | [_, some (.int b)] => b.toNat | _ => 0) ⟨_, _, rfl, rfl, by split <;> omega, by split <;> omega, gcd_abs x y⟩ ?_ ?_⟩
    · rintro σ H1 ⟨a, b, rfl, rfl, ha, hb, e⟩
      refine ⟨_, rfl, _, _, rfl, rfl, _, rfl, ?_⟩
      refine ite2 (fun h0 => ?_) (fun h0 => ?_)
      · have b0 : 0 < b := of_decide_eq_true h0
        refine ⟨_, rfl, _, rfl, .inl ⟨_, rfl, _, rfl, _, _, rfl, rfl, b0, _, _, rfl, ⟨_, _, rfl, rfl, hb, Int.emod_nonneg _ (by omega), (gcd_step a b ha b0).trans e⟩, ?_⟩⟩
        have := Int.emod_lt_of_pos a b0
        have := Int.emod_nonneg a (show b ≠ 0 by omega)
        show (a % b).toNat < b.toNat
        omega
      · have b0 : b = 0 := by
          have : ¬ 0 < b := fun z => h0 (decide_eq_true z)
          omega
        subst b0
        have ea : (Int.gcd x y : Int) = a := by rw [← e, Int.gcd_zero_right]; omega
        rw [ea] at k
        exact ⟨_, rfl, k⟩
    · exact fun σ H' Q1 Q2 m h => by
        obtain ⟨v, h1, i, j, h2, h3, c, h4, q⟩ := h
        exact ⟨v, h1, i, j, h2, h3, c, h4, m _ _ q⟩
theorem k_frac (D : Lies K mg "_law_frac" s_l_frac) (T : Plain mg) (G_l_frac_common : Keeps P w K mg base 1 "_law_frac_common" ["one", "other"] spCommon) : Keeps P w K mg base 2 "_law_frac" ["top", "bottom"] spFrac := by
  refine D.keeps sc_l_frac (fun _ _ _ _ _ _ us hl => match us, hl with | [_, _], _ => rfl) (fun vs H Q E h => ?_) (fun f cdv A outer s H vs Q E hr h => ?_)
  · obtain ⟨x, y, rfl, _⟩ := h
    rfl
  · obtain ⟨a, b, rfl, b0, b1, k⟩ := h
    have g0 : 0 < (Int.gcd a b : Int) := by have := Int.gcd_pos_of_ne_zero_right a (show b ≠ 0 by omega); omega
    have g1 : (Int.gcd a b : Int) ≤ b := Int.le_of_dvd b0 (Int.gcd_dvd_right a b)
    refine ⟨_, (pss_cons (ps_set (i := 2) sc_l_frac.nd rfl (Or.inl rfl) (pe_go G_l_frac_common (hr.mono (by decide)) rfl (pa_cons (pv 0) (pa_cons (pv 1) pa_nil))))
      (pss_cons (ps_set (i := 2) sc_l_frac.nd rfl (Or.inl rfl) (pe_ifExp (pt_cmpR op_gt (pv 1) pe_int (nomark _)) (pv 2) (pe_un un_neg (pv 2))))
      (pss_one (ps_ret (pe_tup (pa_cons (pe_op op_fdiv (pv 0) (pv 2)) (pa_cons (pe_op op_fdiv (pv 1) (pv 2)) pa_nil))))))), ?_⟩
    refine ⟨_, rfl, _, rfl, a, b, rfl, _, rfl, _, _, rfl, rfl, _, rfl, ?_⟩
    refine if_true_of' (decide_eq_true b0) ⟨_, rfl, _, rfl, _, rfl, _, _, rfl, rfl, ⟨g0, by omega⟩, _, rfl, _, rfl, _, _, rfl, rfl, ⟨g0, by omega⟩, by show 2 ≤ sizeLine; decide, fun t ht => k t ht⟩
theorem k_frac_text (D : Lies K mg "_law_frac_text" s_l_frac_text) (T : Plain mg) : Keeps P w K mg base 1 "_law_frac_text" ["one"] (spFracText K) := by
  refine D.keeps sc_l_frac_text (fun _ _ _ _ _ _ us hl => match us, hl with | [_], _ => rfl) (fun vs H Q E h => ?_) (fun f cdv A outer s H vs Q E hr h => ?_)
  · obtain ⟨t, f, rfl, _⟩ := h
    rfl
  · obtain ⟨t, ⟨a, b⟩, rfl, ht, ha, hb, k⟩ := h
    have la : a.natAbs.log2 < 1920 := log_of ha
    have lb : b.natAbs.log2 < 1920 := log_of hb
    refine ⟨_, (pss_one (ps_ret (pe_ifExp (pt_cmpR op_eq (pe_ix ix_tup (pv 0) pe_int (fun _ _ => rfl)) pe_int (nomark _)) (pe_callTy call_str_int (by rfl) T.n_str b_str (pa_cons (pe_callTy call_int1 (by rfl) T.n_int b_int (pa_cons (pe_ix ix_tup (pv 0) pe_int (fun _ _ => rfl)) pa_nil)) pa_nil)) (pe_op op_add_str (pe_op op_add_str (pe_callTy call_str_int (by rfl) T.n_str b_str (pa_cons (pe_callTy call_int1 (by rfl) T.n_int b_int (pa_cons (pe_ix ix_tup (pv 0) pe_int (fun _ _ => rfl)) pa_nil)) pa_nil)) pe_str) (pe_callTy call_str_int (by rfl) T.n_str b_str (pa_cons (pe_callTy call_int1 (by rfl) T.n_int b_int (pa_cons (pe_ix ix_tup (pv 0) pe_int (fun _ _ => rfl)) pa_nil)) pa_nil)))))), ?_⟩
    refine ⟨_, rfl, t, _, _, _, rfl, rfl, ht, rfl, rfl, _, rfl, ?_⟩
    refine ite2 (fun h0 => ?_) (fun h0 => ?_)
    · have e : b = 1 := V.int.inj (of_decide_eq_true h0)
      refine ⟨_, rfl, t, _, _, _, rfl, rfl, ht, rfl, .inl ⟨_, rfl, _, rfl, la, ?_⟩⟩
      rw [show fracText (a, b) = numText a by unfold fracText; rw [if_pos e]] at k
      exact k
    · have e : ¬ b = 1 := fun z => h0 (decide_eq_true (by rw [z]))
      have na : (numText a).length ≤ 1921 := int_text_len_1921 la
      have nb : (numText b).length ≤ 1921 := int_text_len_1921 lb
      have ns : ("/" : Str).length = 1 := by decide +kernel
      rw [show fracText (a, b) = numText a ++ "/" ++ numText b by unfold fracText; rw [if_neg e]] at k
      refine ⟨_, rfl, t, _, _, _, rfl, rfl, ht, rfl, .inl ⟨_, rfl, _, rfl, la, _, _, rfl, rfl, ?_, _, rfl, t, _, _, _, rfl, rfl, ht, rfl, .inl ⟨_, rfl, _, rfl, lb, _, _, rfl, rfl, ?_, k⟩⟩⟩
      · show (numText a).length + ("/" : Str).length ≤ 16777216
        omega
      · show (numText a ++ "/").length + (numText b).length ≤ 16777216
        rw [len_app]
        omega
end
end Ct

namespace Ct
open PySem PySem.Spec PyProof.Rows L2 TL
/-- the pot is made -/
def spPot (K : PySem.W.Frag) : Sp := fun vs H Q _ => ∃ (a : Addr) (ns : List Int) (j : Nat), vs = [.ref a, .int j] ∧ SqL K H a (ns.map V.int) ∧ j ≤ 10 ∧
  ∀ (p : Addr) (H' : Hp), H p = none → Beside p H H' → PotAt p H' 0 → Q (.ref p) H'
def spCells (K : PySem.W.Frag) : Sp := fun vs H Q _ => ∃ (a : Addr) (xs : List V) (m : Int), vs = [.ref a, .int m] ∧ SqL K H a xs ∧ 1 ≤ m ∧ m ≤ 3 ∧
  ∀ (c : Nat) (q : Addr), 1 ≤ c → c ≤ 3 → H q = none → Q (.ref q) (upd H q (.lst ((List.range c).map fun i => V.int (i : Nat))))
/-- one of the sizes -/
def spFracSize : Sp := fun vs H Q _ => ∃ (p : Addr) (G : Hp) (n : Nat), vs = [.ref p] ∧ Beside p G H ∧ PotAt p H n ∧ n + 1 ≤ 1000000 ∧
  ∀ (f : Int × Int) (t : Addr) (G' H' : Hp), f ∈ ([(1, 1), (2, 1), (1, 2), (3, 2), (2, 3), (3, 1), (1, 3), (5, 3), (4, 5)] : List (Int × Int)) → Same G G' → Beside p G' H' → PotAt p H' (n + 1) → G' t = some (.tup [.int f.1, .int f.2]) → Q (.ref t) H'
theorem bit_in (b : Bool) : (-(2 : Int) ^ 64 < if b = true then 1 else 0) ∧ (if b = true then (1 : Int) else 0) < 2 ^ 64 := by cases b <;> decide
theorem bit_nn (b : Bool) : (0 : Int) ≤ if b = true then 1 else 0 := by cases b <;> decide
section
variable {P : Program} {w : World} {K : PySem.W.Frag} {mg : Str → Option Value} {base : Heap}
theorem k_frac_drawn (D : Lies K mg "_law_frac_drawn" s_l_frac_drawn) (T : Plain mg) (G_l_take : Keeps P w K mg base 1 "_law_take" ["pot", "upto"] spTake) (G_l_of : Keeps P w K mg base 2 "_law_of" ["pot", "some"] (spOf K))
    (G_l_frac : Keeps P w K mg base 2 "_law_frac" ["top", "bottom"] spFrac) : Keeps P w K mg base 3 "_law_frac_drawn" ["pot", "low", "high"] spFracDrawn := by
  refine D.keeps sc_l_frac_drawn (fun _ _ _ _ _ _ us hl => match us, hl with | [_, _, _], _ => rfl) (fun vs H Q E h => ?_) (fun f cdv A outer s H vs Q E hr h => ?_)
  · obtain ⟨p, G, n, low, high, rfl, _⟩ := h
    rfl
  · obtain ⟨p, G, n, low, high, rfl, bs, ht, hn, hl, hh, hu, k⟩ := h
    refine ⟨_, (pss_cons (ps_set (i := 3) sc_l_frac_drawn.nd rfl (Or.inl rfl) (pe_go G_l_of (hr.mono (by decide)) rfl (pa_cons (pv 0) (pa_cons (pe_lst (pa_cons pe_int (pa_cons pe_int (pa_cons pe_int (pa_cons pe_int (pa_cons pe_int (pa_cons pe_int pa_nil))))))) pa_nil))))
      (pss_one (ps_ret (pe_go G_l_frac (hr.mono (by decide)) rfl (pa_cons (pe_op op_add (pe_op op_mul (pv 1) (pv 3)) (pe_go G_l_take (hr.mono (by decide)) rfl (pa_cons (pv 0) (pa_cons (pe_op op_add (pe_op op_mul (pe_op op_sub (pv 2) (pv 1)) (pv 3)) pe_int) pa_nil)))) (pa_cons (pv 3) pa_nil)))))), ?_⟩
    refine ⟨_, rfl, by show 6 ≤ sizeLine; decide, fun l hl0 => ?_⟩
    obtain ⟨b1, s1, g1⟩ := bs.new (o := .lst [.int 1, .int 1, .int 1, .int 2, .int 3, .int 5]) ht.some hl0
    refine ⟨p, l, _, n, _, rfl, b1, ht.new hl0, by omega, SqL.of upd_same, by decide, by decide, fun i v G2 H2 hv s2 b2 t2 => ?_⟩
    obtain ⟨b, rfl, hb⟩ : ∃ b : Int, v = .int b ∧ (b = 1 ∨ b = 2 ∨ b = 3 ∨ b = 5) := by
      have hi : i < 6 := (List.getElem?_eq_some_iff.mp hv).1
      match i, hi, hv with
      | 0, _, e => exact ⟨1, (Option.some.inj e).symm, .inl rfl⟩
      | 1, _, e => exact ⟨1, (Option.some.inj e).symm, .inl rfl⟩
      | 2, _, e => exact ⟨1, (Option.some.inj e).symm, .inl rfl⟩
      | 3, _, e => exact ⟨2, (Option.some.inj e).symm, .inr (.inl rfl)⟩
      | 4, _, e => exact ⟨3, (Option.some.inj e).symm, .inr (.inr (.inl rfl))⟩
      | 5, _, e => exact ⟨5, (Option.some.inj e).symm, .inr (.inr (.inr rfl))⟩
    have hm : 0 ≤ (high - low) * b ∧ (high - low) * b ≤ 10000 := by rcases hb with rfl | rfl | rfl | rfl <;> omega
    have hb0 : 0 < b ∧ b < 10 := by omega
    refine ⟨_, rfl, _, rfl, _, _, rfl, rfl, .inl (by omega), _, rfl, _, rfl, _, rfl, _, _, rfl, rfl, _, rfl, _, _, rfl, rfl, .inl (by omega), _, _, rfl, rfl, ?_⟩
    refine ⟨p, G2, n + 1, _, rfl, b2, t2, by omega, by omega, by omega, fun d G3 H3 d0 d1 s3 b3 t3 => ?_⟩
    refine ⟨_, _, rfl, rfl, _, rfl, _, _, rfl, by omega, by omega, fun t ht0 => ?_⟩
    obtain ⟨b4, s4, g4⟩ := b3.new (o := .tup [.int (ratio (low * b + d) b).1, .int (ratio (low * b + d) b).2]) t3.some ht0
    exact k _ t _ _ ⟨b, d, hb, d0, by omega, rfl⟩ (s1.trans (s2.trans (s3.trans s4))) b4 (t3.new ht0) upd_same
theorem k_frac_size (D : Lies K mg "_law_frac_size" s_l_frac_size) (T : Plain mg) (G_l_of : Keeps P w K mg base 2 "_law_of" ["pot", "some"] (spOf K)) : Keeps P w K mg base 3 "_law_frac_size" ["pot"] spFracSize := by
  refine D.keeps sc_l_frac_size (fun _ _ _ _ _ _ us hl => match us, hl with | [_], _ => rfl) (fun vs H Q E h => ?_) (fun f cdv A outer s H vs Q E hr h => ?_)
  · obtain ⟨p, G, n, rfl, _⟩ := h
    rfl
  · obtain ⟨p, G, n, rfl, bs, ht, hn, k⟩ := h
    refine ⟨_, (pss_one (ps_ret (pe_go G_l_of (hr.mono (by decide)) rfl (pa_cons (pv 0) (pa_cons (pe_lst (pa_cons (pe_tup (pa_cons pe_int (pa_cons pe_int pa_nil))) (pa_cons (pe_tup (pa_cons pe_int (pa_cons pe_int pa_nil))) (pa_cons (pe_tup (pa_cons pe_int (pa_cons pe_int pa_nil))) (pa_cons (pe_tup (pa_cons pe_int (pa_cons pe_int pa_nil))) (pa_cons (pe_tup (pa_cons pe_int (pa_cons pe_int pa_nil))) (pa_cons (pe_tup (pa_cons pe_int (pa_cons pe_int pa_nil))) (pa_cons (pe_tup (pa_cons pe_int (pa_cons pe_int pa_nil))) (pa_cons (pe_tup (pa_cons pe_int (pa_cons pe_int pa_nil))) (pa_cons (pe_tup (pa_cons pe_int (pa_cons pe_int pa_nil))) pa_nil)))))))))) pa_nil))))), ?_⟩
    refine ⟨_, rfl, ?_⟩
    refine ⟨by show 2 ≤ sizeLine; decide, fun t1 n1 => ⟨by show 2 ≤ sizeLine; decide, fun t2 n2 => ⟨by show 2 ≤ sizeLine; decide, fun t3 n3 => ⟨by show 2 ≤ sizeLine; decide, fun t4 n4 => ⟨by show 2 ≤ sizeLine; decide, fun t5 n5 =>
      ⟨by show 2 ≤ sizeLine; decide, fun t6 n6 => ⟨by show 2 ≤ sizeLine; decide, fun t7 n7 => ⟨by show 2 ≤ sizeLine; decide, fun t8 n8 => ⟨by show 2 ≤ sizeLine; decide, fun t9 n9 => ⟨by show 9 ≤ sizeLine; decide, fun l nl => ?_⟩⟩⟩⟩⟩⟩⟩⟩⟩⟩
    obtain ⟨b1, s1, _⟩ := bs.new (o := .tup [.int 1, .int 1]) ht.some n1
    obtain ⟨b2, s2, _⟩ := b1.new (o := .tup [.int 2, .int 1]) (ht.new n1).some n2
    obtain ⟨b3, s3, _⟩ := b2.new (o := .tup [.int 1, .int 2]) ((ht.new n1).new n2).some n3
    obtain ⟨b4, s4, _⟩ := b3.new (o := .tup [.int 3, .int 2]) (((ht.new n1).new n2).new n3).some n4
    obtain ⟨b5, s5, _⟩ := b4.new (o := .tup [.int 2, .int 3]) ((((ht.new n1).new n2).new n3).new n4).some n5
    obtain ⟨b6, s6, _⟩ := b5.new (o := .tup [.int 3, .int 1]) (((((ht.new n1).new n2).new n3).new n4).new n5).some n6
    obtain ⟨b7, s7, _⟩ := b6.new (o := .tup [.int 1, .int 3]) ((((((ht.new n1).new n2).new n3).new n4).new n5).new n6).some n7
    obtain ⟨b8, s8, _⟩ := b7.new (o := .tup [.int 5, .int 3]) (((((((ht.new n1).new n2).new n3).new n4).new n5).new n6).new n7).some n8
    obtain ⟨b9, s9, _⟩ := b8.new (o := .tup [.int 4, .int 5]) ((((((((ht.new n1).new n2).new n3).new n4).new n5).new n6).new n7).new n8).some n9
    have ht9 := (((((((((ht.new (o := .tup [.int 1, .int 1]) n1).new (o := .tup [.int 2, .int 1]) n2).new (o := .tup [.int 1, .int 2]) n3).new (o := .tup [.int 3, .int 2]) n4).new (o := .tup [.int 2, .int 3]) n5).new (o := .tup [.int 3, .int 1]) n6).new (o := .tup [.int 1, .int 3]) n7).new (o := .tup [.int 5, .int 3]) n8).new (o := .tup [.int 4, .int 5]) n9)
    obtain ⟨b10, s10, _⟩ := b9.new (o := .lst [.ref t1, .ref t2, .ref t3, .ref t4, .ref t5, .ref t6, .ref t7, .ref t8, .ref t9]) ht9.some nl
    refine ⟨p, l, _, n, _, rfl, b10, ht9.new nl, hn, SqL.of upd_same, by show 0 < 9; decide, by show 9 < 1000000; decide, fun i v G2 H2 hv s11 b11 t11 => ?_⟩
    have hi : i < 9 := (List.getElem?_eq_some_iff.mp hv).1
    have z9 := s10.trans s11
    have z8 := s9.trans z9
    have z7 := s8.trans z8
    have z6 := s7.trans z7
    have z5 := s6.trans z6
    have z4 := s5.trans z5
    have z3 := s4.trans z4
    have z2 := s3.trans z3
    have z1 := s2.trans z2
    have z0 := s1.trans z1
    match i, hi, hv with
    | 0, _, e => exact (Option.some.inj e) ▸ k (1, 1) t1 G2 H2 (by decide) z0 b11 t11 (z1 _ _ upd_same)
    | 1, _, e => exact (Option.some.inj e) ▸ k (2, 1) t2 G2 H2 (by decide) z0 b11 t11 (z2 _ _ upd_same)
    | 2, _, e => exact (Option.some.inj e) ▸ k (1, 2) t3 G2 H2 (by decide) z0 b11 t11 (z3 _ _ upd_same)
    | 3, _, e => exact (Option.some.inj e) ▸ k (3, 2) t4 G2 H2 (by decide) z0 b11 t11 (z4 _ _ upd_same)
    | 4, _, e => exact (Option.some.inj e) ▸ k (2, 3) t5 G2 H2 (by decide) z0 b11 t11 (z5 _ _ upd_same)
    | 5, _, e => exact (Option.some.inj e) ▸ k (3, 1) t6 G2 H2 (by decide) z0 b11 t11 (z6 _ _ upd_same)
    | 6, _, e => exact (Option.some.inj e) ▸ k (1, 3) t7 G2 H2 (by decide) z0 b11 t11 (z7 _ _ upd_same)
    | 7, _, e => exact (Option.some.inj e) ▸ k (5, 3) t8 G2 H2 (by decide) z0 b11 t11 (z8 _ _ upd_same)
    | 8, _, e => exact (Option.some.inj e) ▸ k (4, 5) t9 G2 H2 (by decide) z0 b11 t11 (z9 _ _ upd_same)
theorem k_cells (D : Lies K mg "_law_cells" s_l_cells) (T : Plain mg) : Keeps P w K mg base 1 "_law_cells" ["script", "most"] (spCells K) := by
  refine D.keeps sc_l_cells (fun _ _ _ _ _ _ us hl => match us, hl with | [_, _], _ => rfl) (fun vs H Q E h => ?_) (fun f cdv A outer s H vs Q E hr h => ?_)
  · obtain ⟨a, xs, m, rfl, _⟩ := h
    rfl
  · obtain ⟨a, xs, m, rfl, hS, m1, m3, k⟩ := h
    refine ⟨_, (pss_one (ps_ret (pe_listRg rfl rfl T.n_list (prg_1 rfl T.n_range (pe_callB (call_max2 rfl) (by rfl) T.n_max b_max (pa_cons pe_int (pa_cons (pe_callB (call_min2 rfl) (by rfl) T.n_min b_min (pa_cons (pv 1) (pa_cons (pe_callB call_len_seq (by rfl) T.n_len b_len (pa_cons (pv 0) pa_nil)) pa_nil))) pa_nil))))))), ?_⟩
    refine ⟨_, rfl, _, rfl, a, _, rfl, .inl hS, _, _, rfl, _, _, rfl, _, rfl, ?_⟩
    generalize hz : (if (if (xs.length : Int) < m then (xs.length : Int) else m) > 1 then (if (xs.length : Int) < m then (xs.length : Int) else m) else 1) = z
    have h1 : 1 ≤ z ∧ z ≤ 3 := by
      subst hz
      split <;> split <;> omega
    refine ⟨RgOk.of_le (by decide) (by omega) (by decide) (by omega), fun q hq => ?_⟩
    obtain ⟨c, rfl⟩ := Int.eq_ofNat_of_zero_le (show 0 ≤ z by omega)
    have e : rgV 0 (c : Int) = (List.range c).map fun i => V.int (i : Nat) := by
      unfold rgV
      rw [show ((c : Int) - 0).toNat = c by omega]
      exact List.map_congr_left fun i _ => by rw [Int.zero_add]
    rw [e]
    exact k c q (by omega) (by omega) hq
theorem k_pot (D : Lies K mg "_law_pot" s_l_pot) (T : Plain mg) : Keeps P w K mg base 1 "_law_pot" ["script", "place"] (spPot K) := by
  refine D.keeps sc_l_pot (fun _ _ _ _ _ _ us hl => match us, hl with | [_, _], _ => rfl) (fun vs H Q E h => ?_) (fun f cdv A outer s H vs Q E hr h => ?_)
  · obtain ⟨a, ns, j, rfl, _⟩ := h
    rfl
  · obtain ⟨a, ns, j, rfl, hS, hj, k⟩ := h
    refine ⟨_, (Evl.pss_cut (ps_set (i := 2) sc_l_pot.nd rfl (Or.inl rfl) (pe_ifExp (pt_cmpR op_lt (pv 1) (pe_callB call_len_seq (by rfl) T.n_len b_len (pa_cons (pv 0) pa_nil)) (nomark _)) (pe_ix ix_list (pv 0) (pv 1) (fun _ _ => rfl)) (pe_op op_add (pe_op op_add (pe_op op_mod (pe_callB (cr_sum rfl) (by rfl) T.n_sum b_sum (pa_cons (pe_slice sl_list (pv 0) po_none (po_some pe_int)) pa_nil)) pe_int) (pe_op op_mul pe_int (pv 1))) pe_int)))
      (pss_cons (ps_set (i := 3) sc_l_pot.nd rfl (Or.inl rfl) (pe_op op_mul (pe_op op_mod (pe_callTy call_int1 (by rfl) T.n_int b_int (pa_cons (pe_callB call_abs (by rfl) T.n_abs b_abs (pa_cons (pv 2) pa_nil)) pa_nil)) (pe_op op_powW (pe_op op_pow pe_int pe_int) pe_int)) (pe_callTy call_int1 (by rfl) T.n_int b_int (pa_cons (pe_cmpR op_ge (pe_callB call_abs (by rfl) T.n_abs b_abs (pa_cons (pv 2) pa_nil)) (pe_op op_pow pe_int pe_int) (nomark _)) pa_nil))))
      (pss_cons (ps_set (i := 4) sc_l_pot.nd rfl (Or.inl rfl) (pe_op op_mod (pe_callTy call_int1 (by rfl) T.n_int b_int (pa_cons (pv 2) pa_nil)) pe_int))
      (pss_one (ps_ret (pe_lst (pa_cons (pv 3) (pa_cons (pe_op op_mod (pe_callTy call_int1 (by rfl) T.n_int b_int (pa_cons (pe_op op_add (pe_op op_add (pe_op op_mul (pv 4) pe_int) (pe_op op_mul (pe_op op_mul pe_int (pv 1)) (pv 1))) pe_int) pa_nil)) pe_int) (pa_cons pe_int pa_nil))))))))), ?_⟩
    refine ⟨fun σ' H' => ∃ c : Int, σ' = [some (.ref a), some (.int j), some (.int c), none, none] ∧ Same H H', ?_, ?_⟩
    · refine ⟨_, rfl, _, rfl, a, _, rfl, .inl hS, _, _, rfl, rfl, _, rfl, ?_⟩
      refine ite2 (fun h0 => ?_) (fun h0 => ?_)
      · have hj2 : j < ns.length := by
          have := of_decide_eq_true h0
          rw [List.length_map] at this
          omega
        exact ⟨_, rfl, _, rfl, a, _, _, V.int ns[j], rfl, rfl, hS, atI_nat (by simp [hj2]), ns[j], rfl, Same.refl H⟩
      · refine ⟨_, rfl, _, rfl, a, _, rfl, hS, fun q hq => ?_⟩
        refine ⟨q, _, rfl, SqL.of (upd_same.trans (by unfold cutV; rw [← List.map_drop, ← List.map_take])), ?_⟩
        exact ⟨_, _, rfl, rfl, (show (0 : Int) < 1000003 by decide), _, rfl, _, _, rfl, rfl, .inl ⟨by decide, by decide⟩, _, _, rfl, rfl, _, _, rfl, rfl, _, rfl, same_upd hq⟩
    · rintro σ1 H1 ⟨c, rfl, s1⟩
      refine ⟨_, rfl, _, rfl, .inl ⟨_, rfl, _, _, rfl, rfl, ⟨by decide, by decide, by decide⟩, _, _, rfl, rfl, ⟨by decide, by decide +kernel⟩, _, _, rfl, rfl, (show (0 : Int) < (10 ^ (60 : Int).toNat) ^ (5 : Int).toNat by decide +kernel), ?_⟩⟩
      refine ⟨_, rfl, _, rfl, _, _, rfl, rfl, ⟨by decide, by decide, by decide⟩, _, _, rfl, rfl, .inr ⟨_, rfl, _, _, rfl, rfl, .inr (bit_in _), ?_⟩⟩
      refine ⟨_, rfl, .inl ⟨_, rfl, _, _, rfl, rfl, (show (0 : Int) < 2305843009213693951 by decide), ?_⟩⟩
      have own0 : 0 ≤ ((if c < 0 then -c else c) % (10 ^ (60 : Int).toNat) ^ (5 : Int).toNat) * (if decide ((10 : Int) ^ (18 : Int).toNat ≤ if c < 0 then -c else c) = true then 1 else 0) := Int.mul_nonneg (Int.emod_nonneg _ (by decide +kernel)) (bit_nn _)
      have m0 := Int.emod_nonneg c (show (2305843009213693951 : Int) ≠ 0 by decide)
      have m1 := Int.emod_lt_of_pos c (show (0 : Int) < 2305843009213693951 by decide)
      refine ⟨_, rfl, _, rfl, _, _, rfl, rfl, .inl (by omega), _, rfl, _, _, rfl, rfl, .inl (by decide), _, rfl, _, _, rfl, rfl, .inl (by omega), _, _, rfl, rfl, _, _, rfl, rfl, .inl ⟨_, rfl, _, _, rfl, rfl, (show (0 : Int) < 2305843009213693921 by decide), by show 3 ≤ sizeLine; decide, fun p hp => ?_⟩⟩
      exact k p _ (s1.free hp) ⟨s1.free hp, s1.trans (same_upd hp)⟩ ⟨_, _, _, upd_same, own0, Int.emod_nonneg _ (by decide), Int.emod_lt_of_pos _ (by decide), by decide, by decide, by decide⟩
end
end Ct

namespace Ct
open PySem PySem.Spec PyProof.Rows L2 TL
abbrev s_l_circuit_text : Stmt := top 56
abbrev N_l_circuit_text : List Str := ["own", "rows", "name", "one", "ties", "tie"]
theorem sc_l_circuit_text : FnScope N_l_circuit_text ["own"] (defScope s_l_circuit_text) := ⟨rfl, rfl, rfl, by decide +kernel, rfl, by decide +kernel, by decide +kernel⟩
def spText (K : PySem.W.Frag) : Sp := fun vs H Q _ => ∃ (v : V) (o : Own), vs = [v] ∧ OwnAt K H v o ∧ OwnOk o ∧ ∀ H', Same H H' → Q (.str (textOf o)) H'
theorem sp_len : (" " : Str).length = 1 := by decide +kernel
theorem src_len : ("source " : Str).length = 7 := by decide +kernel
theorem prt_len : ("part " : Str).length = 5 := by decide +kernel
theorem joi_len : ("joining " : Str).length = 8 := by decide +kernel
theorem tie_len : ("tie " : Str).length = 4 := by decide +kernel
theorem nl_len : ("\n" : Str).length = 1 := by decide +kernel
theorem gnd_len : ("gnd" : Str).length = 3 := by decide +kernel
theorem junc_len {x : Str} (h : Junc x) : x.length ≤ 6 := by
  rcases h with rfl | h
  · rw [gnd_len]; decide
  · exact h.2.1
theorem tie_join {a b c : Str} (ha : a.length ≤ 6) (hb : b.length ≤ 6) (hc : c.length ≤ 6) : (([a, b, c] : List Str).map (·.length)).sum + ([a, b, c] : List Str).length * (" " : Str).length ≤ 30 := by
  rw [sp_len]
  simp
  omega
theorem join3_len {a b c : Str} (ha : a.length ≤ 6) (hb : b.length ≤ 6) (hc : c.length ≤ 6) : (Txt.join " " [a, b, c]).length ≤ 30 := by
  rw [TL.join_eq]
  have e : Str.join " " [a, b, c] = a ++ " " ++ (b ++ " " ++ c) := by
    refine ext_tl ?_
    rw [tl_join]
    simp only [List.map_cons, List.map_nil, joinL, tl_append, List.append_assoc]
  rw [e]
  simp only [len_app, sp_len]
  omega
theorem rows_few {o : Own} (ok : OwnOk o) : (rowsOf o).length ≤ 67 := by
  have few : (o.joinings.flatMap joiRows).length ≤ 54 := by
    refine Nat.le_trans (flat_len (B := 9) fun z hz => ?_) (Nat.mul_le_mul_right 9 ok.j_few)
    have := (ok.joi z hz).few
    unfold joiRows
    rw [List.length_cons, List.length_map]
    omega
  have a := ok.s_few
  have b := ok.p_few
  unfold rowsOf
  rw [List.length_cons, List.length_append, List.length_append, List.length_map, List.length_map]
  omega
theorem cir_len : ("circuit" : Str).length = 7 := by decide +kernel
theorem rows_short {o : Own} (ok : OwnOk o) : ∀ y ∈ rowsOf o, y.length ≤ 3900 := by
  intro y hy
  unfold rowsOf at hy
  rcases List.mem_cons.mp hy with rfl | hy
  · rw [cir_len]; decide
  rcases List.mem_append.mp hy with hy | hy
  · rcases List.mem_append.mp hy with hy | hy
    · obtain ⟨e, he, rfl⟩ := List.mem_map.mp hy
      exact (ent_len (by rw [src_len]; decide) (ok.src e he)).2
    · obtain ⟨e, he, rfl⟩ := List.mem_map.mp hy
      exact (ent_len (by rw [prt_len]; decide) ⟨(ok.prt e he).1, (ok.prt e he).2.1⟩).2
  · obtain ⟨j, hj, hy⟩ := List.mem_flatMap.mp hy
    have jo := ok.joi j hj
    unfold joiRows at hy
    rcases List.mem_cons.mp hy with rfl | hy
    · unfold joiLine
      rw [len_app, joi_len]
      have := jo.name.2.1
      omega
    · obtain ⟨t, ht, rfl⟩ := List.mem_map.mp hy
      have jt := jo.tie t ht
      have l1 : t.1.length ≤ 6 := by
        obtain ⟨y, hy, ey⟩ := List.mem_map.mp jt.1
        exact ey ▸ (ok.prt y hy).1.2.1
      have := join3_len l1 (junc_len jt.2.1) (junc_len jt.2.2)
      unfold tieLine
      rw [len_app, tie_len]
      omega
theorem rows_join {o : Own} (ok : OwnOk o) : ((rowsOf o).map (·.length)).sum + (rowsOf o).length * ("\n" : Str).length ≤ 16777216 := by
  have a := rows_few ok
  have b := sum_le (rows_short ok)
  rw [nl_len]
  have c : (rowsOf o).length * 3900 ≤ 67 * 3900 := Nat.mul_le_mul_right _ a
  omega
section
variable {P : Program} {w : World} {K : PySem.W.Frag} {mg : Str → Option Value} {base : Heap}
theorem k_circuit_text (D : Lies K mg "_law_circuit_text" s_l_circuit_text) (T : Plain mg) (G_l_frac_text : Keeps P w K mg base 1 "_law_frac_text" ["one"] (spFracText K)) : Keeps P w K mg base 2 "_law_circuit_text" ["own"] (spText K) := by
  refine D.keeps sc_l_circuit_text (fun _ _ _ _ _ _ us hl => match us, hl with | [_], _ => rfl) (fun vs H Q E h => ?_) (fun f cdv A outer s H vs Q E hr h => ?_)
  · obtain ⟨v, o, rfl, _⟩ := h
    rfl
  · obtain ⟨v, o, rfl, ⟨d, vS, vP, vJ, rfl, hd, ⟨aS, xS, rfl, hS, pS⟩, ⟨aP, xP, rfl, hP, pP⟩, ⟨aJ, xJ, rfl, hJ, pJ⟩⟩, ok, k⟩ := h
    refine ⟨_, (pss_cons (ps_setLc (i := 1) (own := [("name", 2), ("one", 3)]) (g := gTup K 2 (gCons (gName 2) (gCons (gName 3) gNil))) (tt := tYes) rfl sc_l_circuit_text.nd rfl rfl (sw_true rfl rfl rfl (by decide +kernel)) (pi_list (pe_dget (hu_of hr) (pv 0) pe_str (fun _ _ => rfl))) (blkOk_by (N := N_l_circuit_text) (sc := defScope s_l_circuit_text) (by decide +kernel)) (fun _ _ _ _ _ => pg_tup rfl (pgs_cons (pg_name (i := 2) sc_l_circuit_text.nd rfl (Or.inl rfl)) (pgs_cons (pg_name (i := 3) sc_l_circuit_text.nd rfl (Or.inl rfl)) pgs_nil))) (fun _ _ _ _ _ => pts_nil) (fun _ _ _ _ _ => by exact (pe_op op_add_str (pe_op op_add_str (pe_op op_add_str pe_str (pv 2)) pe_str) (pe_go G_l_frac_text (hr.mono (by decide)) rfl (pa_cons (pv 3) pa_nil)))))
      (pss_cons (ps_expr (pe_bm PySem.F.plainAttrs_list PySem.F.slot_list_extend PySem.F.type_list_extend mt_extend (pv 1) (pa_cons (pe_lc (own := [("name", 2), ("one", 3)]) (g := gTup K 2 (gCons (gName 2) (gCons (gName 3) gNil))) (tt := tYes) rfl sc_l_circuit_text.nd (pi_list (pe_dget (hu_of hr) (pv 0) pe_str (fun _ _ => rfl))) (blkOk_by (N := N_l_circuit_text) (sc := defScope s_l_circuit_text) (by decide +kernel)) (fun _ _ _ _ _ => pg_tup rfl (pgs_cons (pg_name (i := 2) sc_l_circuit_text.nd rfl (Or.inl rfl)) (pgs_cons (pg_name (i := 3) sc_l_circuit_text.nd rfl (Or.inl rfl)) pgs_nil))) (fun _ _ _ _ _ => pts_nil) (fun _ _ _ _ _ => by exact (pe_op op_add_str (pe_op op_add_str (pe_op op_add_str pe_str (pv 2)) pe_str) (pe_go G_l_frac_text (hr.mono (by decide)) rfl (pa_cons (pv 3) pa_nil))))) pa_nil)))
      (pss_cons (ps_for PassesOwn.never rfl (pi_list (pe_dget (hu_of hr) (pv 0) pe_str (fun _ _ => rfl))) (pg_tup rfl (pgs_cons (pg_name (i := 2) sc_l_circuit_text.nd rfl (Or.inl rfl)) (pgs_cons (pg_name (i := 4) sc_l_circuit_text.nd rfl (Or.inl rfl)) pgs_nil)))
        (pss_cons (ps_expr (pe_bm PySem.F.plainAttrs_list PySem.F.slot_list_append PySem.F.type_list_append mt_append (pv 1) (pa_cons (pe_op op_add_str pe_str (pv 2)) pa_nil)))
        (pss_one (ps_expr (pe_bm PySem.F.plainAttrs_list PySem.F.slot_list_extend PySem.F.type_list_extend mt_extend (pv 1) (pa_cons (pe_lc (own := [("tie", 5)]) (g := gName 5) (tt := tYes) rfl sc_l_circuit_text.nd (pi_list (pv 4)) (blkOk_by (N := N_l_circuit_text) (sc := defScope s_l_circuit_text) (by decide +kernel)) (fun _ _ _ _ _ => pg_name (i := 5) sc_l_circuit_text.nd rfl (Or.inl rfl)) (fun _ _ _ _ _ => pts_nil) (fun _ _ _ _ _ => by exact (pe_op op_add_str pe_str (pe_joinK (K := K) rfl pe_str (pe_listK (K := K) rfl rfl T.n_list (pa_cons (pv 5) pa_nil)))))) pa_nil))))))
      (pss_one (ps_ret (pe_joinK (K := K) rfl pe_str (pe_op op_cat (pe_lst (pa_cons pe_str pa_nil)) (pv 1)))))))), ?_⟩
    refine into_set (comp_pure (f := entLine "source ") (R := EntAt K H) (R' := fun _ => StrV) (fun R r => ⟨_, rfl, d, _, rfl, get_s hd, r⟩) hS pS ?_ (fun _ _ _ h => h) (fun _ _ _ _ h => h) (fun x e H0 Z r he s0 hz => ?_) (fun H2 D acc hD s2 hL hp => ?_))
    · rw [pS.length]
      exact Nat.lt_of_le_of_lt ok.s_few (by decide)
    · obtain ⟨t, u, rfl, ht, u', rfl, hu⟩ := r
      have hn := ok.src e he
      have l1 := ent_len (w := "source ") (by rw [src_len]; decide) hn
      refine ⟨t, _, rfl, SqT.same s0 ht, rfl, _, _, rfl, _, _, rfl, ⟨rfl, rfl, ?_⟩⟩
      refine ⟨_, rfl, _, _, rfl, rfl, ?_, _, _, rfl, rfl, ?_, _, rfl, u', e.2, rfl, SqT.same s0 hu, hn.2.2.2.1, hn.2.2.2.2, _, _, rfl, rfl, ?_, hz _ _ (Same.refl _) rfl⟩
      · rw [src_len]
        exact Nat.le_trans (Nat.add_le_add_left hn.1.2.1 7) (by decide)
      · have := l1.1
        rw [len_app] at this
        exact Nat.le_trans this (by decide)
      · have := l1.2
        unfold entLine at this
        rw [len_app] at this
        exact Nat.le_trans this (by decide)
    have eL := strs_are hp
    subst eL
    have dS : (V.ref d) = V.ref d := rfl
    refine into_drop ⟨_, rfl, .inl ⟨rfl, _, SqL.of hL⟩, into_args1 (comp_pure (f := entLine "part ") (R := EntAt K H) (R' := fun _ => StrV) (fun R r => ⟨_, rfl, d, _, rfl, get_p (s2 _ _ hd), r⟩) (Same.seq s2 hP) pP ?_ (fun _ _ _ h => h) (fun _ _ _ _ h => h) (fun x e H0 Z r he s0 hz => ?_) (fun H3 D3 acc hD3 s3 hL3 hp3 => ?_))⟩
    · rw [pP.length]
      exact Nat.lt_of_le_of_lt ok.p_few (by decide)
    · obtain ⟨t, u, rfl, ht, u', rfl, hu⟩ := r
      have hn := ok.prt e he
      have l1 := ent_len (w := "part ") (by rw [prt_len]; decide) ⟨hn.1, hn.2.1⟩
      refine ⟨t, _, rfl, SqT.same (s2.trans s0) ht, rfl, _, _, rfl, _, _, rfl, ⟨rfl, rfl, ?_⟩⟩
      refine ⟨_, rfl, _, _, rfl, rfl, ?_, _, _, rfl, rfl, ?_, _, rfl, u', e.2, rfl, SqT.same (s2.trans s0) hu, hn.2.1.2.2.1, hn.2.1.2.2.2, _, _, rfl, rfl, ?_, hz _ _ (Same.refl _) rfl⟩
      · rw [prt_len]
        exact Nat.le_trans (Nat.add_le_add_left hn.1.2.1 5) (by decide)
      · have := l1.1
        rw [len_app] at this
        exact Nat.le_trans this (by decide)
      · have := l1.2
        unfold entLine at this
        rw [len_app] at this
        exact Nat.le_trans this (by decide)
    have eL3 := strs_are hp3
    subst eL3
    have hLD := s3 _ _ hL
    have nDD : D ≠ D3 := fun z => by
      rw [z, hD3] at hL
      cases hL
    have r1 : (o.sources.map (entLine "source ")).length ≤ 4 := by rw [List.length_map]; exact ok.s_few
    have r2 : (o.parts.map (entLine "part ")).length ≤ 8 := by rw [List.length_map]; exact ok.p_few
    refine ⟨D, D3, _, _, rfl, rfl, hLD, hL3, ?_, ?_⟩
    · simp only [List.length_map] at r1 r2 ⊢
      show _ ≤ 16777216
      omega
    rw [← List.map_append]
    have s4 : Same H (upd H3 D (.lst ((o.sources.map (entLine "source ") ++ o.parts.map (entLine "part ")).map V.str))) := fun b z q => by
      rw [upd_ne (ne_of_none q hD)]
      exact s3 _ _ (s2 _ _ q)
    refine ⟨_, rfl, d, _, rfl, get_j (s4 _ _ hd), aJ, rfl, ⟨_, Same.seq s4 hJ⟩, for_list (xs := xJ) (fun i σ' H' => ∃ v2 v3 v4 v5 : Option V, σ' = [some (.ref d), some (.ref D), v2, v3, v4, v5] ∧
      H' D = some (.lst ((o.sources.map (entLine "source ") ++ o.parts.map (entLine "part ") ++ (o.joinings.take i).flatMap joiRows).map V.str)) ∧ Same H H')
      ⟨_, _, _, _, rfl, by rw [List.take_zero, List.flatMap_nil, List.append_nil]; exact upd_same, s4⟩ (fun i σ' H' _ ⟨_, _, _, _, _, _, s⟩ => Same.seq s hJ) ?_ ?_⟩
    · rintro i x σ' H' hx ⟨v2, v3, v4, v5, rfl, hLi, si⟩
      obtain ⟨e, he, t, l, rfl, ht, al, xl, rfl, hl, pl⟩ := Paired.at pJ hx
      have hj := ok.joi e (List.mem_of_getElem? he)
      have hi : i < 6 := Nat.lt_of_lt_of_le (List.getElem?_eq_some_iff.mp he).1 ok.j_few
      have few : ((o.joinings.take i).flatMap joiRows).length ≤ 54 := by
        refine Nat.le_trans (flat_len (B := 9) fun z hz => ?_) (Nat.mul_le_mul_right 9 (Nat.le_trans (List.length_take_le i _) (Nat.le_of_lt hi)))
        have := (ok.joi z (List.mem_of_mem_take hz)).few
        unfold joiRows
        rw [List.length_cons, List.length_map]
        omega
      have rs : (o.sources.map (entLine "source ") ++ o.parts.map (entLine "part ") ++ (o.joinings.take i).flatMap joiRows).length ≤ 66 := by
        rw [List.length_append, List.length_append]
        omega
      generalize hrows : o.sources.map (entLine "source ") ++ o.parts.map (entLine "part ") ++ (o.joinings.take i).flatMap joiRows = rows at hLi rs
      refine ⟨t, _, rfl, SqT.same si ht, rfl, _, _, rfl, _, _, rfl, ⟨rfl, ?_⟩⟩
      refine ⟨_, rfl, .inl ⟨rfl, _, SqL.of hLi⟩, _, rfl, _, _, rfl, rfl, ?_, D, _, _, rfl, rfl, hLi, ?_, ?_⟩
      · rw [joi_len]
        exact Nat.le_trans (Nat.add_le_add_left hj.name.2.1 8) (by decide)
      · rw [List.length_map]
        show rows.length < 16777216
        omega
      have s5 : Same H (upd H' D (.lst (rows.map V.str ++ [V.str ("joining " ++ e.1)]))) := fun b z q => by
        rw [upd_ne (ne_of_none q hD)]
        exact si _ _ q
      refine ⟨_, rfl, .inl ⟨rfl, _, SqL.of upd_same⟩, into_args1 (comp_pure (f := tieLine) (R := TieAt K H) (R' := fun _ => StrV) (fun R r => ⟨_, rfl, r⟩) (Same.seq s5 hl) pl ?_ (fun _ _ _ h => h) (fun _ _ _ _ h => h) (fun x e2 H0 Z r he2 s0 hz => ?_) (fun H6 D6 acc hD6 s6 hL6 hp6 => ?_))⟩
      · rw [pl.length]
        exact Nat.lt_of_le_of_lt hj.few (by decide)
      · obtain ⟨t2, rfl, ht2⟩ := r
        have jt := hj.tie e2 he2
        have l1 : e2.1.length ≤ 6 := by
          obtain ⟨y, hy, ey⟩ := List.mem_map.mp jt.1
          exact ey ▸ (ok.prt y hy).1.2.1
        have l2 := junc_len jt.2.1
        have l3 := junc_len jt.2.2
        refine ⟨rfl, ⟨_, rfl⟩, _, rfl, t2, _, rfl, .inr (SqT.same (s5.trans s0) ht2), fun q hq => ⟨_, q, [e2.1, e2.2.1, e2.2.2], rfl, rfl, .inl (SqL.of upd_same), Nat.le_trans (tie_join l1 l2 l3) (by decide), _, _, rfl, rfl, ?_, hz _ _ (same_upd hq) rfl⟩⟩
        rw [tie_len]
        exact Nat.le_trans (Nat.add_le_add_left (join3_len l1 l2 l3) 4) (by decide)
      have eL6 := strs_are hp6
      subst eL6
      refine ⟨D, D6, _, _, rfl, rfl, s6 _ _ upd_same, hL6, ?_, ?_⟩
      · rw [List.length_append, List.length_map, List.length_map, List.length_map, List.length_singleton]
        have := hj.few
        show rows.length + 1 + e.2.length ≤ 16777216
        omega
      refine ⟨_, _, _, _, rfl, ?_, fun b z q => ?_⟩
      · rw [upd_same, take_snoc he, List.flatMap_append, ← List.append_assoc, hrows, List.map_append, List.flatMap_singleton]
        unfold joiRows joiLine
        simp
      · rw [upd_ne (ne_of_none q hD)]
        exact s6 _ _ (s5 _ _ q)
    · rintro σ' H' ⟨v2, v3, v4, v5, rfl, hLi, si⟩
      rw [show o.joinings.take xJ.length = o.joinings by rw [pJ.length, List.take_length]] at hLi
      have few : (o.joinings.flatMap joiRows).length ≤ 54 := by
        refine Nat.le_trans (flat_len (B := 9) fun z hz => ?_) (Nat.mul_le_mul_right 9 ok.j_few)
        have := (ok.joi z hz).few
        unfold joiRows
        rw [List.length_cons, List.length_map]
        omega
      refine ⟨⟨_, rfl⟩, ⟨by show 1 ≤ sizeLine; decide, fun q hq => ⟨_, rfl, ?_⟩⟩⟩
      have nqD : q ≠ D := fun z => by rw [z, hLi] at hq; cases hq
      refine ⟨q, D, _, _, rfl, rfl, upd_same, (upd_ne nqD.symm).trans hLi, ?_, fun p hp => ?_⟩
      · rw [List.length_singleton, List.length_map, List.length_append, List.length_append]
        show 1 + _ ≤ 16777216
        omega
      refine ⟨_, p, rowsOf o, rfl, rfl, .inl (SqL.of ?_), ?_, k _ fun b z h => ?_⟩
      · rw [upd_same]
        rfl
      · exact rows_join ok
      · rw [upd_ne (ne_of_none (o := z) (by rw [upd_ne (ne_of_none (si _ _ h) hq)]; exact si _ _ h) hp), upd_ne (ne_of_none (si _ _ h) hq)]
        exact si _ _ h
end
end Ct

namespace Ct
open PySem PySem.Spec PyProof.Rows L2 TL
abbrev s_Circuit_init : Stmt := inClass (top 32) 0
abbrev N_Circuit_init : List Str := ["self", "text", "sources", "parts", "joinings", "name", "ties"]
theorem sc_Circuit_init : FnScope N_Circuit_init ["self", "text"] (defScope s_Circuit_init) := ⟨rfl, rfl, rfl, by decide +kernel, rfl, by decide +kernel, by decide +kernel⟩
structure ClassT (K : PySem.W.Frag) (mg : Str → Option Value) (C : Addr) : Prop where
  cl : Cls K C
  nT : NoAttr K C "text"
  nS : NoAttr K C "sources"
  nP : NoAttr K C "parts"
  nJ : NoAttr K C "joinings"
def spInit (K : PySem.W.Frag) (C : Addr) : Sp := fun vs H Q _ => ∃ (H0 : Hp) (x dx : Addr) (o : Own), vs = [.ref x, .str (textOf o)] ∧ Same H0 H ∧ H0 x = none ∧ H x = some (.ins C dx []) ∧ OwnOk o ∧ ∀ H', Same H0 H' → CircAt K C H' (.ref x) o → Q .non H'
theorem f_ts : ¬ ("text" : Str) = "sources" := by decide +kernel
theorem f_tp : ¬ ("text" : Str) = "parts" := by decide +kernel
theorem f_tj : ¬ ("text" : Str) = "joinings" := by decide +kernel
theorem f_st : ¬ ("sources" : Str) = "text" := by decide +kernel
theorem f_pt : ¬ ("parts" : Str) = "text" := by decide +kernel
theorem f_sp : ¬ ("sources" : Str) = "parts" := by decide +kernel
theorem f_sj : ¬ ("sources" : Str) = "joinings" := by decide +kernel
theorem f_pj : ¬ ("parts" : Str) = "joinings" := by decide +kernel
theorem put1 (a : V) : putF "text" a [] = ([("text", a)] : List (Str × V)) := rfl
theorem put2 (a b : V) : putF "sources" b (putF "text" a []) = ([("text", a), ("sources", b)] : List (Str × V)) := by
  rw [put1]
  show (if ("text" : Str) = "sources" then _ else _) = _
  rw [if_neg f_ts]
  rfl
theorem few2 (a b : V) : (putF "sources" b (putF "text" a [])).length < 1000 := by
  rw [put2]
  show 2 < 1000
  decide
theorem few3 (a b c : V) : (putF "parts" c (putF "sources" b (putF "text" a []))).length < 1000 := by
  rw [put2]
  show (if ("text" : Str) = "parts" then _ else (("text" : Str), a) :: (if ("sources" : Str) = "parts" then _ else _)).length < 1000
  rw [if_neg f_tp, if_neg f_sp]
  show 3 < 1000
  decide
theorem lines_few {o : Own} (ok : OwnOk o) : (linesOf o).length ≤ 100 := by
  have := rows_few ok
  rw [rows_lines, List.length_cons, List.length_map] at this
  omega
theorem line_short {o : Own} (ok : OwnOk o) : ∀ l ∈ linesOf o, l.text.length ≤ 4000 := fun l hl => by
  have := rows_short ok l.text (by rw [rows_lines]; exact List.mem_cons_of_mem _ (List.mem_map_of_mem hl))
  omega
theorem text_len {o : Own} (ok : OwnOk o) : (textOf o).length + 2 ≤ 16777216 := by
  unfold textOf
  rw [TL.join_eq]
  have key : ∀ (B : Nat) (ys : List Str), (∀ y ∈ ys, y.length ≤ B) → (Str.join "\n" ys).length ≤ ys.length * (B + 1) := by
    intro B ys
    induction ys with
    | nil =>
      intro _
      rw [len_tl, tl_join]
      exact Nat.zero_le _
    | cons y r ih =>
      intro h
      have h1 := h y List.mem_cons_self
      have h2 := ih fun z hz => h z (List.mem_cons_of_mem _ hz)
      rw [len_tl, tl_join] at h2 ⊢
      rw [List.length_cons, Nat.add_mul]
      cases r with
      | nil =>
        show (tl y).length ≤ _
        rw [← len_tl]
        omega
      | cons z q =>
        show (tl y ++ (tl ("\n" : Str) ++ joinL (tl ("\n" : Str)) ((z :: q).map tl))).length ≤ _
        rw [List.length_append, List.length_append, ← len_tl, ← len_tl, nl_len]
        omega
  have a := key 3900 (rowsOf o) (rows_short ok)
  have b := rows_few ok
  have c : (rowsOf o).length * (3900 + 1) ≤ 67 * 3901 := Nat.mul_le_mul b (by decide)
  omega
section
variable {P : Program} {w : World} {K : PySem.W.Frag} {mg : Str → Option Value} {base : Heap}
theorem k_init {f C : Addr} {fd : FuncData} (F : Fun K "__init__" "Circuit.__init__" s_Circuit_init f fd) (Z : ClassT K mg C) (T : Plain mg) (G_read_lines : Keeps P w K mg base 6 "_read_lines" ["lines"] (spReadLines K)) : FnOk P w K mg base CX0 7 f fd ["self", "text"] (spInit K C) := by
  refine F.ok sc_Circuit_init (fun vs H Q E h => ?_) (fun cdv A outer s0 H vs Q E hr h => ?_)
  · obtain ⟨H0, x, dx, o, rfl, _⟩ := h
    rfl
  · obtain ⟨H0, x, dx, o, rfl, s00, x0, hx, ok, k⟩ := h
    refine ⟨_, (pss_cons (ps_if (pt_not (pt_val (pe_callB call_isi (by rfl) T.n_isinstance b_isinstance (pa_cons (pv 1) (pa_cons (pe_bltn (v := .ty "str") (by rfl) T.n_str b_str rfl) pa_nil)))))
        (pss_one (ps_never))
        pss_nil)
      (pss_cons (ps_asg (pe_go G_read_lines (hr.mono (by decide)) rfl (pa_cons (pe_split (pv 1) pe_str) pa_nil)) (pg_tup rfl (pgs_cons (pg_name (i := 2) sc_Circuit_init.nd rfl (Or.inl rfl)) (pgs_cons (pg_name (i := 3) sc_Circuit_init.nd rfl (Or.inl rfl)) (pgs_cons (pg_name (i := 4) sc_Circuit_init.nd rfl (Or.inl rfl)) pgs_nil)))))
      (pss_cons (ps_fld (pv 0) (pv 1) rfl)
      (pss_cons (ps_fld (pv 0) (pe_callTy call_tuple_of (by rfl) T.n_tuple b_tuple (pa_cons (pv 2) pa_nil)) rfl)
      (pss_cons (ps_fld (pv 0) (pe_callTy call_tuple_of (by rfl) T.n_tuple b_tuple (pa_cons (pv 3) pa_nil)) rfl)
      (pss_one (ps_fld (pv 0) (pe_callTy call_tuple_of (by rfl) T.n_tuple b_tuple (pa_cons (pe_lc (own := [("name", 5), ("ties", 6)]) (g := gTup K 2 (gCons (gName 5) (gCons (gName 6) gNil))) (tt := tYes) rfl sc_Circuit_init.nd (pi_list (pv 4)) (blkOk_by (N := N_Circuit_init) (sc := defScope s_Circuit_init) (by decide +kernel)) (fun _ _ _ _ _ => pg_tup rfl (pgs_cons (pg_name (i := 5) sc_Circuit_init.nd rfl (Or.inl rfl)) (pgs_cons (pg_name (i := 6) sc_Circuit_init.nd rfl (Or.inl rfl)) pgs_nil))) (fun _ _ _ _ _ => pts_nil) (fun _ _ _ _ _ => by exact (pe_tup (pa_cons (pv 5) (pa_cons (pe_tupleK (K := K) rfl rfl T.n_tuple (pa_cons (pv 6) pa_nil)) pa_nil))))) pa_nil)) rfl))))))), ?_⟩
    refine ⟨_, rfl, _, _, _, _, true, rfl, .ty _, .base (.str _), kit_ty (by decide +kernel), true, rfl, iteF ?_⟩
    refine ⟨_, rfl, ⟨_, rfl⟩, _, _, rfl, rfl, by rw [nl_len]; rfl, text_len ok, fun q nq => ?_⟩
    rw [text_split ok, rows_lines]
    have sq := same_upd (o := .lst ((("circuit" : Str) :: (linesOf o).map Line.text).map V.str)) nq
    refine ⟨q, linesOf o, rfl, SqL.of upd_same, fits_lines ok, lines_few ok, line_short ok, ?_, fun t s p j G1 H1 sG ac ht => ?_⟩
    · rw [fold_lines]
      intro z
      have := ok.j_some
      rw [z] at this
      exact absurd this (by decide)
    rw [fold_lines] at ac
    have s01 : Same H H1 := sq.trans (sG.trans ac.sub)
    have hx1 := s01 _ _ hx
    obtain ⟨vS, hS, pS⟩ := ac.src
    obtain ⟨vP, hP, pP⟩ := ac.prt
    obtain ⟨vJ, hJ, pJ⟩ := ac.jr
    have pS1 : Paired (EntAt K H1) vS o.sources := pS.mono fun _ _ h => h.same ac.sub
    have pP1 : Paired (EntAt K H1) vP o.parts := pP.mono fun _ _ h => h.same ac.sub
    have z01 : Same H0 H1 := s00.trans s01
    refine ⟨t, _, rfl, SqT.of ht, rfl, _, _, rfl, _, _, rfl, _, _, rfl, ⟨rfl, ?_⟩⟩
    -- self.text
    refine ⟨_, rfl, _, rfl, x, C, dx, [], rfl, hx1, Z.cl, Z.nT, by show 0 < 1000; decide, ?_⟩
    generalize hf1 : putF "text" (V.str (textOf o)) [] = f1
    have x2 : (upd H1 x (.ins C dx f1)) x = some (.ins C dx f1) := upd_same
    have z2 : Same H0 (upd H1 x (.ins C dx f1)) := same_but z01 x0
    have S2 : Paired (EntAt K (upd H1 x (.ins C dx f1))) vS o.sources := pS1.mono fun _ _ h => h.ins hx1
    have P2 : Paired (EntAt K (upd H1 x (.ins C dx f1))) vP o.parts := pP1.mono fun _ _ h => h.ins hx1
    have J2 : Paired (JrAt K (upd H1 x (.ins C dx f1))) vJ o.joinings := pJ.mono fun _ _ h => h.ins hx1
    have nx : ∀ {l : Addr} {tv : List V}, H1 l = some (.lst tv) → l ≠ x := fun h => ne_of h hx1 (by intro z; cases z)
    have hS2 : (upd H1 x (.ins C dx f1)) s = some (.lst vS) := (upd_ne (nx hS)).trans hS
    have hP2 : (upd H1 x (.ins C dx f1)) p = some (.lst vP) := (upd_ne (nx hP)).trans hP
    have hJ2 : (upd H1 x (.ins C dx f1)) j = some (.lst vJ) := (upd_ne (nx hJ)).trans hJ
    generalize upd H1 x (.ins C dx f1) = H2 at *
    -- self.sources
    refine ⟨_, rfl, s, _, rfl, .inl ⟨SqL.of hS2, fun ts nts => ?_⟩⟩
    have s3 := same_upd (o := .tup vS) nts
    have x3 := s3 _ _ x2
    refine ⟨_, rfl, x, C, dx, f1, rfl, x3, Z.cl, Z.nS, by rw [← hf1]; show 1 < 1000; decide, ?_⟩
    have q3 : (upd H2 ts (.tup vS)) ts = some (.tup vS) := upd_same
    generalize hf2 : putF "sources" (V.ref ts) f1 = f2
    have z4 : Same H0 (upd (upd H2 ts (.tup vS)) x (.ins C dx f2)) := same_but (z2.trans s3) x0
    have x4 : (upd (upd H2 ts (.tup vS)) x (.ins C dx f2)) x = some (.ins C dx f2) := upd_same
    have Q4 : SqT K (upd (upd H2 ts (.tup vS)) x (.ins C dx f2)) ts vS := SqT.ins x3 (SqT.of q3)
    have S4 : Paired (EntAt K (upd (upd H2 ts (.tup vS)) x (.ins C dx f2))) vS o.sources := S2.mono fun _ _ h => (h.same s3).ins x3
    have P4 : Paired (EntAt K (upd (upd H2 ts (.tup vS)) x (.ins C dx f2))) vP o.parts := P2.mono fun _ _ h => (h.same s3).ins x3
    have J4 : Paired (JrAt K (upd (upd H2 ts (.tup vS)) x (.ins C dx f2))) vJ o.joinings := J2.mono fun _ _ h => (h.same s3).ins x3
    have nx4 : ∀ {l : Addr} {tv : List V}, H2 l = some (.lst tv) → l ≠ x := fun h => ne_of h x2 (by intro z; cases z)
    have hP4 : (upd (upd H2 ts (.tup vS)) x (.ins C dx f2)) p = some (.lst vP) := (upd_ne (nx4 hP2)).trans (s3 _ _ hP2)
    have hJ4 : (upd (upd H2 ts (.tup vS)) x (.ins C dx f2)) j = some (.lst vJ) := (upd_ne (nx4 hJ2)).trans (s3 _ _ hJ2)
    generalize upd (upd H2 ts (.tup vS)) x (.ins C dx f2) = H4 at *
    -- self.parts
    refine ⟨_, rfl, p, _, rfl, .inl ⟨SqL.of hP4, fun tp ntp => ?_⟩⟩
    have s5 := same_upd (o := .tup vP) ntp
    have x5 := s5 _ _ x4
    refine ⟨_, rfl, x, C, dx, f2, rfl, x5, Z.cl, Z.nP, by rw [← hf2, ← hf1]; exact few2 _ _, ?_⟩
    have q5 : (upd H4 tp (.tup vP)) tp = some (.tup vP) := upd_same
    generalize hf3 : putF "parts" (V.ref tp) f2 = f3
    have z6 : Same H0 (upd (upd H4 tp (.tup vP)) x (.ins C dx f3)) := same_but (z4.trans s5) x0
    have x6 : (upd (upd H4 tp (.tup vP)) x (.ins C dx f3)) x = some (.ins C dx f3) := upd_same
    have Q6 : SqT K (upd (upd H4 tp (.tup vP)) x (.ins C dx f3)) ts vS := SqT.ins x5 (SqT.same s5 Q4)
    have R6 : SqT K (upd (upd H4 tp (.tup vP)) x (.ins C dx f3)) tp vP := SqT.ins x5 (SqT.of q5)
    have S6 : Paired (EntAt K (upd (upd H4 tp (.tup vP)) x (.ins C dx f3))) vS o.sources := S4.mono fun _ _ h => (h.same s5).ins x5
    have P6 : Paired (EntAt K (upd (upd H4 tp (.tup vP)) x (.ins C dx f3))) vP o.parts := P4.mono fun _ _ h => (h.same s5).ins x5
    have J6 : Paired (JrAt K (upd (upd H4 tp (.tup vP)) x (.ins C dx f3))) vJ o.joinings := J4.mono fun _ _ h => (h.same s5).ins x5
    have nx6 : ∀ {l : Addr} {tv : List V}, H4 l = some (.lst tv) → l ≠ x := fun h => ne_of h x4 (by intro z; cases z)
    have hJ6 : (upd (upd H4 tp (.tup vP)) x (.ins C dx f3)) j = some (.lst vJ) := (upd_ne (nx6 hJ4)).trans (s5 _ _ hJ4)
    generalize upd (upd H4 tp (.tup vP)) x (.ins C dx f3) = H6 at *
    -- self.joinings
    dsimp only
    refine into_fld (into_cb (into_args1 (comp_pure (f := fun e : Str × List (Str × Str × Str) => e) (R := JrAt K H6) (R' := fun H' => JoTAt K H') (fun R r => ⟨_, rfl, r⟩) (SqL.of hJ6) J6 ?_ (fun s _ _ h => h.same s) (fun _ hD _ _ h => h.list hD) (fun v e Hi W r he si hz => ?_) (fun H7 D acc hD s7 hL hp => ?_))))
    · rw [J6.length]
      exact Nat.lt_of_le_of_lt ok.j_few (by decide)
    · obtain ⟨t, l, tv, rfl, ht, hl, ties⟩ := r
      refine ⟨t, _, rfl, SqT.same si ht, rfl, _, _, rfl, _, _, rfl, ⟨rfl, rfl, ?_⟩⟩
      refine ⟨_, rfl, _, rfl, l, tv, rfl, .inl ⟨Same.seq si hl, fun l2 nl2 => ⟨by show 2 ≤ sizeLine; decide, fun t2 nt2 => ?_⟩⟩⟩
      have sa := same_upd (o := .tup tv) nl2
      have sb := same_upd (o := .tup [V.str e.1, V.ref l2]) nt2
      exact hz _ _ (sa.trans sb) ⟨t2, l2, tv, rfl, SqT.of upd_same, SqT.of (sb _ _ upd_same), ties.mono fun _ _ h => h.same (si.trans (sa.trans sb))⟩
    · rw [List.map_id'] at hp
      refine ⟨D, _, rfl, .inl ⟨SqL.of hL, fun tj ntj => ?_⟩⟩
      have s8 := same_upd (o := .tup acc) ntj
      have x8 := s8 _ _ (s7 _ _ x6)
      refine ⟨_, rfl, x, C, dx, f3, rfl, x8, Z.cl, Z.nJ, by rw [← hf3, ← hf2, ← hf1]; exact few3 _ _ _, ?_⟩
      have s68 := s7.trans s8
      refine k _ (same_but (z6.trans s68) x0) ⟨x, dx, _, ts, tp, tj, vS, vP, acc, rfl, upd_same, ?_, ?_, ?_, ?_, SqT.ins x8 (SqT.same s68 Q6), SqT.ins x8 (SqT.same s68 R6), SqT.ins x8 (SqT.of upd_same), S6.mono fun _ _ h => (h.same s68).ins x8, P6.mono fun _ _ h => (h.same s68).ins x8, hp.mono fun _ _ h => (h.same s8).ins x8⟩
      all_goals rw [← hf3, ← hf2, ← hf1]
      all_goals simp only [lookup_putF]
      · simp [f_ts, f_tp, f_tj]
      · simp [f_sp, f_sj]
      · simp [f_pj]
      · simp
end
end Ct

/-! Dicts of rationals under names; circuits as rationals. -/
namespace Ct
open PySem PySem.Spec PyProof.Rows L2 TL RZ
theorem b_sorted : bootBuiltins "sorted" = some (.builtin "sorted") := by decide +kernel
/-- potentials, voltages, sizes by name -/
abbrev Tab := Str → Option Rat
def Tab.no : Tab := fun _ => none
def Tab.put (m : Tab) (x : Str) (r : Rat) : Tab := fun y => if y = x then some r else m y
def Tab.at (m : Tab) (x : Str) : Rat := (m x).getD 0
section
variable {K : PySem.W.Frag} {G H H' : Hp}
theorem RatAt.dict {D : Addr} {k k' : List (Key × V)} (hD : H D = some (.dK k)) {v : V} {r : Rat} : RatAt K H v r → RatAt K (upd H D (.dK k')) v r := fun ⟨t, e, h⟩ => ⟨t, e, SqT.dict hD h⟩
def Told (K : PySem.W.Frag) (H : Hp) (o : Option V) : Option Rat → Prop
  | none => o = none
  | some r => ∃ u, o = some u ∧ RatAt K H u r
/-- kvs holds just what m tells -/
def Holds (K : PySem.W.Frag) (H : Hp) (kvs : List (Key × V)) (m : Tab) : Prop := ∀ x, Told K H (valV kvs (.inr x)) (m x)
theorem Told.imp {o : Option V} {q : Option Rat} (h : ∀ v r, RatAt K H v r → RatAt K H' v r) (t : Told K H o q) : Told K H' o q := by
  cases q with
  | none => exact t
  | some r =>
    obtain ⟨u, e, q⟩ := t
    exact ⟨u, e, h _ _ q⟩
theorem Holds.nil : Holds K H [] Tab.no := fun _ => rfl
theorem Holds.same {kvs : List (Key × V)} {m : Tab} (s : Same H H') (h : Holds K H kvs m) : Holds K H' kvs m := fun x => (h x).imp fun _ _ q => q.same s
theorem Holds.dict {D : Addr} {k k' kvs : List (Key × V)} {m : Tab} (hD : H D = some (.dK k)) (h : Holds K H kvs m) : Holds K (upd H D (.dK k')) kvs m := fun x => (h x).imp fun _ _ q => q.dict hD
theorem Holds.put {kvs : List (Key × V)} {m : Tab} {x : Str} {v : V} {r : Rat} (h : Holds K H kvs m) (hv : RatAt K H v r) : Holds K H (putK kvs (.inr x) v) (m.put x r) := fun y => by
  rw [valV_put]
  unfold Tab.put
  by_cases e : y = x
  · subst e
    rw [if_pos rfl, if_pos rfl]
    exact ⟨v, rfl, hv⟩
  · rw [if_neg (fun z => e (by injection z)), if_neg e]
    exact h y
/-- a dict at d, of so many names at most, that holds m -/
def DtAt (K : PySem.W.Frag) (H : Hp) (d : Addr) (n : Nat) (m : Tab) : Prop := ∃ kvs : List (Key × V), H d = some (.dK kvs) ∧ kvs.length ≤ n ∧ Holds K H kvs m
theorem DtAt.same {d : Addr} {n : Nat} {m : Tab} (s : Same H H') : DtAt K H d n m → DtAt K H' d n m := fun ⟨kvs, h, l, q⟩ => ⟨kvs, s _ _ h, l, q.same s⟩
theorem DtAt.more {d : Addr} {n n' : Nat} {m : Tab} (l : n ≤ n') : DtAt K H d n m → DtAt K H d n' m := fun ⟨kvs, h, l', q⟩ => ⟨kvs, h, Nat.le_trans l' l, q⟩
theorem DtAt.isD {d : Addr} {n : Nat} {m : Tab} : DtAt K H d n m → IsD H d := fun ⟨kvs, h, _⟩ => .inl ⟨kvs, .inl h⟩
theorem DtAt.get {d : Addr} {n : Nat} {m : Tab} {x : Str} {r : Rat} (hm : m x = some r) : DtAt K H d n m → ∃ u, DGet H d (.str x) (some u) ∧ RatAt K H u r := fun ⟨kvs, h, _, q⟩ => by
  have t := q x
  rw [hm] at t
  obtain ⟨u, e, t⟩ := t
  exact ⟨u, e ▸ DGet.k (k := Sum.inr x) h, t⟩
theorem DtAt.ask {d : Addr} {n : Nat} {m : Tab} (x : Str) : DtAt K H d n m → ∃ o, DGet H d (.str x) o ∧ Told K H o (m x) := fun ⟨kvs, h, _, q⟩ => ⟨_, DGet.k (k := Sum.inr x) h, q x⟩
theorem DtAt.put {d : Addr} {n : Nat} {m : Tab} {x : Str} {v : V} {r : Rat} (hn : n < 1000000) (hv : RatAt K H v r) : DtAt K H d n m → ∃ H', DPut H d (.str x) v H' ∧ DtAt K H' d (n + 1) (m.put x r) ∧ (∀ G : Hp, Same G H → G d = none → Same G H') ∧ ∃ k k', H d = some (.dK k) ∧ H' = upd H d (.dK k') := fun ⟨kvs, h, l, q⟩ => by
  have few : kvs.length < sizeLine := Nat.lt_of_le_of_lt l (Nat.lt_trans hn (by decide))
  refine ⟨_, DPut.k (k := Sum.inr x) h few, ⟨_, upd_same, ?_, (q.put hv).dict h⟩, fun G s g => same_but s g, ⟨_, _, h, rfl⟩⟩
  have := length_putK kvs (Sum.inr x) v
  omega
end
/-! ### circuits -/
def ratF (f : Int × Int) : Rat := mkRat f.1 f.2.natAbs
theorem ratF_parts {f : Int × Int} (h : FrOk f) : (ratF f).num = f.1 ∧ ((ratF f).den : Int) = f.2 := by
  obtain ⟨a, b⟩ := f
  obtain ⟨h0, h1, _⟩ := h
  have h0 : 0 < b := h0
  have h1 : Int.gcd a b = 1 := h1
  have e : mkRat a b.natAbs = Rat.mk' a b.natAbs (by omega) (by rw [Nat.Coprime]; exact h1) := by
    refine (Rat.mk_eq_mkRat a b.natAbs (by omega) (by rw [Nat.Coprime]; exact h1)).symm
  unfold ratF
  dsimp only
  rw [e]
  refine ⟨rfl, ?_⟩
  show ((b.natAbs : Nat) : Int) = b
  omega
theorem FrAt.rat {K : PySem.W.Frag} {H : Hp} {v : V} {f : Int × Int} (h : FrOk f) : FrAt K H v f → RatAt K H v (ratF f) := fun ⟨t, e, q⟩ => by
  obtain ⟨e1, e2⟩ := ratF_parts h
  refine ⟨t, e, ?_⟩
  rw [e1, e2]
  exact q
theorem ratF_fit {f : Int × Int} (h : FrOk f) : FitR 1000 (ratF f) := by
  obtain ⟨e1, e2⟩ := ratF_parts h
  obtain ⟨_, _, h3, h4⟩ := h
  refine ⟨by rw [e1]; exact h3, ?_⟩
  have : (ratF f).den = f.2.natAbs := by omega
  rw [this]
  exact h4
theorem FitR.more {n m : Nat} {r : Rat} (l : n ≤ m) (h : FitR n r) : FitR m r := ⟨Nat.lt_of_lt_of_le h.1 (Nat.pow_le_pow_right (by decide) l), Nat.lt_of_lt_of_le h.2 (Nat.pow_le_pow_right (by decide) l)⟩
/-- a circuit's object; its parts' tuple has no dict of its own -/
def CircN (K : PySem.W.Frag) (C : Addr) (H : Hp) (v : V) (o : Own) : Prop := ∃ (c dx : Addr) (fs : List (Str × V)) (ts tp tj : Addr) (us vs ws : List V), v = .ref c ∧ H c = some (.ins C dx fs) ∧ fs.lookup ("text" : Str) = some (.str (textOf o)) ∧ fs.lookup ("sources" : Str) = some (.ref ts) ∧
  fs.lookup ("parts" : Str) = some (.ref tp) ∧ fs.lookup ("joinings" : Str) = some (.ref tj) ∧ SqT K H ts us ∧ TupN H tp vs ∧ SqT K H tj ws ∧ Paired (EntAt K H) us o.sources ∧ Paired (EntAt K H) vs o.parts ∧ Paired (JoTAt K H) ws o.joinings
section
variable {K : PySem.W.Frag} {C : Addr} {H H' : Hp} {v : V} {o : Own}
theorem CircN.same (s : Same H H') : CircN K C H v o → CircN K C H' v o := fun ⟨c, dx, fs, ts, tp, tj, us, vs, ws, a, b, f1, f2, f3, f4, q1, q2, q3, r1, r2, r3⟩ =>
  ⟨c, dx, fs, ts, tp, tj, us, vs, ws, a, s _ _ b, f1, f2, f3, f4, SqT.same s q1, q2.same s, SqT.same s q3, r1.mono fun _ _ h => h.same s, r2.mono fun _ _ h => h.same s, r3.mono fun _ _ h => h.same s⟩
theorem CircN.src (h : CircN K C H v o) : ∃ c dx fs t us, v = .ref c ∧ H c = some (.ins C dx fs) ∧ fs.lookup ("sources" : Str) = some (.ref t) ∧ SqT K H t us ∧ Paired (EntAt K H) us o.sources := by
  obtain ⟨c, dx, fs, ts, tp, tj, us, vs, ws, a, b, f1, f2, f3, f4, q1, q2, q3, r1, r2, r3⟩ := h
  exact ⟨c, dx, fs, ts, us, a, b, f2, q1, r1⟩
theorem CircN.prt (h : CircN K C H v o) : ∃ c dx fs t us, v = .ref c ∧ H c = some (.ins C dx fs) ∧ fs.lookup ("parts" : Str) = some (.ref t) ∧ TupN H t us ∧ Paired (EntAt K H) us o.parts := by
  obtain ⟨c, dx, fs, ts, tp, tj, us, vs, ws, a, b, f1, f2, f3, f4, q1, q2, q3, r1, r2, r3⟩ := h
  exact ⟨c, dx, fs, tp, vs, a, b, f3, q2, r2⟩
theorem CircN.joi (h : CircN K C H v o) : ∃ c dx fs t us, v = .ref c ∧ H c = some (.ins C dx fs) ∧ fs.lookup ("joinings" : Str) = some (.ref t) ∧ SqT K H t us ∧ Paired (JoTAt K H) us o.joinings := by
  obtain ⟨c, dx, fs, ts, tp, tj, us, vs, ws, a, b, f1, f2, f3, f4, q1, q2, q3, r1, r2, r3⟩ := h
  exact ⟨c, dx, fs, tj, ws, a, b, f4, q3, r3⟩
end
/-- ties, as they lie in a tuple -/
def TiesAt (K : PySem.W.Frag) (H : Hp) (v : V) (ties : List (Str × Str × Str)) : Prop := ∃ a xs, v = .ref a ∧ SqT K H a xs ∧ Paired (TieAt K H) xs ties
theorem TiesAt.same {K : PySem.W.Frag} {H H' : Hp} (s : Same H H') {v : V} {ties : List (Str × Str × Str)} : TiesAt K H v ties → TiesAt K H' v ties := fun ⟨a, xs, e, h, p⟩ => ⟨a, xs, e, SqT.same s h, p.mono fun _ _ h => h.same s⟩
def spIsRow (K : PySem.W.Frag) (C : Addr) : Sp := fun vs H Q _ => ∃ (v u : V) (o : Own) (rs : List Rat), vs = [v, u] ∧ CircN K C H v o ∧ OwnOk o ∧ RatsAt K H u rs ∧ rs.length = o.parts.length ∧ ∀ H', Same H H' → Q (.bl true) H'
def spCheckRow (K : PySem.W.Frag) (C : Addr) : Sp := fun vs H Q _ => ∃ (v u : V) (o : Own) (rs : List Rat), vs = [v, u] ∧ CircN K C H v o ∧ OwnOk o ∧ RatsAt K H u rs ∧ rs.length = o.parts.length ∧ ∀ H', Same H H' → Q .non H'
def spCheckJoi (K : PySem.W.Frag) (C : Addr) : Sp := fun vs H Q _ => ∃ (v : V) (o : Own) (x : Str), vs = [v, .str x] ∧ CircN K C H v o ∧ OwnOk o ∧ x ∈ o.joinings.map (·.1) ∧ ∀ H', Same H H' → Q .non H'
def spTiesOf (K : PySem.W.Frag) (C : Addr) : Sp := fun vs H Q _ => ∃ (v : V) (o : Own) (x : Str) (ties : List (Str × Str × Str)), vs = [v, .str x] ∧ CircN K C H v o ∧ OwnOk o ∧ (x, ties) ∈ o.joinings ∧ ∀ v' H', Same H H' → TiesAt K H' v' ties → Q v' H'
section
variable {P : Program} {w : World} {K : PySem.W.Frag} {mg : Str → Option Value} {base : Heap} {C : Addr}
end
end Ct

/-! A circuit made; its parts' tuple has no dict of its own. -/
namespace Ct
open PySem PySem.Spec PyProof.Rows L2 TL
def spInitN (K : PySem.W.Frag) (C : Addr) : Sp := fun vs H Q _ => ∃ (H0 : Hp) (x dx : Addr) (o : Own), vs = [.ref x, .str (textOf o)] ∧ Same H0 H ∧ H0 x = none ∧ H x = some (.ins C dx []) ∧ OwnOk o ∧ ∀ H', Same H0 H' → CircN K C H' (.ref x) o → Q .non H'
section
variable {P : Program} {w : World} {K : PySem.W.Frag} {mg : Str → Option Value} {base : Heap}
theorem k_initN {f C : Addr} {fd : FuncData} (F : Fun K "__init__" "Circuit.__init__" s_Circuit_init f fd) (Z : ClassT K mg C) (T : Plain mg) (G_read_lines : Keeps P w K mg base 6 "_read_lines" ["lines"] (spReadLines K)) : FnOk P w K mg base CX0 7 f fd ["self", "text"] (spInitN K C) := by
  refine F.ok sc_Circuit_init (fun vs H Q E h => ?_) (fun cdv A outer s0 H vs Q E hr h => ?_)
  · obtain ⟨H0, x, dx, o, rfl, _⟩ := h
    rfl
  · obtain ⟨H0, x, dx, o, rfl, s00, x0, hx, ok, k⟩ := h
    refine ⟨_, (pss_cons (ps_if (pt_not (pt_val (pe_callB call_isi (by rfl) T.n_isinstance b_isinstance (pa_cons (pv 1) (pa_cons (pe_bltn (v := .ty "str") (by rfl) T.n_str b_str rfl) pa_nil)))))
        (pss_one (ps_never))
        pss_nil)
      (pss_cons (ps_asg (pe_go G_read_lines (hr.mono (by decide)) rfl (pa_cons (pe_split (pv 1) pe_str) pa_nil)) (pg_tup rfl (pgs_cons (pg_name (i := 2) sc_Circuit_init.nd rfl (Or.inl rfl)) (pgs_cons (pg_name (i := 3) sc_Circuit_init.nd rfl (Or.inl rfl)) (pgs_cons (pg_name (i := 4) sc_Circuit_init.nd rfl (Or.inl rfl)) pgs_nil)))))
      (pss_cons (ps_fld (pv 0) (pv 1) rfl)
      (pss_cons (ps_fld (pv 0) (pe_callTy call_tuple_of (by rfl) T.n_tuple b_tuple (pa_cons (pv 2) pa_nil)) rfl)
      (pss_cons (ps_fld (pv 0) (pe_callTy call_tupleN (by rfl) T.n_tuple b_tuple (pa_cons (pv 3) pa_nil)) rfl)
      (pss_one (ps_fld (pv 0) (pe_callTy call_tuple_of (by rfl) T.n_tuple b_tuple (pa_cons (pe_lc (own := [("name", 5), ("ties", 6)]) (g := gTup K 2 (gCons (gName 5) (gCons (gName 6) gNil))) (tt := tYes) rfl sc_Circuit_init.nd (pi_list (pv 4)) (blkOk_by (N := N_Circuit_init) (sc := defScope s_Circuit_init) (by decide +kernel)) (fun _ _ _ _ _ => pg_tup rfl (pgs_cons (pg_name (i := 5) sc_Circuit_init.nd rfl (Or.inl rfl)) (pgs_cons (pg_name (i := 6) sc_Circuit_init.nd rfl (Or.inl rfl)) pgs_nil))) (fun _ _ _ _ _ => pts_nil) (fun _ _ _ _ _ => by exact (pe_tup (pa_cons (pv 5) (pa_cons (pe_tupleK (K := K) rfl rfl T.n_tuple (pa_cons (pv 6) pa_nil)) pa_nil))))) pa_nil)) rfl))))))), ?_⟩
    refine ⟨_, rfl, _, _, _, _, true, rfl, .ty _, .base (.str _), kit_ty (by decide +kernel), true, rfl, iteF ?_⟩
    refine ⟨_, rfl, ⟨_, rfl⟩, _, _, rfl, rfl, by rw [nl_len]; rfl, text_len ok, fun q nq => ?_⟩
    rw [text_split ok, rows_lines]
    have sq := same_upd (o := .lst ((("circuit" : Str) :: (linesOf o).map Line.text).map V.str)) nq
    refine ⟨q, linesOf o, rfl, SqL.of upd_same, fits_lines ok, lines_few ok, line_short ok, ?_, fun t s p j G1 H1 sG ac ht => ?_⟩
    · rw [fold_lines]
      intro z
      have := ok.j_some
      rw [z] at this
      exact absurd this (by decide)
    rw [fold_lines] at ac
    have s01 : Same H H1 := sq.trans (sG.trans ac.sub)
    have hx1 := s01 _ _ hx
    obtain ⟨vS, hS, pS⟩ := ac.src
    obtain ⟨vP, hP, pP⟩ := ac.prt
    obtain ⟨vJ, hJ, pJ⟩ := ac.jr
    have pS1 : Paired (EntAt K H1) vS o.sources := pS.mono fun _ _ h => h.same ac.sub
    have pP1 : Paired (EntAt K H1) vP o.parts := pP.mono fun _ _ h => h.same ac.sub
    have z01 : Same H0 H1 := s00.trans s01
    refine ⟨t, _, rfl, SqT.of ht, rfl, _, _, rfl, _, _, rfl, _, _, rfl, ⟨rfl, ?_⟩⟩
    -- self.text
    refine ⟨_, rfl, _, rfl, x, C, dx, [], rfl, hx1, Z.cl, Z.nT, by show 0 < 1000; decide, ?_⟩
    generalize hf1 : putF "text" (V.str (textOf o)) [] = f1
    have x2 : (upd H1 x (.ins C dx f1)) x = some (.ins C dx f1) := upd_same
    have z2 : Same H0 (upd H1 x (.ins C dx f1)) := same_but z01 x0
    have S2 : Paired (EntAt K (upd H1 x (.ins C dx f1))) vS o.sources := pS1.mono fun _ _ h => h.ins hx1
    have P2 : Paired (EntAt K (upd H1 x (.ins C dx f1))) vP o.parts := pP1.mono fun _ _ h => h.ins hx1
    have J2 : Paired (JrAt K (upd H1 x (.ins C dx f1))) vJ o.joinings := pJ.mono fun _ _ h => h.ins hx1
    have nx : ∀ {l : Addr} {tv : List V}, H1 l = some (.lst tv) → l ≠ x := fun h => ne_of h hx1 (by intro z; cases z)
    have hS2 : (upd H1 x (.ins C dx f1)) s = some (.lst vS) := (upd_ne (nx hS)).trans hS
    have hP2 : (upd H1 x (.ins C dx f1)) p = some (.lst vP) := (upd_ne (nx hP)).trans hP
    have hJ2 : (upd H1 x (.ins C dx f1)) j = some (.lst vJ) := (upd_ne (nx hJ)).trans hJ
    generalize upd H1 x (.ins C dx f1) = H2 at *
    -- self.sources
    refine ⟨_, rfl, s, _, rfl, .inl ⟨SqL.of hS2, fun ts nts => ?_⟩⟩
    have s3 := same_upd (o := .tup vS) nts
    have x3 := s3 _ _ x2
    refine ⟨_, rfl, x, C, dx, f1, rfl, x3, Z.cl, Z.nS, by rw [← hf1]; show 1 < 1000; decide, ?_⟩
    have q3 : (upd H2 ts (.tup vS)) ts = some (.tup vS) := upd_same
    generalize hf2 : putF "sources" (V.ref ts) f1 = f2
    have z4 : Same H0 (upd (upd H2 ts (.tup vS)) x (.ins C dx f2)) := same_but (z2.trans s3) x0
    have x4 : (upd (upd H2 ts (.tup vS)) x (.ins C dx f2)) x = some (.ins C dx f2) := upd_same
    have Q4 : SqT K (upd (upd H2 ts (.tup vS)) x (.ins C dx f2)) ts vS := SqT.ins x3 (SqT.of q3)
    have S4 : Paired (EntAt K (upd (upd H2 ts (.tup vS)) x (.ins C dx f2))) vS o.sources := S2.mono fun _ _ h => (h.same s3).ins x3
    have P4 : Paired (EntAt K (upd (upd H2 ts (.tup vS)) x (.ins C dx f2))) vP o.parts := P2.mono fun _ _ h => (h.same s3).ins x3
    have J4 : Paired (JrAt K (upd (upd H2 ts (.tup vS)) x (.ins C dx f2))) vJ o.joinings := J2.mono fun _ _ h => (h.same s3).ins x3
    have nx4 : ∀ {l : Addr} {tv : List V}, H2 l = some (.lst tv) → l ≠ x := fun h => ne_of h x2 (by intro z; cases z)
    have hP4 : (upd (upd H2 ts (.tup vS)) x (.ins C dx f2)) p = some (.lst vP) := (upd_ne (nx4 hP2)).trans (s3 _ _ hP2)
    have hJ4 : (upd (upd H2 ts (.tup vS)) x (.ins C dx f2)) j = some (.lst vJ) := (upd_ne (nx4 hJ2)).trans (s3 _ _ hJ2)
    generalize upd (upd H2 ts (.tup vS)) x (.ins C dx f2) = H4 at *
    -- self.parts
    refine ⟨_, rfl, p, _, rfl, SqL.of hP4, fun tp od ntp odn odc => ?_⟩
    have s5 := same_upd (o := .frz od (.tup vP)) ntp
    have x5 := s5 _ _ x4
    refine ⟨_, rfl, x, C, dx, f2, rfl, x5, Z.cl, Z.nP, by rw [← hf2, ← hf1]; exact few2 _ _, ?_⟩
    have q5 : (upd H4 tp (.frz od (.tup vP))) tp = some (.frz od (.tup vP)) := upd_same
    have tpx : tp ≠ x := fun z => by rw [z, x4] at ntp; cases ntp
    generalize hf3 : putF "parts" (V.ref tp) f2 = f3
    have z6 : Same H0 (upd (upd H4 tp (.frz od (.tup vP))) x (.ins C dx f3)) := same_but (z4.trans s5) x0
    have x6 : (upd (upd H4 tp (.frz od (.tup vP))) x (.ins C dx f3)) x = some (.ins C dx f3) := upd_same
    have Q6 : SqT K (upd (upd H4 tp (.frz od (.tup vP))) x (.ins C dx f3)) ts vS := SqT.ins x5 (SqT.same s5 Q4)
    have R6 : (upd (upd H4 tp (.frz od (.tup vP))) x (.ins C dx f3)) tp = some (.frz od (.tup vP)) := (upd_ne tpx).trans q5
    have S6 : Paired (EntAt K (upd (upd H4 tp (.frz od (.tup vP))) x (.ins C dx f3))) vS o.sources := S4.mono fun _ _ h => (h.same s5).ins x5
    have P6 : Paired (EntAt K (upd (upd H4 tp (.frz od (.tup vP))) x (.ins C dx f3))) vP o.parts := P4.mono fun _ _ h => (h.same s5).ins x5
    have J6 : Paired (JrAt K (upd (upd H4 tp (.frz od (.tup vP))) x (.ins C dx f3))) vJ o.joinings := J4.mono fun _ _ h => (h.same s5).ins x5
    have nx6 : ∀ {l : Addr} {tv : List V}, H4 l = some (.lst tv) → l ≠ x := fun h => ne_of h x4 (by intro z; cases z)
    have hJ6 : (upd (upd H4 tp (.frz od (.tup vP))) x (.ins C dx f3)) j = some (.lst vJ) := (upd_ne (nx6 hJ4)).trans (s5 _ _ hJ4)
    generalize upd (upd H4 tp (.frz od (.tup vP))) x (.ins C dx f3) = H6 at *
    -- self.joinings
    dsimp only
    refine into_fld (into_cb (into_args1 (comp_pure (f := fun e : Str × List (Str × Str × Str) => e) (R := JrAt K H6) (R' := fun H' => JoTAt K H') (fun R r => ⟨_, rfl, r⟩) (SqL.of hJ6) J6 ?_ (fun s _ _ h => h.same s) (fun _ hD _ _ h => h.list hD) (fun v e Hi W r he si hz => ?_) (fun H7 D acc hD s7 hL hp => ?_))))
    · rw [J6.length]
      exact Nat.lt_of_le_of_lt ok.j_few (by decide)
    · obtain ⟨t, l, tv, rfl, ht, hl, ties⟩ := r
      refine ⟨t, _, rfl, SqT.same si ht, rfl, _, _, rfl, _, _, rfl, ⟨rfl, rfl, ?_⟩⟩
      refine ⟨_, rfl, _, rfl, l, tv, rfl, .inl ⟨Same.seq si hl, fun l2 nl2 => ⟨by show 2 ≤ sizeLine; decide, fun t2 nt2 => ?_⟩⟩⟩
      have sa := same_upd (o := .tup tv) nl2
      have sb := same_upd (o := .tup [V.str e.1, V.ref l2]) nt2
      exact hz _ _ (sa.trans sb) ⟨t2, l2, tv, rfl, SqT.of upd_same, SqT.of (sb _ _ upd_same), ties.mono fun _ _ h => h.same (si.trans (sa.trans sb))⟩
    · rw [List.map_id'] at hp
      refine ⟨D, _, rfl, .inl ⟨SqL.of hL, fun tj ntj => ?_⟩⟩
      have s8 := same_upd (o := .tup acc) ntj
      have x8 := s8 _ _ (s7 _ _ x6)
      refine ⟨_, rfl, x, C, dx, f3, rfl, x8, Z.cl, Z.nJ, by rw [← hf3, ← hf2, ← hf1]; exact few3 _ _ _, ?_⟩
      have s68 := s7.trans s8
      refine k _ (same_but (z6.trans s68) x0) ⟨x, dx, _, ts, tp, tj, vS, vP, acc, rfl, upd_same, ?_, ?_, ?_, ?_, SqT.ins x8 (SqT.same s68 Q6), ⟨od, (upd_ne tpx).trans (s68 _ _ R6), odn, odc⟩, SqT.ins x8 (SqT.of upd_same), S6.mono fun _ _ h => (h.same s68).ins x8, P6.mono fun _ _ h => (h.same s68).ins x8, hp.mono fun _ _ h => (h.same s8).ins x8⟩
      all_goals rw [← hf3, ← hf2, ← hf1]
      all_goals simp only [lookup_putF]
      · simp [f_ts, f_tp, f_tj]
      · simp [f_sp, f_sj]
      · simp [f_pj]
      · simp
end
end Ct

/-! The elimination on plain lists: widths and sizes. -/
namespace Ct
theorem least_len (ns : List Int) : (leastL ns).length = ns.length := by
  unfold leastL
  split
  · rfl
  · rw [List.length_map]
theorem wo_len {p r : List Int} {c wd : Nat} (hp : p.length = wd) (hr : r.length = wd) : (wo p c r).length = wd := by
  unfold wo withoutL
  split
  · exact hr
  · rw [least_len]
    unfold crossL
    rw [List.length_zipWith, hp, hr, Nat.min_self]
def Below (B : Nat) (ns : List Int) : Prop := ∀ n ∈ ns, n.natAbs < 2 ^ B
theorem Below.more {B C : Nat} {ns : List Int} (h : Below B ns) (l : B ≤ C) : Below C ns := fun n hn => Nat.lt_of_lt_of_le (h n hn) (Nat.pow_le_pow_right (by decide) l)
theorem least_below {B : Nat} {ns : List Int} (h : Below B ns) : Below B (leastL ns) := by
  unfold leastL
  split
  · exact h
  · rename_i h2
    intro n hn
    obtain ⟨m, hm, rfl⟩ := List.mem_map.mp hn
    have d := gcdL_dvd hm
    rw [Int.fdiv_eq_ediv_of_dvd d]
    exact Nat.lt_of_le_of_lt (Int.natAbs_ediv_le_natAbs m _) (h m hm)
theorem idx_mem {r : List Int} {c : Nat} {B : Nat} (h : Below B r) : (idx r c).natAbs < 2 ^ B := by
  unfold idx
  cases q : r[c]? with
  | none => exact Nat.pow_pos (by decide)
  | some x => exact h x (List.mem_of_getElem? q)
theorem cross_below {B : Nat} {own its : Int} {ns ps : List Int} (ho : own.natAbs < 2 ^ B) (hi : its.natAbs < 2 ^ B) (hn : Below B ns) (hp : Below B ps) : Below (2 * B + 1) (crossL own its ns ps) := by
  intro n h
  obtain ⟨x, y, hx, hy, rfl⟩ : ∃ x y, x ∈ ns ∧ y ∈ ps ∧ n = x * its - y * own := by
    unfold crossL at h
    obtain ⟨j, hj, e⟩ := List.mem_iff_getElem.mp h
    rw [List.getElem_zipWith] at e
    exact ⟨_, _, List.getElem_mem _, List.getElem_mem _, e.symm⟩
  have h1 : x.natAbs * its.natAbs < 2 ^ B * 2 ^ B := Nat.mul_lt_mul'' (hn x hx) hi
  have h2 : y.natAbs * own.natAbs < 2 ^ B * 2 ^ B := Nat.mul_lt_mul'' (hp y hy) ho
  have h3 : (x * its - y * own).natAbs ≤ x.natAbs * its.natAbs + y.natAbs * own.natAbs := by
    rw [← Int.natAbs_mul, ← Int.natAbs_mul]
    exact Int.natAbs_sub_le _ _
  have e : 2 ^ (2 * B + 1) = 2 ^ B * 2 ^ B + 2 ^ B * 2 ^ B := by
    rw [Nat.pow_succ, Nat.two_mul, Nat.pow_add, Nat.mul_two]
  rw [e]
  omega
theorem wo_below {B : Nat} {p r : List Int} {c : Nat} (hp : Below B p) (hr : Below B r) : Below (2 * B + 1) (wo p c r) := by
  unfold wo withoutL
  split
  · exact hr.more (by omega)
  · exact least_below (cross_below (idx_mem hr) (idx_mem hp) hr hp)
/-- each row as wide, each number below 2^B -/
def Ok (wd B : Nat) (rows : Rowss) : Prop := ∀ r ∈ rows, r.length = wd ∧ Below B r
theorem step_ok {wd B c : Nat} {st : Rowss × Rowss} (h1 : Ok wd B st.1) (h2 : Ok wd B st.2) : Ok wd (2 * B + 1) (stepL c st).1 ∧ Ok wd (2 * B + 1) (stepL c st).2 ∧ (stepL c st).1.length = st.1.length ∧ (stepL c st).2.length ≤ st.2.length + 1 := by
  unfold stepL
  split
  · exact ⟨fun r hr => ⟨(h1 r hr).1, (h1 r hr).2.more (by omega)⟩, fun r hr => ⟨(h2 r hr).1, (h2 r hr).2.more (by omega)⟩, rfl, Nat.le_succ _⟩
  · rename_i p ps e
    have hp : p ∈ st.1 := (List.mem_filter.mp (show p ∈ leadL c st.1 by rw [e]; exact List.mem_cons_self)).1
    refine ⟨fun r hr => ?_, fun r hr => ?_, ?_, ?_⟩
    · obtain ⟨q, hq, rfl⟩ := List.mem_map.mp hr
      exact ⟨wo_len (h1 p hp).1 (h1 q hq).1, wo_below (h1 p hp).2 (h1 q hq).2⟩
    · rcases List.mem_append.mp hr with hr | hr
      · obtain ⟨q, hq, rfl⟩ := List.mem_map.mp hr
        exact ⟨wo_len (h1 p hp).1 (h2 q hq).1, wo_below (h1 p hp).2 (h2 q hq).2⟩
      · obtain rfl := List.mem_singleton.mp hr
        exact ⟨(h1 _ hp).1, (h1 _ hp).2.more (by omega)⟩
    · rw [List.length_map]
    · rw [List.length_append, List.length_map]
      exact Nat.le_refl _
/-- n columns on: the bits doubled and one more, n times -/
def bitsAt (B : Nat) : Nat → Nat
  | 0 => B
  | n + 1 => 2 * bitsAt B n + 1
theorem elim_ok {wd B : Nat} {rows : Rowss} (h : Ok wd B rows) : ∀ n, Ok wd (bitsAt B n) (elimL n rows).1 ∧ Ok wd (bitsAt B n) (elimL n rows).2 ∧ (elimL n rows).1.length = rows.length ∧ (elimL n rows).2.length ≤ n
  | 0 => ⟨h, (fun _ hr => nomatch hr), rfl, Nat.le_refl _⟩
  | n + 1 => by
    obtain ⟨a, b, c, d⟩ := elim_ok h n
    obtain ⟨a', b', c', d'⟩ := step_ok (c := n) a b
    rw [elim_next]
    exact ⟨a', b', c'.trans c, by omega⟩
end Ct

/-! The elimination on plain lists: what each step makes of a row, and that no led row is all noughts. -/
namespace Ct
theorem least_at (ns : List Int) : ∃ g : Int, 0 < g ∧ ∀ j, g * idx (leastL ns) j = idx ns j := by
  unfold leastL
  split
  · exact ⟨1, by decide, fun j => Int.one_mul _⟩
  · rename_i h2
    refine ⟨gcdL ns, by omega, fun j => ?_⟩
    unfold idx
    rw [List.getElem?_map]
    cases q : ns[j]? with
    | none => exact Int.mul_zero _
    | some x =>
      have d := gcdL_dvd (List.mem_of_getElem? q)
      show gcdL ns * x.fdiv (gcdL ns) = x
      rw [Int.fdiv_eq_ediv_of_dvd d]
      exact Int.mul_ediv_cancel' d
theorem cross_at {own its : Int} {r p : List Int} (l : r.length = p.length) (j : Nat) : idx (crossL own its r p) j = idx r j * its - idx p j * own := by
  unfold idx crossL
  rw [List.getElem?_zipWith]
  cases q : r[j]? with
  | none =>
    have : p[j]? = none := by
      rw [List.getElem?_eq_none_iff] at q ⊢
      omega
    rw [this]
    simp
  | some x =>
    cases q2 : p[j]? with
    | none =>
      rw [List.getElem?_eq_none_iff] at q2
      have := (List.getElem?_eq_some_iff.mp q).1
      omega
    | some y => rfl
theorem wo_at {p r : List Int} {c : Nat} (l : r.length = p.length) : ∃ g u v : Int, 0 < g ∧ (idx p c ≠ 0 → u ≠ 0) ∧ u * idx r c = v * idx p c ∧ ∀ j, g * idx (wo p c r) j = u * idx r j - v * idx p j := by
  unfold wo withoutL
  split
  · rename_i h0
    refine ⟨1, 1, 0, by decide, fun _ => by decide, by rw [h0]; simp, fun j => ?_⟩
    simp
  · obtain ⟨g, g0, hg⟩ := least_at (crossL (idx r c) (idx p c) r p)
    refine ⟨g, idx p c, idx r c, g0, fun h => h, Int.mul_comm _ _, fun j => ?_⟩
    rw [hg, cross_at l, Int.mul_comm (idx r j), Int.mul_comm (idx p j)]
theorem wo_zero {p r : List Int} {c : Nat} (l : r.length = p.length) : idx (wo p c r) c = 0 := by
  obtain ⟨g, u, v, g0, _, e, h⟩ := wo_at (c := c) l
  have := h c
  rw [e, Int.sub_self] at this
  rcases Int.mul_eq_zero.mp this with z | z
  · omega
  · exact z
theorem wo_keeps {p r : List Int} {c j : Nat} (l : r.length = p.length) (hp : idx p j = 0) (hr : idx r j = 0) : idx (wo p c r) j = 0 := by
  obtain ⟨g, u, v, g0, _, e, h⟩ := wo_at (c := c) l
  have := h j
  rw [hp, hr, Int.mul_zero, Int.mul_zero, Int.sub_self] at this
  rcases Int.mul_eq_zero.mp this with z | z
  · omega
  · exact z
theorem wo_not {p r : List Int} {c j : Nat} (l : r.length = p.length) (hc : idx p c ≠ 0) (hp : idx p j = 0) (hr : idx r j ≠ 0) : idx (wo p c r) j ≠ 0 := by
  obtain ⟨g, u, v, g0, hu, e, h⟩ := wo_at (c := c) l
  intro z
  have := h j
  rw [hp, z, Int.mul_zero, Int.mul_zero, Int.sub_zero] at this
  rcases Int.mul_eq_zero.mp this.symm with q | q
  · exact hu hc q
  · exact hr q
/-- behind n columns: the waiting rows are 0 there, each led row has one of them that is not 0 -/
structure Led (wd n : Nat) (st : Rowss × Rowss) : Prop where
  len1 : ∀ r ∈ st.1, r.length = wd
  len2 : ∀ r ∈ st.2, r.length = wd
  wait : ∀ r ∈ st.1, ∀ j, j < n → idx r j = 0
  lead : ∀ r ∈ st.2, ∃ j, j < n ∧ idx r j ≠ 0
theorem step_led {wd n : Nat} {st : Rowss × Rowss} (h : Led wd n st) : Led wd (n + 1) (stepL n st) := by
  unfold stepL
  split
  · rename_i e
    refine ⟨h.len1, h.len2, fun r hr j hj => ?_, fun r hr => ?_⟩
    · rcases Nat.lt_succ_iff_lt_or_eq.mp hj with q | rfl
      · exact h.wait r hr j q
      · have : r ∉ leadL j st.1 := by rw [e]; exact fun z => nomatch z
        unfold leadL at this
        rw [List.mem_filter] at this
        cases Decidable.em (idx r j = 0) with
        | inl z => exact z
        | inr z => exact absurd ⟨hr, decide_eq_true z⟩ this
    · obtain ⟨j, a, b⟩ := h.lead r hr
      exact ⟨j, by omega, b⟩
  · rename_i p ps e
    have hp2 := List.mem_filter.mp (show p ∈ leadL n st.1 by rw [e]; exact List.mem_cons_self)
    have hp := hp2.1
    have pn : idx p n ≠ 0 := of_decide_eq_true hp2.2
    have lp := h.len1 p hp
    refine ⟨fun r hr => ?_, fun r hr => ?_, fun r hr j hj => ?_, fun r hr => ?_⟩
    · obtain ⟨q, hq, rfl⟩ := List.mem_map.mp hr
      exact wo_len lp (h.len1 q hq)
    · rcases List.mem_append.mp hr with hr | hr
      · obtain ⟨q, hq, rfl⟩ := List.mem_map.mp hr
        exact wo_len lp (h.len2 q hq)
      · obtain rfl := List.mem_singleton.mp hr
        exact lp
    · obtain ⟨q, hq, rfl⟩ := List.mem_map.mp hr
      have lq : q.length = p.length := (h.len1 q hq).trans lp.symm
      rcases Nat.lt_succ_iff_lt_or_eq.mp hj with z | rfl
      · exact wo_keeps lq (h.wait p hp j z) (h.wait q hq j z)
      · exact wo_zero lq
    · rcases List.mem_append.mp hr with hr | hr
      · obtain ⟨q, hq, rfl⟩ := List.mem_map.mp hr
        obtain ⟨j, a, b⟩ := h.lead q hq
        exact ⟨j, by omega, wo_not ((h.len2 q hq).trans lp.symm) pn (h.wait p hp j a) b⟩
      · obtain rfl := List.mem_singleton.mp hr
        exact ⟨n, Nat.lt_succ_self n, pn⟩
theorem elim_led {wd : Nat} {rows : Rowss} (h : ∀ r ∈ rows, r.length = wd) : ∀ n, Led wd n (elimL n rows)
  | 0 => ⟨h, (fun _ hr => nomatch hr), fun _ _ _ hj => absurd hj (Nat.not_lt_zero _), fun _ hr => nomatch hr⟩
  | n + 1 => by
    rw [elim_next]
    exact step_led (elim_led h n)
theorem first_of {r : List Int} {j : Nat} (h : idx r j ≠ 0) : firstL r ≠ 0 := by
  have hm : idx r j ∈ notNil r := by
    unfold notNil
    refine List.mem_filter.mpr ⟨?_, decide_eq_true h⟩
    unfold idx at h ⊢
    cases q : r[j]? with
    | none => rw [q] at h; exact absurd rfl h
    | some x => exact List.mem_of_getElem? q
  cases q : notNil r with
  | nil => rw [q] at hm; cases hm
  | cons x t =>
    have hx : x ∈ notNil r := by rw [q]; exact List.mem_cons_self
    unfold firstL
    rw [q]
    exact of_decide_eq_true (List.mem_filter.mp hx).2
/-- what the elimination comes across, from the rows' width and size alone -/
theorem elim_good {wd B : Nat} {rows : Rowss} (h : Ok wd B rows) (few : rows.length < 1000000) (pos : 0 < wd) (wide : wd < 1000000) (small : ∀ n, n ≤ wd → bitsAt B n ≤ 4400) : ElimOk wd rows where
  few := few
  pos := pos
  wide := wide
  state := fun n hn => by
    obtain ⟨a, b, c, d⟩ := elim_ok h n
    exact ⟨fun r hr => ⟨(a r hr).1, (a r hr).2.more (small n hn)⟩, fun r hr => ⟨(b r hr).1, (b r hr).2.more (small n hn)⟩, by omega, by omega⟩
  led := fun r hr => by
    obtain ⟨j, _, q⟩ := (elim_led (fun r hr => (h r hr).1) wd).lead r hr
    exact first_of q
end Ct

/-! The elimination on plain lists: the same rows x that all rows bring to 0. -/
namespace Ct
/-- the sum of a row's numbers times x, over the first n places -/
def dot : Nat → (Nat → Int) → (Nat → Rat) → Rat
  | 0, _, _ => 0
  | n + 1, a, x => dot n a x + (a n : Rat) * x n
theorem dot_lin {g u v : Int} {a b c : Nat → Int} {x : Nat → Rat} (h : ∀ j, g * a j = u * b j - v * c j) : ∀ n, (g : Rat) * dot n a x = u * dot n b x - v * dot n c x
  | 0 => by simp [dot]; grind
  | n + 1 => by
    have ih := dot_lin (x := x) h n
    have e : (g : Rat) * (a n : Rat) = (u : Rat) * (b n : Rat) - (v : Rat) * (c n : Rat) := by
      rw [← Rat.intCast_mul, h n, Rat.intCast_sub, Rat.intCast_mul, Rat.intCast_mul]
    show (g : Rat) * (dot n a x + (a n : Rat) * x n) = (u : Rat) * (dot n b x + (b n : Rat) * x n) - (v : Rat) * (dot n c x + (c n : Rat) * x n)
    grind
def Kills (wd : Nat) (x : Nat → Rat) (rows : Rowss) : Prop := ∀ r ∈ rows, dot wd (idx r) x = 0
theorem wo_kills {wd c : Nat} {x : Nat → Rat} {p r : List Int} (l : r.length = p.length) (hc : idx p c ≠ 0) (hp : dot wd (idx p) x = 0) : dot wd (idx (wo p c r)) x = 0 ↔ dot wd (idx r) x = 0 := by
  obtain ⟨g, u, v, g0, hu, _, h⟩ := wo_at (c := c) l
  have e := dot_lin (x := x) h wd
  rw [hp] at e
  have gn : (g : Rat) ≠ 0 := fun z => by
    have := Rat.intCast_eq_zero_iff.mp z
    omega
  have un : (u : Rat) ≠ 0 := fun z => hu hc (Rat.intCast_eq_zero_iff.mp z)
  constructor
  · intro z
    rw [z] at e
    have : (u : Rat) * dot wd (idx r) x = 0 := by grind
    rcases Rat.mul_eq_zero.mp this with q | q
    · exact absurd q un
    · exact q
  · intro z
    rw [z] at e
    have : (g : Rat) * dot wd (idx (wo p c r)) x = 0 := by grind
    rcases Rat.mul_eq_zero.mp this with q | q
    · exact absurd q gn
    · exact q
theorem step_kills {wd n : Nat} {x : Nat → Rat} {st : Rowss × Rowss} (h : Led wd n st) : (Kills wd x (stepL n st).1 ∧ Kills wd x (stepL n st).2) ↔ (Kills wd x st.1 ∧ Kills wd x st.2) := by
  unfold stepL
  split
  · exact Iff.rfl
  · rename_i p ps e
    have hp2 := List.mem_filter.mp (show p ∈ leadL n st.1 by rw [e]; exact List.mem_cons_self)
    have hp := hp2.1
    have pn : idx p n ≠ 0 := of_decide_eq_true hp2.2
    have lp := h.len1 p hp
    constructor
    · rintro ⟨k1, k2⟩
      have kp := k2 p (List.mem_append_right _ (List.mem_singleton.mpr rfl))
      exact ⟨fun r hr => (wo_kills ((h.len1 r hr).trans lp.symm) pn kp).mp (k1 _ (List.mem_map_of_mem hr)), fun r hr => (wo_kills ((h.len2 r hr).trans lp.symm) pn kp).mp (k2 _ (List.mem_append_left _ (List.mem_map_of_mem hr)))⟩
    · rintro ⟨k1, k2⟩
      have kp := k1 p hp
      refine ⟨fun r hr => ?_, fun r hr => ?_⟩
      · obtain ⟨q, hq, rfl⟩ := List.mem_map.mp hr
        exact (wo_kills ((h.len1 q hq).trans lp.symm) pn kp).mpr (k1 q hq)
      · rcases List.mem_append.mp hr with hr | hr
        · obtain ⟨q, hq, rfl⟩ := List.mem_map.mp hr
          exact (wo_kills ((h.len2 q hq).trans lp.symm) pn kp).mpr (k2 q hq)
        · obtain rfl := List.mem_singleton.mp hr
          exact kp
theorem elim_kills {wd : Nat} {x : Nat → Rat} {rows : Rowss} (h : ∀ r ∈ rows, r.length = wd) : ∀ n, (Kills wd x (elimL n rows).1 ∧ Kills wd x (elimL n rows).2) ↔ Kills wd x rows
  | 0 => ⟨fun k => k.1, fun k => ⟨k, fun _ hr => nomatch hr⟩⟩
  | n + 1 => by
    rw [elim_next]
    exact (step_kills (elim_led h n)).trans (elim_kills h n)
theorem dot_nought {a : Nat → Int} {x : Nat → Rat} : ∀ n, (∀ j, j < n → a j = 0) → dot n a x = 0
  | 0, _ => rfl
  | n + 1, h => by
    show dot n a x + (a n : Rat) * x n = 0
    rw [dot_nought n fun j hj => h j (by omega), h n (by omega)]
    grind
/-- the led rows bring to 0 just what all the rows given do -/
theorem elim_same {wd : Nat} {x : Nat → Rat} {rows : Rowss} (h : ∀ r ∈ rows, r.length = wd) : Kills wd x (elimL wd rows).2 ↔ Kills wd x rows := by
  rw [← elim_kills h wd]
  exact ⟨fun k => ⟨fun r hr => dot_nought wd ((elim_led h wd).wait r hr), k⟩, fun k => k.2⟩
end Ct

/-! The elimination on plain lists: where the led rows begin. -/
namespace Ct
open PySem PySem.Spec PyProof.Rows L2 TL
/-- a led row with its place, among all the places -/
def BeginsL (ls : List Nat) (r : List Int) (l : Nat) : Prop := idx r l ≠ 0 ∧ (∀ j, j < l → idx r j = 0) ∧ ∀ m ∈ ls, m ≠ l → idx r m = 0
structure Plainly (n : Nat) (rows : Rowss) (ls : List Nat) : Prop where
  up : ls.Pairwise (· < ·)
  low : ∀ l ∈ ls, l < n
  rows : Paired (BeginsL ls) rows ls
theorem pair_map {α β γ : Type} {R : α → β → Prop} {S : γ → β → Prop} {f : α → γ} : ∀ {xs : List α} {ys : List β}, Paired R xs ys → (∀ x y, x ∈ xs → y ∈ ys → R x y → S (f x) y) → Paired S (xs.map f) ys
  | _, _, .nil, _ => .nil
  | _, _, .cons r t, h => .cons (h _ _ List.mem_cons_self List.mem_cons_self r) (pair_map t fun x y hx hy => h x y (List.mem_cons_of_mem _ hx) (List.mem_cons_of_mem _ hy))
theorem step_plain {wd n : Nat} {st : Rowss × Rowss} {ls : List Nat} (h : Led wd n st) (q : Plainly n st.2 ls) : ∃ ls', Plainly (n + 1) (stepL n st).2 ls' := by
  unfold stepL
  split
  · exact ⟨ls, q.up, fun l hl => Nat.lt_succ_of_lt (q.low l hl), q.rows⟩
  · rename_i p ps e
    have hp2 := List.mem_filter.mp (show p ∈ leadL n st.1 by rw [e]; exact List.mem_cons_self)
    have hp := hp2.1
    have pn : idx p n ≠ 0 := of_decide_eq_true hp2.2
    have lp := h.len1 p hp
    refine ⟨ls ++ [n], ?_, fun l hl => ?_, Paired.snoc (pair_map q.rows fun r l hr hl b => ?_) ?_⟩
    · refine List.pairwise_append.mpr ⟨q.up, List.pairwise_singleton _ _, fun a ha b hb => ?_⟩
      obtain rfl := List.mem_singleton.mp hb
      exact q.low a ha
    · rcases List.mem_append.mp hl with hl | hl
      · exact Nat.lt_succ_of_lt (q.low l hl)
      · obtain rfl := List.mem_singleton.mp hl
        exact Nat.lt_succ_self _
    · have lr := (h.len2 r hr).trans lp.symm
      have ln := q.low l hl
      refine ⟨wo_not lr pn (h.wait p hp l ln) b.1, fun j hj => wo_keeps lr (h.wait p hp j (by omega)) (b.2.1 j hj), fun m hm ne => ?_⟩
      rcases List.mem_append.mp hm with hm | hm
      · exact wo_keeps lr (h.wait p hp m (q.low m hm)) (b.2.2 m hm ne)
      · obtain rfl := List.mem_singleton.mp hm
        exact wo_zero lr
    · refine ⟨pn, fun j hj => h.wait p hp j hj, fun m hm ne => ?_⟩
      rcases List.mem_append.mp hm with hm | hm
      · exact h.wait p hp m (q.low m hm)
      · exact absurd (List.mem_singleton.mp hm) ne
theorem elim_plain {wd : Nat} {rows : Rowss} (h : ∀ r ∈ rows, r.length = wd) : ∀ n, ∃ ls, Plainly n (elimL n rows).2 ls
  | 0 => ⟨[], .nil, (fun _ hl => nomatch hl), .nil⟩
  | n + 1 => by
    obtain ⟨ls, q⟩ := elim_plain h n
    rw [elim_next]
    exact step_plain (elim_led h n) q
end Ct

/-! What the told solution solves, and when there is one. -/
namespace Ct
open PySem PySem.Spec PyProof.Rows L2 TL
def qx (r : List Rat) (j : Nat) : Rat := (r[j]?).getD 0
theorem least_rat (ns : List Int) : ∃ g : Rat, g ≠ 0 ∧ ∀ j, (idx (leastL ns) j : Rat) = g * (idx ns j : Rat) := by
  obtain ⟨g, g0, h⟩ := least_at ns
  have gn : (g : Rat) ≠ 0 := fun z => by
    have := Rat.intCast_eq_zero_iff.mp z
    omega
  refine ⟨(g : Rat)⁻¹, fun z => ?_, fun j => ?_⟩
  · have := Rat.inv_mul_cancel _ gn
    rw [z, Rat.zero_mul] at this
    exact absurd this (by decide)
  rw [← h j, Rat.intCast_mul, ← Rat.mul_assoc, Rat.inv_mul_cancel _ gn, Rat.one_mul]
theorem lcm_acc : ∀ (rs : List Rat) (s : Nat), s ∣ rs.foldl (fun s r => Nat.lcm s r.den) s ∧ ∀ r ∈ rs, r.den ∣ rs.foldl (fun s r => Nat.lcm s r.den) s
  | [], s => ⟨Nat.dvd_refl s, fun _ h => nomatch h⟩
  | r :: rs, s => by
    obtain ⟨a, b⟩ := lcm_acc rs (Nat.lcm s r.den)
    refine ⟨Nat.dvd_trans (Nat.dvd_lcm_left _ _) a, fun x hx => ?_⟩
    rcases List.mem_cons.mp hx with rfl | hx
    · exact Nat.dvd_trans (Nat.dvd_lcm_right _ _) a
    · exact b x hx
theorem lcm_pos : ∀ (rs : List Rat) (s : Nat), 0 < s → 0 < rs.foldl (fun s r => Nat.lcm s r.den) s
  | [], s, h => h
  | r :: rs, s, h => lcm_pos rs _ (Nat.lcm_pos h r.den_pos)
theorem lift_at {s : Nat} {r : Rat} (h : r.den ∣ s) : ((r.num * ((s / r.den : Nat) : Int) : Int) : Rat) = (s : Rat) * r := by
  obtain ⟨m, rfl⟩ := h
  have d0 := r.den_pos
  rw [Nat.mul_div_cancel_left _ d0, Rat.intCast_mul]
  have dn : (r.den : Rat) ≠ 0 := fun z => by
    have := Rat.natCast_eq_zero_iff.mp z
    omega
  have e : (r.num : Rat) = r * (r.den : Rat) := by
    have e0 := Rat.mkRat_self r
    rw [Rat.mkRat_eq_div] at e0
    have q : (r.num : Rat) / (r.den : Rat) * (r.den : Rat) = r.num := Rat.div_mul_cancel dn
    rw [e0] at q
    exact q.symm
  rw [e]
  have c : (((m : Nat) : Int) : Rat) = ((m : Nat) : Rat) := rfl
  have c2 : ((r.den * m : Nat) : Rat) = (r.den : Rat) * (m : Rat) := Rat.natCast_mul _ _
  rw [c2, c]
  grind
theorem cleared_at (rs : List Rat) : ∃ g : Rat, g ≠ 0 ∧ ∀ j, (idx (clearedL rs) j : Rat) = g * qx rs j := by
  obtain ⟨g, gn, h⟩ := least_rat (liftL (lcmL rs) rs)
  have p : 0 < lcmL rs := lcm_pos rs 1 (by decide)
  have pn : ((lcmL rs : Nat) : Rat) ≠ 0 := fun z => by
    have := Rat.natCast_eq_zero_iff.mp z
    omega
  refine ⟨g * (lcmL rs : Rat), fun z => ?_, fun j => ?_⟩
  · rcases Rat.mul_eq_zero.mp z with z | z
    · exact gn z
    · exact pn z
  · unfold clearedL
    rw [h j]
    unfold idx liftL qx
    rw [List.getElem?_map]
    cases e : rs[j]? with
    | none =>
      show g * ((0 : Int) : Rat) = g * _ * 0
      rw [Rat.mul_zero]
      exact Rat.mul_zero _
    | some r =>
      show g * ((r.num * ((lcmL rs / r.den : Nat) : Int) : Int) : Rat) = g * (lcmL rs : Rat) * r
      have dv : r.den ∣ lcmL rs := (lcm_acc rs 1).2 r (List.mem_of_getElem? e)
      rw [lift_at dv, Rat.mul_assoc]
theorem cleared_len (rs : List Rat) : (clearedL rs).length = rs.length := by
  unfold clearedL
  rw [least_len]
  exact List.length_map ..
/-- what holds of the rows and of their sums in multiples holds of all that the elimination makes -/
theorem elim_prop {wd : Nat} {P : (Nat → Rat) → Prop} {rows : Rowss} (hw : ∀ r ∈ rows, r.length = wd) (mem : ∀ r ∈ rows, P fun j => (idx r j : Rat)) (lin : ∀ (a b : Nat → Rat) (u v : Rat), P a → P b → P fun j => u * a j - v * b j) :
    ∀ n, (∀ r ∈ (elimL n rows).1, P fun j => (idx r j : Rat)) ∧ ∀ r ∈ (elimL n rows).2, P fun j => (idx r j : Rat)
  | 0 => ⟨mem, fun _ hr => nomatch hr⟩
  | n + 1 => by
    obtain ⟨i1, i2⟩ := elim_prop hw mem lin n
    have led := elim_led hw n
    rw [elim_next]
    have one : ∀ p r : List Int, r.length = p.length → (P fun j => (idx p j : Rat)) → (P fun j => (idx r j : Rat)) → P fun j => (idx (wo p n r) j : Rat) := by
      intro p r l hp hr
      obtain ⟨g, u, v, g0, _, _, h⟩ := wo_at (c := n) l
      have gn : (g : Rat) ≠ 0 := fun z => by
        have := Rat.intCast_eq_zero_iff.mp z
        omega
      have q := lin _ _ ((g : Rat)⁻¹ * u) ((g : Rat)⁻¹ * v) hr hp
      have e : (fun j => (idx (wo p n r) j : Rat)) = fun j => (g : Rat)⁻¹ * u * (idx r j : Rat) - (g : Rat)⁻¹ * v * (idx p j : Rat) := by
        funext j
        have t : (g : Rat) * (idx (wo p n r) j : Rat) = (u : Rat) * (idx r j : Rat) - (v : Rat) * (idx p j : Rat) := by
          rw [← Rat.intCast_mul, h j, Rat.intCast_sub, Rat.intCast_mul, Rat.intCast_mul]
        have s : (g : Rat)⁻¹ * ((g : Rat) * (idx (wo p n r) j : Rat)) = (idx (wo p n r) j : Rat) := by
          rw [← Rat.mul_assoc, Rat.inv_mul_cancel _ gn, Rat.one_mul]
        rw [← s, t]
        grind
      rw [e]
      exact q
    unfold stepL
    split
    · exact ⟨i1, i2⟩
    · rename_i p ps e
      have hp2 := List.mem_filter.mp (show p ∈ leadL n (elimL n rows).1 by rw [e]; exact List.mem_cons_self)
      have hp := hp2.1
      have lp := led.len1 p hp
      refine ⟨fun r hr => ?_, fun r hr => ?_⟩
      · obtain ⟨q, hq, rfl⟩ := List.mem_map.mp hr
        exact one p q ((led.len1 q hq).trans lp.symm) (i1 p hp) (i1 q hq)
      · rcases List.mem_append.mp hr with hr | hr
        · obtain ⟨q, hq, rfl⟩ := List.mem_map.mp hr
          exact one p q ((led.len2 q hq).trans lp.symm) (i1 p hp) (i2 q hq)
        · obtain rfl := List.mem_singleton.mp hr
          exact i1 _ hp
end Ct

/-! The told numbers solve the rows. -/
namespace Ct
open PySem PySem.Spec PyProof.Rows L2 TL
theorem Paired.at' {α β : Type} {R : α → β → Prop} : ∀ {xs : List α} {ys : List β}, Paired R xs ys → ∀ {i : Nat} {y : β}, ys[i]? = some y → ∃ x, xs[i]? = some x ∧ R x y
  | _, _, .nil, _, _, h => nomatch h
  | _, _, .cons r _, 0, _, h => ⟨_, rfl, by cases h; exact r⟩
  | _, _, .cons _ t, i + 1, _, h => Paired.at' t (i := i) h
theorem idx_cons (a : Int) (r : List Int) (j : Nat) : idx (a :: r) (j + 1) = idx r j := by
  unfold idx
  rw [List.getElem?_cons_succ]
theorem first_begins : ∀ {r : List Int} {l : Nat}, idx r l ≠ 0 → (∀ j, j < l → idx r j = 0) → firstL r = idx r l
  | [], l, h, _ => by
    unfold idx at h
    rw [List.getElem?_nil] at h
    exact absurd rfl h
  | a :: r, 0, h, _ => by
    have h' : a ≠ 0 := h
    unfold firstL notNil
    rw [List.filter_cons_of_pos (p := fun n => decide (n ≠ 0)) (decide_eq_true h')]
    rfl
  | a :: r, l + 1, h, z => by
    have a0 : a = 0 := z 0 (by omega)
    have ih := first_begins (r := r) (l := l) (by rw [← idx_cons a]; exact h) fun j hj => by rw [← idx_cons a]; exact z (j + 1) (by omega)
    rw [idx_cons, ← ih]
    unfold firstL notNil
    rw [List.filter_cons_of_neg (by simp [a0])]
theorem divInt_rat (n : Int) {f : Int} (h : f ≠ 0) : Rat.divInt n f = (n : Rat) / (f : Rat) := Rat.divInt_eq_div n f
theorem cast_ne {f : Int} (h : f ≠ 0) : (f : Rat) ≠ 0 := fun z => h (Rat.intCast_eq_zero_iff.mp z)
theorem div_zero_iff {n f : Int} (h : f ≠ 0) : (n : Rat) / (f : Rat) = 0 ↔ n = 0 := by
  constructor
  · intro z
    have q : (n : Rat) / (f : Rat) * (f : Rat) = n := Rat.div_mul_cancel (cast_ne h)
    rw [z, Rat.zero_mul] at q
    exact Rat.intCast_eq_zero_iff.mp q.symm
  · intro z
    rw [z, Rat.div_def]
    exact Rat.zero_mul _
theorem led_at {r : List Int} {f : Int} (h : f ≠ 0) (j : Nat) : qx (ledL f r) j = (idx r j : Rat) / (f : Rat) := by
  unfold qx ledL idx
  rw [List.getElem?_map]
  cases r[j]? with
  | none =>
    show (0 : Rat) = ((0 : Int) : Rat) / f
    exact ((div_zero_iff h).mpr rfl).symm
  | some n => exact divInt_rat n h
theorem led_len (f : Int) (r : List Int) : (ledL f r).length = r.length := List.length_map ..
theorem led_place {r : List Int} {f : Int} {l : Nat} (h : f ≠ 0) (hl : idx r l ≠ 0) (z : ∀ j, j < l → idx r j = 0) : placeOf (ledL f r) = l := by
  have lt : l < r.length := by
    apply Decidable.byContradiction
    intro n
    apply hl
    unfold idx
    rw [List.getElem?_eq_none (by omega)]
    rfl
  have at_ : ∀ j (hj : j < (ledL f r).length), (ledL f r)[j] = (idx r j : Rat) / (f : Rat) := by
    intro j hj
    have := led_at (r := r) h j
    unfold qx at this
    rw [List.getElem?_eq_getElem hj] at this
    exact this
  unfold placeOf
  refine (List.findIdx_eq (by rw [led_len]; exact lt)).mpr ⟨?_, fun j hj => ?_⟩
  · rw [at_]
    exact decide_eq_true fun q => hl ((div_zero_iff h).mp q)
  · rw [at_, z j hj]
    have : ((0 : Int) : Rat) / (f : Rat) = 0 := (div_zero_iff h).mpr rfl
    rw [this]
    rfl
theorem led_last {r : List Int} {f : Int} {many : Nat} (h : f ≠ 0) (lr : r.length = many + 1) : lastOf (ledL f r) = (idx r many : Rat) / (f : Rat) := by
  unfold lastOf
  rw [List.getLast?_eq_getElem?, led_len, lr, Nat.add_sub_cancel]
  exact led_at h many
theorem sol_off {j : Nat} : ∀ (ps : List (List Rat)) (f : List Rat), (∀ p ∈ ps, placeOf p ≠ j) → (ps.foldl (fun f r => f.set (placeOf r) (lastOf r)) f)[j]? = f[j]?
  | [], _, _ => rfl
  | p :: ps, f, h => by
    show (ps.foldl _ (f.set _ _))[j]? = _
    rw [sol_off ps _ fun q hq => h q (List.mem_cons_of_mem _ hq), List.getElem?_set_ne (h p List.mem_cons_self)]
theorem sol_on : ∀ {ps : List (List Rat)} {ls : List Nat}, Paired (fun p l => placeOf p = l) ps ls → ls.Pairwise (· < ·) → ∀ (f : List Rat), (∀ l ∈ ls, l < f.length) → ∀ {i : Nat} {p : List Rat}, ps[i]? = some p →
    (ps.foldl (fun f r => f.set (placeOf r) (lastOf r)) f)[placeOf p]? = some (lastOf p)
  | _, _, .nil, _, _, _, _, _, h => nomatch h
  | p0 :: ps, l0 :: ls, .cons e t, up, f, lf, i, p, h => by
    rw [List.pairwise_cons] at up
    show (ps.foldl _ (f.set (placeOf p0) (lastOf p0)))[placeOf p]? = _
    cases i with
    | zero =>
      obtain rfl : p0 = p := Option.some.inj h
      rw [sol_off, List.getElem?_set_self (by rw [e]; exact lf l0 List.mem_cons_self)]
      intro q hq
      obtain ⟨i, hi⟩ := List.mem_iff_getElem?.mp hq
      obtain ⟨l, hl, el⟩ := Paired.at t hi
      have := up.1 l (List.mem_of_getElem? hl)
      omega
    | succ i => exact sol_on t up.2 _ (fun l hl => by rw [List.length_set]; exact lf l (List.mem_cons_of_mem _ hl)) h
theorem dot_single {a : Nat → Int} {x : Nat → Rat} {l : Nat} : ∀ n, l < n → (∀ j, j < n → j ≠ l → (a j : Rat) * x j = 0) → dot n a x = (a l : Rat) * x l
  | 0, h, _ => absurd h (Nat.not_lt_zero _)
  | n + 1, h, z => by
    show dot n a x + (a n : Rat) * x n = _
    by_cases e : l = n
    · subst e
      have : ∀ m, m ≤ l → dot m a x = 0 := by
        intro m
        induction m with
        | zero => intro _; rfl
        | succ m ih =>
          intro hm
          show dot m a x + (a m : Rat) * x m = 0
          rw [ih (by omega), z m (by omega) (by omega)]
          exact Rat.zero_add 0
      rw [this l (Nat.le_refl _), Rat.zero_add]
    · rw [dot_single n (by omega) fun j hj ne => z j (by omega) ne, z n (by omega) (fun q => e q.symm), Rat.add_zero]
/-- the told numbers, and -1 behind them -/
def xOf (many : Nat) (f : List Rat) : Nat → Rat := fun j => if j = many then -1 else qx f j
section
variable {many : Nat} {rows : Rowss} (hw : ∀ r ∈ rows, r.length = many + 1)
include hw
theorem plain_pair : ∃ ls, Plainly (many + 1) (elimL (many + 1) rows).2 ls ∧ Paired (fun p l => placeOf p = l) (plainOf (elimL (many + 1) rows).2) ls ∧ (plainOf (elimL (many + 1) rows).2).length = (elimL (many + 1) rows).2.length := by
  obtain ⟨ls, q⟩ := elim_plain hw (many + 1)
  refine ⟨ls, q, ?_, List.length_map ..⟩
  refine pair_map q.rows fun r l _ _ b => ?_
  have fb := first_begins b.1 b.2.1
  exact led_place (by rw [fb]; exact b.1) b.1 b.2.1
theorem sol_kills (hb : ∀ p ∈ plainOf (elimL (many + 1) rows).2, BeginsIn many p) : Kills (many + 1) (xOf many (solL (plainOf (elimL (many + 1) rows).2) many)) rows := by
  obtain ⟨ls, q, pp, ll⟩ := plain_pair hw
  have low : ∀ l ∈ ls, l < many := by
    intro l hl
    obtain ⟨i, hi⟩ := List.mem_iff_getElem?.mp hl
    obtain ⟨p, hp, e⟩ := Ct.Paired.at' pp hi
    rw [← e]
    exact (hb p (List.mem_of_getElem? hp)).1
  rw [← elim_same hw]
  intro r hr
  obtain ⟨i, hi⟩ := List.mem_iff_getElem?.mp hr
  obtain ⟨l, hl, b⟩ := Paired.at q.rows hi
  have lm := low l (List.mem_of_getElem? hl)
  have fb := first_begins b.1 b.2.1
  have fn : firstL r ≠ 0 := by rw [fb]; exact b.1
  have lr := (elim_led hw (many + 1)).len2 r hr
  have hp : (plainOf (elimL (many + 1) rows).2)[i]? = some (ledL (firstL r) r) := by
    unfold plainOf
    rw [List.getElem?_map, hi]
    rfl
  have pl : placeOf (ledL (firstL r) r) = l := led_place fn b.1 b.2.1
  have on := sol_on pp q.up (List.replicate many 0) (fun l hl => by rw [List.length_replicate]; exact low l hl) hp
  rw [pl, led_last fn lr, fb] at on
  have xl : xOf many (solL (plainOf (elimL (many + 1) rows).2) many) l = (idx r many : Rat) / (idx r l : Rat) := by
    unfold xOf qx solL
    rw [if_neg (by omega), on]
    rfl
  have others : ∀ j, j < many → j ≠ l → (idx r j : Rat) * xOf many (solL (plainOf (elimL (many + 1) rows).2) many) j = 0 := by
    intro j hj ne
    by_cases hm : j ∈ ls
    · rw [b.2.2 j hm ne]
      exact Rat.zero_mul _
    · have off : (solL (plainOf (elimL (many + 1) rows).2) many)[j]? = some 0 := by
        unfold solL
        rw [sol_off _ _ fun p hp z => ?_]
        · exact List.getElem?_replicate_of_lt hj
        · obtain ⟨i, hi⟩ := List.mem_iff_getElem?.mp hp
          obtain ⟨l', hl', e⟩ := Paired.at pp hi
          exact hm (by rw [← z, e]; exact List.mem_of_getElem? hl')
      have : xOf many (solL (plainOf (elimL (many + 1) rows).2) many) j = 0 := by
        unfold xOf qx
        rw [if_neg (by omega), off]
        rfl
      rw [this]
      exact Rat.mul_zero _
  show dot many (idx r) _ + (idx r many : Rat) * xOf many _ many = 0
  rw [dot_single many lm others, xl]
  have e1 : xOf many (solL (plainOf (elimL (many + 1) rows).2) many) many = -1 := if_pos rfl
  rw [e1, Rat.mul_comm (idx r l : Rat), Rat.div_mul_cancel (cast_ne b.1)]
  grind
/-- where no sum of the rows is a number alone, all plain rows begin below many -/
theorem begins_by {P : (Nat → Rat) → Prop} (mem : ∀ r ∈ rows, P fun j => (idx r j : Rat)) (lin : ∀ (a b : Nat → Rat) (u v : Rat), P a → P b → P fun j => u * a j - v * b j)
    (no : ∀ v, P v → (∀ j, j < many → v j = 0) → v many = 0) : ∀ p ∈ plainOf (elimL (many + 1) rows).2, BeginsIn many p := by
  obtain ⟨ls, q, pp, ll⟩ := plain_pair hw
  intro p hp
  obtain ⟨r, hr, rfl⟩ := List.mem_map.mp hp
  obtain ⟨i, hi⟩ := List.mem_iff_getElem?.mp hr
  obtain ⟨l, hl, b⟩ := Paired.at q.rows hi
  have fb := first_begins b.1 b.2.1
  have fn : firstL r ≠ 0 := by rw [fb]; exact b.1
  have lr := (elim_led hw (many + 1)).len2 r hr
  have pl : placeOf (ledL (firstL r) r) = l := led_place fn b.1 b.2.1
  have lw := q.low l (List.mem_of_getElem? hl)
  have lm : l ≠ many := by
    intro e
    subst e
    have := no _ ((elim_prop hw mem lin (l + 1)).2 r hr) fun j hj => by
      show (idx r j : Rat) = 0
      rw [b.2.1 j hj]
      rfl
    exact b.1 (Rat.intCast_eq_zero_iff.mp this)
  refine ⟨by rw [pl]; omega, ?_⟩
  rw [pl, led_len, lr]
  exact lw
end
end Ct

/-! Sums over lists; a set of equations of charges has a solution, and tells all differences. -/
namespace Ct
def sm {α : Type} (f : α → Rat) : List α → Rat
  | [] => 0
  | x :: r => f x + sm f r
section
variable {α β : Type}
theorem sm_congr {f g : α → Rat} : ∀ {l : List α}, (∀ x ∈ l, f x = g x) → sm f l = sm g l
  | [], _ => rfl
  | x :: r, h => by
    show f x + sm f r = g x + sm g r
    rw [h x List.mem_cons_self, sm_congr fun y hy => h y (List.mem_cons_of_mem _ hy)]
theorem sm_zero {f : α → Rat} {l : List α} (h : ∀ x ∈ l, f x = 0) : sm f l = 0 := by
  induction l with
  | nil => rfl
  | cons x r ih =>
    show f x + sm f r = 0
    rw [h x List.mem_cons_self, ih fun y hy => h y (List.mem_cons_of_mem _ hy)]
    exact Rat.zero_add 0
theorem sm_add (f g : α → Rat) : ∀ l : List α, sm (fun x => f x + g x) l = sm f l + sm g l
  | [] => (Rat.zero_add 0).symm
  | x :: r => by
    show f x + g x + sm _ r = f x + sm f r + (g x + sm g r)
    rw [sm_add f g r]
    grind
theorem sm_mul (c : Rat) (f : α → Rat) : ∀ l : List α, sm (fun x => c * f x) l = c * sm f l
  | [] => (Rat.mul_zero c).symm
  | x :: r => by
    show c * f x + sm _ r = c * (f x + sm f r)
    rw [sm_mul c f r]
    grind
theorem sm_sub (f g : α → Rat) (l : List α) : sm (fun x => f x - g x) l = sm f l - sm g l := by
  induction l with
  | nil => show (0 : Rat) = 0 - 0; grind
  | cons x r ih =>
    show f x - g x + sm _ r = f x + sm f r - (g x + sm g r)
    rw [ih]
    grind
theorem sm_swap (f : α → β → Rat) (m : List β) : ∀ l : List α, sm (fun x => sm (f x) m) l = sm (fun y => sm (fun x => f x y) l) m
  | [] => (sm_zero fun _ _ => rfl).symm
  | x :: r => by
    show sm (f x) m + sm _ r = _
    rw [sm_swap f m r, ← sm_add]
    rfl
theorem sm_single [DecidableEq α] {a : α} {f : α → Rat} : ∀ {l : List α}, l.Nodup → a ∈ l → sm (fun x => if x = a then f x else 0) l = f a
  | x :: r, nd, h => by
    rw [List.nodup_cons] at nd
    show (if x = a then f x else 0) + sm _ r = f a
    by_cases e : x = a
    · subst e
      have q : sm (fun y => if y = x then f y else 0) r = 0 := sm_zero fun y hy => if_neg fun (z : y = x) => nd.1 (z ▸ hy)
      rw [if_pos rfl, q, Rat.add_zero]
    · rcases List.mem_cons.mp h with z | h
      · exact absurd z.symm e
      · rw [if_neg e, sm_single nd.2 h, Rat.zero_add]
theorem sm_filter (p : α → Bool) (f : α → Rat) : ∀ l : List α, sm f (l.filter p) = sm (fun x => if p x = true then f x else 0) l
  | [] => rfl
  | x :: r => by
    show _ = (if p x = true then f x else 0) + sm _ r
    by_cases h : p x = true
    · rw [List.filter_cons_of_pos h, if_pos h, ← sm_filter p f r]
      rfl
    · rw [List.filter_cons_of_neg h, if_neg h, ← sm_filter p f r, Rat.zero_add]
theorem sum_sm (f : α → Rat) (l : List α) : sumL (l.map f) = sm f l := by
  have h : ∀ (l : List α) (s : Rat), (l.map f).foldl (· + ·) s = s + sm f l := by
    intro l
    induction l with
    | nil => exact fun s => (Rat.add_zero s).symm
    | cons x r ih =>
      intro s
      show (r.map f).foldl (· + ·) (s + f x) = s + (f x + sm f r)
      rw [ih, Rat.add_assoc]
  unfold sumL
  rw [h l 0, Rat.zero_add]
theorem sq_nonneg (a : Rat) : 0 ≤ a * a := by
  rcases Rat.le_total (a := 0) (b := a) with h | h
  · exact Rat.mul_nonneg h h
  · have : 0 ≤ -a := by grind
    have q := Rat.mul_nonneg this this
    have e : -a * -a = a * a := by grind
    rw [e] at q
    exact q
theorem sm_pos {f : α → Rat} : ∀ {l : List α}, (∀ x ∈ l, 0 ≤ f x) → 0 ≤ sm f l
  | [], _ => Rat.le_refl
  | x :: r, h => by
    have a := h x List.mem_cons_self
    have b := sm_pos fun y hy => h y (List.mem_cons_of_mem x hy)
    show 0 ≤ f x + sm f r
    grind
theorem sm_none {f : α → Rat} : ∀ {l : List α}, (∀ x ∈ l, 0 ≤ f x) → sm f l = 0 → ∀ x ∈ l, f x = 0
  | [], _, _ => fun _ h => nomatch h
  | x :: r, h, z => by
    have a := h x List.mem_cons_self
    have hr : ∀ y ∈ r, 0 ≤ f y := fun y hy => h y (List.mem_cons_of_mem _ hy)
    have b := sm_pos hr
    have z : f x + sm f r = 0 := z
    have e1 : f x = 0 := by grind
    have e2 : sm f r = 0 := by grind
    intro y hy
    rcases List.mem_cons.mp hy with rfl | hy
    · exact e1
    · exact sm_none hr e2 y hy
end
/-! ### a net: ties T, places F, how a tie stands to a place -/
section
variable {τ φ : Type} (T : List τ) (F : List φ) (z : τ → φ → Rat) (c : τ → Rat)
def lapA (j k : φ) : Rat := sm (fun t => z t j * (z t k * c t)) T
def lapB (lam : τ → Rat) (j : φ) : Rat := sm (fun t => z t j * lam t) T
/-- the difference that potentials y make at a tie -/
def dif (y : φ → Rat) (t : τ) : Rat := sm (fun j => y j * z t j) F
theorem pull (y : φ → Rat) (g : τ → Rat) : sm (fun j => y j * sm (fun t => z t j * g t) T) F = sm (fun t => g t * dif F z y t) T := by
  have e : ∀ j ∈ F, y j * sm (fun t => z t j * g t) T = sm (fun t => y j * (z t j * g t)) T := fun j _ => (sm_mul _ _ _).symm
  rw [sm_congr e, sm_swap]
  refine sm_congr fun t _ => ?_
  unfold dif
  rw [← sm_mul]
  exact sm_congr fun j _ => by grind
theorem lapA_comm (j k : φ) : lapA T z c j k = lapA T z c k j := sm_congr fun t _ => by grind
theorem lap_zero (hc : ∀ t ∈ T, 0 < c t) {y : φ → Rat} (h : ∀ k ∈ F, sm (fun j => y j * lapA T z c j k) F = 0) : ∀ t ∈ T, dif F z y t = 0 := by
  have e1 : ∀ k, sm (fun j => y j * lapA T z c j k) F = sm (fun t => z t k * (c t * dif F z y t)) T := by
    intro k
    unfold lapA
    rw [pull T F z y fun t => z t k * c t]
    exact sm_congr fun t _ => by grind
  have e2 : sm (fun k => y k * sm (fun t => z t k * (c t * dif F z y t)) T) F = 0 := sm_zero fun k hk => by
    rw [← e1 k, h k hk]
    exact Rat.mul_zero _
  rw [pull T F z y fun t => c t * dif F z y t] at e2
  have nn : ∀ t ∈ T, 0 ≤ c t * dif F z y t * dif F z y t := fun t ht => by
    have q := Rat.mul_nonneg (Rat.le_of_lt (hc t ht)) (sq_nonneg (dif F z y t))
    have e : c t * (dif F z y t * dif F z y t) = c t * dif F z y t * dif F z y t := by grind
    rw [e] at q
    exact q
  intro t ht
  have q := sm_none nn e2 t ht
  have cn : c t ≠ 0 := fun e => by
    have := hc t ht
    rw [e] at this
    exact absurd this (by decide)
  rcases Rat.mul_eq_zero.mp q with q | q
  · rcases Rat.mul_eq_zero.mp q with q | q
    · exact absurd q cn
    · exact q
  · exact q
/-- what comes to 0 at all places draws nothing -/
theorem lap_fit (hc : ∀ t ∈ T, 0 < c t) (lam : τ → Rat) {y : φ → Rat} (h : ∀ k ∈ F, sm (fun j => y j * lapA T z c j k) F = 0) : sm (fun j => y j * lapB T z lam j) F = 0 := by
  unfold lapB
  rw [pull T F z y lam]
  exact sm_zero fun t ht => by
    rw [lap_zero T F z c hc h t ht]
    exact Rat.mul_zero _
/-- two solutions make the same differences -/
theorem lap_once (hc : ∀ t ∈ T, 0 < c t) {b x x' : φ → Rat} (h : ∀ j ∈ F, sm (fun k => x k * lapA T z c j k) F = b j) (h' : ∀ j ∈ F, sm (fun k => x' k * lapA T z c j k) F = b j) : ∀ t ∈ T, dif F z x t = dif F z x' t := by
  have d : ∀ t ∈ T, dif F z (fun k => x k - x' k) t = 0 := lap_zero T F z c hc fun k hk => by
    have e : ∀ j ∈ F, (x j - x' j) * lapA T z c j k = x j * lapA T z c k j - x' j * lapA T z c k j := fun j _ => by
      rw [lapA_comm T z c j k]
      grind
    rw [sm_congr e, sm_sub, h k hk, h' k hk]
    grind
  intro t ht
  have q := d t ht
  have e : dif F z (fun k => x k - x' k) t = dif F z x t - dif F z x' t := by
    unfold dif
    rw [← sm_sub]
    exact sm_congr fun k _ => by grind
  rw [e] at q
  grind
end
end Ct

/-! Junctions and given potentials. -/
namespace Ct
open PySem PySem.Spec PyProof.Rows L2 TL RZ
abbrev Ties := List (Str × Str × Str)
section
variable {K : PySem.W.Frag} {H H' : Hp}
theorem TieAt.dict {D : Addr} {k k' : List (Key × V)} (hD : H D = some (.dK k)) {v : V} {e : Str × Str × Str} : TieAt K H v e → TieAt K (upd H D (.dK k')) v e := fun ⟨t, e, h⟩ => ⟨t, e, SqT.dict hD h⟩
theorem TiesAt.list {D : Addr} {acc acc' : List V} (hD : H D = some (.lst acc)) {v : V} {ties : Ties} : TiesAt K H v ties → TiesAt K (upd H D (.lst acc')) v ties := fun ⟨a, xs, e, h, p⟩ => ⟨a, xs, e, SqT.list hD h, p.mono fun _ _ h => h.list hD⟩
end
theorem only_one {β : Type} {x : Str} {t : β} : ∀ {l : List (Str × β)}, (l.map (·.1)).Nodup → (x, t) ∈ l → l.filter (fun j => decide (j.1 = x)) = [(x, t)]
  | [], _, h => nomatch h
  | j :: r, nd, h => by
    rw [List.map_cons, List.nodup_cons] at nd
    rcases List.mem_cons.mp h with e | h
    · subst e
      rw [List.filter_cons_of_pos (by simp)]
      congr 1
      refine List.filter_eq_nil_iff.mpr fun y hy => ?_
      simp only [decide_eq_true_eq]
      exact fun q => nd.1 (by show x ∈ _; rw [← q]; exact List.mem_map_of_mem (f := (·.1)) hy)
    · have ne : ¬ j.1 = x := fun q => nd.1 (by rw [q]; exact List.mem_map_of_mem (f := (·.1)) h)
      rw [List.filter_cons_of_neg (by simpa using ne)]
      exact only_one nd.2 h
def givenT (o : Own) : Tab := o.sources.foldl (fun m e => m.put e.1 (ratF e.2)) (Tab.no.put "gnd" 0)
def named (ties : Ties) : List Str := ties.flatMap fun t => [t.2.1, t.2.2]
structure FreeOf (o : Own) (ties : Ties) (fl : List Str) : Prop where
  mem : ∀ x, x ∈ fl ↔ x ∈ named ties ∧ givenT o x = none
  once : fl.Nodup
  rise : sortedS fl = true
def spGiven (K : PySem.W.Frag) (C : Addr) : Sp := fun vs H Q _ => ∃ (v : V) (o : Own), vs = [v] ∧ CircN K C H v o ∧ OwnOk o ∧ ∀ d H', Same H H' → H d = none → DtAt K H' d 5 (givenT o) → Q (.ref d) H'
def spFree (K : PySem.W.Frag) (C : Addr) : Sp := fun vs H Q _ => ∃ (v u : V) (o : Own) (ties : Ties), vs = [v, u] ∧ CircN K C H v o ∧ OwnOk o ∧ TiesAt K H u ties ∧ ties.length ≤ 8 ∧
  ∀ l fl H', Same H H' → H l = none → H' l = some (.lst (fl.map V.str)) → FreeOf o ties fl → Q (.ref l) H'
section
variable {P : Program} {w : World} {K : PySem.W.Frag} {mg : Str → Option Value} {base : Heap} {C z : Addr}
end
end Ct

/-! Free junctions: a comprehension of two clauses, a set of texts, sorted. -/
namespace Ct
open PySem PySem.Spec PyProof.Rows L2 TL RZ
section
variable {X : Cx} {K : PySem.W.Frag}
theorem sl_tupK (hK : X.K = K) : SlR X (rSlT K) := by
  subst hK
  exact sl_tup
theorem pi_tupK {tg l : Expr} {tl : TE} (hK : X.K = K) (hl : PE X l tl) : PI X tg l (iTup K tl) := by
  subst hK
  exact pi_tup hl
theorem pi_listK {tg l : Expr} {tl : TE} (hK : X.K = K) (hl : PE X l tl) : PI X tg l (iList K tl) := by
  subst hK
  exact pi_list hl
theorem op_in_seqK (hK : X.K = K) : OpR X (compareOp .In) (rIn K false) := by
  subst hK
  exact op_in_seq
theorem op_notIn_seqK (hK : X.K = K) : OpR X (compareOp .NotIn) (rIn K true) := by
  subst hK
  exact op_notIn_seq
theorem look_relabel {env : Env} {x : Str} : ∀ {names : List (Str × NameKind)}, names.lookup x = some .cell ∨ names.lookup x = some .free →
    (names.map fun (n, k) => if (k == .free && env.scope.kind == .function && env.kindOf n == some .cell) then (n, NameKind.cell) else (n, k)).lookup x = some .cell ∨ (names.map fun (n, k) => if (k == .free && env.scope.kind == .function && env.kindOf n == some .cell) then (n, NameKind.cell) else (n, k)).lookup x = some .free
  | [], h => by simp at h
  | (n, k) :: r, h => by
    rw [List.map_cons]
    by_cases e : x = n
    · subst e
      rw [List.lookup_cons_self] at h
      dsimp only
      split
      · rw [List.lookup_cons_self]
        exact .inl rfl
      · rw [List.lookup_cons_self]
        exact h
    · have ne : (x == n) = false := beq_eq_false_iff_ne.mpr e
      rw [List.lookup_cons, ne] at h
      dsimp only
      split
      · rw [List.lookup_cons, ne]
        exact look_relabel h
      · rw [List.lookup_cons, ne]
        exact look_relabel h
/-- a comprehension's block within another one's -/
theorem blkOk_in {N : List Str} {scO scope : Scope} {env : Env} {own : List (Str × Nat)} (h : BlkOk N scO scope own) : BlkOk N (relabel scO env) scope own :=
  ⟨h.kind, h.uniq, h.ix, fun y hy e => look_relabel (h.free y hy e), h.own⟩
end
section
variable {K : PySem.W.Frag} {J : It} {n : Nat} {G : Hp → Prop} {Y : Nat → Hp → V → Hp → Prop}
theorem yes_of {σ : L2.St} {H : Hp} {A B : Hp → Prop} (h : A H) : tYes σ H fun b H3 => if b = true then A H3 else B H3 := by
  show if true = true then A H else B H
  exact (if_pos rfl).mpr h
/-- the outer clause of two, over any walk; each turn begins the inner one -/
theorem lc2_it (wk : Walk J n G Y) {g : TG} {wi1 : TI} {g1 : TG} {tt1 : TT} {te : TE} {vs vs1 : List Nat} {σ : L2.St} {H1 : Hp} {D : Addr} {Qd : Hp → Prop} (Pv : Nat → Hp → Prop) (h0 : Pv 0 (upd H1 D (.lst []))) (hG : ∀ i H, i ≤ n → Pv i H → G H)
    (hs : ∀ i x H H', i < n → Pv i H → Y i H x H' → g x (wipe σ vs) H' fun σ2 H2 => wipe σ2 vs = wipe σ vs ∧ tYes σ2 H2 fun b H3 =>
      if b = true then wi1 σ2 H3 fun J1 H4 => ∃ W1 : Nat → Nat → Hp → Prop, (∃ m, W1 0 m H4) ∧ ∀ j k H, W1 j k H →
        (J1.stop j H ∧ Pv (i + 1) H) ∨ (J1.go j H ∧ ∃ Nx1 : Hp → Prop, (∀ H', Nx1 H' → ∃ k', k' < k ∧ W1 (j + 1) k' H') ∧ ∀ x H', J1.yld j H x H' → g1 x (wipe σ2 vs1) H' fun σ3 H5 => wipe σ3 vs1 = wipe σ2 vs1 ∧ tt1 σ3 H5 fun b H6 =>
          if b = true then te σ3 H6 fun y H7 => ∃ acc, H7 D = some (.lst acc) ∧ acc.length < sizeLine ∧ Nx1 (upd H7 D (.lst (acc ++ [y]))) else Nx1 H6) else Pv (i + 1) H3) (hd : ∀ H, Pv n H → Qd H) :
    ∃ W : Nat → Nat → Hp → Prop, (∃ m, W 0 m (upd H1 D (.lst []))) ∧ ∀ i m H, W i m H →
      (J.stop i H ∧ Qd H) ∨ (J.go i H ∧ ∃ Nx : Hp → Prop, (∀ H', Nx H' → ∃ m', m' < m ∧ W (i + 1) m' H') ∧ ∀ x H', J.yld i H x H' → g x (wipe σ vs) H' fun σ2 H2 => wipe σ2 vs = wipe σ vs ∧ tYes σ2 H2 fun b H3 =>
        if b = true then wi1 σ2 H3 fun J1 H4 => ∃ W1 : Nat → Nat → Hp → Prop, (∃ m, W1 0 m H4) ∧ ∀ j k H, W1 j k H →
          (J1.stop j H ∧ Nx H) ∨ (J1.go j H ∧ ∃ Nx1 : Hp → Prop, (∀ H', Nx1 H' → ∃ k', k' < k ∧ W1 (j + 1) k' H') ∧ ∀ x H', J1.yld j H x H' → g1 x (wipe σ2 vs1) H' fun σ3 H5 => wipe σ3 vs1 = wipe σ2 vs1 ∧ tt1 σ3 H5 fun b H6 =>
            if b = true then te σ3 H6 fun y H7 => ∃ acc, H7 D = some (.lst acc) ∧ acc.length < sizeLine ∧ Nx1 (upd H7 D (.lst (acc ++ [y]))) else Nx1 H6) else Nx H3) := by
  refine ⟨fun i m H => m = n - i ∧ i ≤ n ∧ Pv i H, ⟨n, rfl, Nat.zero_le _, h0⟩, fun i m H hw => ?_⟩
  obtain ⟨em, hi, p⟩ := hw
  have q := hG i H hi p
  rcases Nat.lt_or_eq_of_le hi with lt | eq
  · refine .inr ⟨wk.goes i H lt q, Pv (i + 1), fun H' p' => ⟨n - (i + 1), by omega, rfl, lt, p'⟩, fun x H' y => hs i x H H' lt p (wk.yields i H x H' lt q y)⟩
  · subst eq
    exact .inl ⟨wk.stops H q, hd H p⟩
/-- the inner clause -/
theorem lc_in (wk : Walk J n G Y) {g1 : TG} {tt1 : TT} {te : TE} {vs1 : List Nat} {σ2 : L2.St} {H4 : Hp} {D : Addr} {Nx : Hp → Prop} (Pv : Nat → Hp → Prop) (h0 : Pv 0 H4) (hG : ∀ i H, i ≤ n → Pv i H → G H)
    (hs : ∀ j x H H', j < n → Pv j H → Y j H x H' → g1 x (wipe σ2 vs1) H' fun σ3 H5 => wipe σ3 vs1 = wipe σ2 vs1 ∧ tt1 σ3 H5 fun b H6 =>
      if b = true then te σ3 H6 fun y H7 => ∃ acc, H7 D = some (.lst acc) ∧ acc.length < sizeLine ∧ Pv (j + 1) (upd H7 D (.lst (acc ++ [y]))) else Pv (j + 1) H6) (hd : ∀ H, Pv n H → Nx H) :
    ∃ W1 : Nat → Nat → Hp → Prop, (∃ m, W1 0 m H4) ∧ ∀ j k H, W1 j k H →
      (J.stop j H ∧ Nx H) ∨ (J.go j H ∧ ∃ Nx1 : Hp → Prop, (∀ H', Nx1 H' → ∃ k', k' < k ∧ W1 (j + 1) k' H') ∧ ∀ x H', J.yld j H x H' → g1 x (wipe σ2 vs1) H' fun σ3 H5 => wipe σ3 vs1 = wipe σ2 vs1 ∧ tt1 σ3 H5 fun b H6 =>
        if b = true then te σ3 H6 fun y H7 => ∃ acc, H7 D = some (.lst acc) ∧ acc.length < sizeLine ∧ Nx1 (upd H7 D (.lst (acc ++ [y]))) else Nx1 H6) := by
  refine ⟨fun i m H => m = n - i ∧ i ≤ n ∧ Pv i H, ⟨n, rfl, Nat.zero_le _, h0⟩, fun i m H hw => ?_⟩
  obtain ⟨em, hi, p⟩ := hw
  have q := hG i H hi p
  rcases Nat.lt_or_eq_of_le hi with lt | eq
  · refine .inr ⟨wk.goes i H lt q, Pv (i + 1), fun H' p' => ⟨n - (i + 1), by omega, rfl, lt, p'⟩, fun x H' y => hs i x H H' lt p (wk.yields i H x H' lt q y)⟩
  · subst eq
    exact .inl ⟨wk.stops H q, hd H p⟩
/-- a set of texts over any walk -/
theorem sc_it (wk : Walk J n G Y) {P : Program} {w : World} {g : TG} {tt : TT} {te : TE} {vs : List Nat} {σ : L2.St} {H1 : Hp} {D : Addr} {Qd : Hp → Prop} (Pv : Nat → Hp → Prop) (h0 : Pv 0 (upd H1 D (TxO P w D []))) (hG : ∀ i H, i ≤ n → Pv i H → G H)
    (hs : ∀ i x H H', i < n → Pv i H → Y i H x H' → g x (wipe σ vs) H' fun σ2 H2 => wipe σ2 vs = wipe σ vs ∧ tt σ2 H2 fun b H3 =>
      if b = true then te σ2 H3 fun y H4 => ∃ (c : Str) (l : List Str), y = .str c ∧ H4 D = some (TxO P w D l) ∧ l.length + 1 < scanBound ∧ Pv (i + 1) (upd H4 D (TxO P w D (addS c l))) else Pv (i + 1) H3) (hd : ∀ H, Pv n H → Qd H) :
    ∃ W : Nat → Nat → Hp → Prop, (∃ m, W 0 m (upd H1 D (TxO P w D []))) ∧ ∀ i m H, W i m H →
      (J.stop i H ∧ Qd H) ∨ (J.go i H ∧ ∃ Nx : Hp → Prop, (∀ H', Nx H' → ∃ m', m' < m ∧ W (i + 1) m' H') ∧ ∀ x H', J.yld i H x H' → g x (wipe σ vs) H' fun σ2 H2 => wipe σ2 vs = wipe σ vs ∧ tt σ2 H2 fun b H3 =>
        if b = true then te σ2 H3 fun y H4 => ∃ (c : Str) (l : List Str), y = .str c ∧ H4 D = some (TxO P w D l) ∧ l.length + 1 < scanBound ∧ Nx (upd H4 D (TxO P w D (addS c l))) else Nx H3) := by
  refine ⟨fun i m H => m = n - i ∧ i ≤ n ∧ Pv i H, ⟨n, rfl, Nat.zero_le _, h0⟩, fun i m H hw => ?_⟩
  obtain ⟨em, hi, p⟩ := hw
  have q := hG i H hi p
  rcases Nat.lt_or_eq_of_le hi with lt | eq
  · refine .inr ⟨wk.goes i H lt q, Pv (i + 1), fun H' p' => ⟨n - (i + 1), by omega, rfl, lt, p'⟩, fun x H' y => hs i x H H' lt p (wk.yields i H x H' lt q y)⟩
  · subst eq
    exact .inl ⟨wk.stops H q, hd H p⟩
end
theorem named_len (ties : Ties) : (named ties).length = 2 * ties.length := by
  induction ties with
  | nil => rfl
  | cons t r ih =>
    show (([t.2.1, t.2.2] : List Str) ++ named r).length = _
    simp only [List.length_append, ih, List.length_cons, List.length_nil]
    omega
theorem named_snoc (l : Ties) (t : Str × Str × Str) : named (l ++ [t]) = named l ++ [t.2.1, t.2.2] := by
  unfold named
  rw [List.flatMap_append]
  rfl
section
variable {P : Program} {w : World} {K : PySem.W.Frag} {mg : Str → Option Value} {base : Heap} {C z : Addr}
end
end Ct

/-! Voltages that potentials give. -/
namespace Ct
open PySem PySem.Spec PyProof.Rows L2 TL RZ
def tiedT (ties : Ties) (m : Tab) : Tab := ties.foldl (fun t e => t.put e.1 (m.at e.2.1 - m.at e.2.2)) Tab.no
/-- both ends of each tie have potentials -/
def EndsIn (m : Tab) (ties : Ties) : Prop := ∀ t ∈ ties, (∃ r, m t.2.1 = some r ∧ FitR 4400 r) ∧ ∃ r, m t.2.2 = some r ∧ FitR 4400 r
theorem at_of {m : Tab} {x : Str} {r : Rat} (h : m x = some r) : m.at x = r := by
  unfold Tab.at
  rw [h]
  rfl
def standL (o : Own) (ties : Ties) (m : Tab) (st : List Rat) : List Rat := List.zipWith (fun (p : Str × Int × Int) a => ((tiedT ties m) p.1).getD a) o.parts st
def zeroT (o : Own) (fl : List Str) : Tab := fl.foldl (fun m x => m.put x 0) (givenT o)
def spTied (K : PySem.W.Frag) : Sp := fun vs H Q _ => ∃ (u : V) (d : Addr) (n : Nat) (ties : Ties) (m : Tab), vs = [u, .ref d] ∧ TiesAt K H u ties ∧ ties.length ≤ 8 ∧ DtAt K H d n m ∧ EndsIn m ties ∧ ∀ e H', Same H H' → H e = none → DtAt K H' e 8 (tiedT ties m) → Q (.ref e) H'
def spStand (K : PySem.W.Frag) (C : Addr) : Sp := fun vs H Q _ => ∃ (v u y : V) (d : Addr) (n : Nat) (o : Own) (ties : Ties) (m : Tab) (st : List Rat), vs = [v, u, .ref d, y] ∧ CircN K C H v o ∧ OwnOk o ∧ TiesAt K H u ties ∧ ties.length ≤ 8 ∧ DtAt K H d n m ∧ EndsIn m ties ∧ RatsAt K H y st ∧ st.length = o.parts.length ∧
  ∀ v' H', Same H H' → RatsAt K H' v' (standL o ties m st) → Q v' H'
def spGivenV (K : PySem.W.Frag) (C : Addr) : Sp := fun vs H Q _ => ∃ (v u : V) (l : Addr) (o : Own) (ties : Ties) (fl : List Str), vs = [v, u, .ref l] ∧ CircN K C H v o ∧ OwnOk o ∧ TiesAt K H u ties ∧ ties.length ≤ 8 ∧ SqL K H l (fl.map V.str) ∧ fl.length ≤ 16 ∧ EndsIn (zeroT o fl) ties ∧
  ∀ e H', Same H H' → H e = none → DtAt K H' e 8 (tiedT ties (zeroT o fl)) → Q (.ref e) H'
theorem RatsAt.dict {K : PySem.W.Frag} {H : Hp} {D : Addr} {k k' : List (Key × V)} (hD : H D = some (.dK k)) {v : V} {rs : List Rat} : RatsAt K H v rs → RatsAt K (upd H D (.dK k')) v rs := fun ⟨a, xs, e, h, p⟩ => ⟨a, xs, e, SqT.dict hD h, p.mono fun _ _ h => h.dict hD⟩
theorem DtAt.dict {K : PySem.W.Frag} {H : Hp} {D d : Addr} {n : Nat} {m : Tab} {k k' : List (Key × V)} (hD : H D = some (.dK k)) (ne : d ≠ D) : DtAt K H d n m → DtAt K (upd H D (.dK k')) d n m := fun ⟨kvs, h, l, q⟩ => ⟨kvs, (upd_ne ne).trans h, l, q.dict hD⟩
theorem DtAt.list {K : PySem.W.Frag} {H : Hp} {D d : Addr} {n : Nat} {m : Tab} {acc acc' : List V} (hD : H D = some (.lst acc)) : DtAt K H d n m → DtAt K (upd H D (.lst acc')) d n m := fun ⟨kvs, h, l, q⟩ =>
  ⟨kvs, (upd_ne (ne_of h hD (by intro z; cases z))).trans h, l, fun x => (q x).imp fun _ _ r => r.list hD⟩
section
variable {P : Program} {w : World} {K : PySem.W.Frag} {mg : Str → Option Value} {base : Heap} {C z : Addr}
end
end Ct

/-! Sides, weights; sizes and voltages by name. -/
namespace Ct
open PySem PySem.Spec PyProof.Rows L2 TL RZ
def sideZ (t : Str × Str × Str) (j : Str) : Int := (if t.2.1 = j then 1 else 0) - (if t.2.2 = j then 1 else 0)
theorem side_small (t : Str × Str × Str) (j : Str) : sideZ t j = -1 ∨ sideZ t j = 0 ∨ sideZ t j = 1 := by
  unfold sideZ
  split <;> split <;> simp
def intQ (i : Int) : Rat := (i : Rat)
theorem int_rat {K : PySem.W.Frag} {H : Hp} {t : Addr} {i : Int} (h : SqT K H t [.int i, .int 1]) : RatAt K H (.ref t) (intQ i) := ⟨t, rfl, h⟩
theorem int_fit {i : Int} (h : i = -1 ∨ i = 0 ∨ i = 1) : FitR 4400 (intQ i) := by
  have one : 1 < 2 ^ 4400 := Nat.lt_of_lt_of_le (by decide : 1 < 2 ^ 1) (Nat.pow_le_pow_right (by decide) (by decide))
  refine ⟨?_, one⟩
  show i.natAbs < 2 ^ 4400
  rcases h with rfl | rfl | rfl
  · exact one
  · exact Nat.lt_trans (by decide) one
  · exact one
theorem mul_small {i j : Int} (hi : i = -1 ∨ i = 0 ∨ i = 1) (hj : j = -1 ∨ j = 0 ∨ j = 1) : i * j = -1 ∨ i * j = 0 ∨ i * j = 1 := by
  rcases hi with rfl | rfl | rfl <;> rcases hj with rfl | rfl | rfl <;> decide
def spSide (K : PySem.W.Frag) : Sp := fun vs H Q _ => ∃ (u : V) (t : Str × Str × Str) (j : Str), vs = [u, .str j] ∧ TieAt K H u t ∧ Q (.int (sideZ t j)) H
def spWeight (K : PySem.W.Frag) : Sp := fun vs H Q _ => ∃ (u : V) (t : Str × Str × Str) (j k : Str) (d : Addr) (n : Nat) (m : Tab) (r : Rat), vs = [u, .str j, .str k, .ref d] ∧ TieAt K H u t ∧ DtAt K H d n m ∧ m t.1 = some r ∧ FitR 4400 r ∧
  ∀ v' H', Same H H' → RatAt K H' v' (intQ (sideZ t j * sideZ t k) * r) → Q v' H'
def sizeT (o : Own) : Tab := o.parts.foldl (fun m e => m.put e.1 (ratF e.2)) Tab.no
def aheadT (o : Own) (st : List Rat) : Tab := (o.parts.zip st).foldl (fun m e => m.put e.1.1 e.2) Tab.no
theorem parts_of {K : PySem.W.Frag} {H : Hp} : ∀ {us : List V} {es : List (Str × Int × Int)}, Paired (EntAt K H) us es → (∀ e ∈ es, FrOk e.2) →
    ∃ (ps : List Addr) (kvs : List (Key × V)), us = ps.map V.ref ∧ kvs.length = es.length ∧ Paired (fun p kv => SqT K H p [kV kv.1, kv.2]) ps kvs ∧ ∀ acc m, Holds K H acc m → Holds K H (mergeK acc kvs) (es.foldl (fun m e => m.put e.1 (ratF e.2)) m)
  | _, _, .nil, _ => ⟨[], [], rfl, rfl, .nil, fun _ _ h => h⟩
  | _, _, .cons (b := e) h t, ok => by
    obtain ⟨ps, kvs, e1, l1, p1, q1⟩ := parts_of t fun x hx => ok x (List.mem_cons_of_mem _ hx)
    obtain ⟨a, u, rfl, ha, hu⟩ := h
    refine ⟨a :: ps, (.inr e.1, u) :: kvs, by rw [e1]; rfl, by rw [List.length_cons, List.length_cons, l1], .cons ha p1, fun acc m hm => ?_⟩
    exact q1 _ _ (hm.put (hu.rat (ok e List.mem_cons_self)))
section
variable {P : Program} {w : World} {K : PySem.W.Frag} {mg : Str → Option Value} {base : Heap} {C z : Addr}
end
end Ct

/-! The equations of a joining. -/
namespace Ct
open PySem PySem.Spec PyProof.Rows L2 TL RZ
def lackF (o : Own) (ties : Ties) (fl : List Str) (st : List Rat) (l : Ties) : Tab :=
  l.foldl (fun m t => m.put t.1 ((sizeT o).at t.1 * ((aheadT o st).at t.1 - (tiedT ties (zeroT o fl)).at t.1))) Tab.no
def lackT (o : Own) (ties : Ties) (fl : List Str) (st : List Rat) : Tab := lackF o ties fl st ties
def nearL (ties : Ties) (j : Str) : Ties := ties.filter fun t => decide (t.2.1 = j ∨ t.2.2 = j)
def weights (o : Own) (ties : Ties) (j k : Str) : List Rat := (nearL ties j).map fun t => intQ (sideZ t j * sideZ t k) * (sizeT o).at t.1
def mades (o : Own) (ties : Ties) (fl : List Str) (st : List Rat) (j : Str) : List Rat := (nearL ties j).map fun t => intQ (sideZ t j) * (lackT o ties fl st).at t.1
def eqL (o : Own) (ties : Ties) (fl : List Str) (st : List Rat) (j : Str) : List Rat := fl.map (fun k => sumL (weights o ties j k)) ++ [sumL (mades o ties fl st j)]
def eqsL (o : Own) (ties : Ties) (fl : List Str) (st : List Rat) : List (List Rat) := fl.map (eqL o ties fl st)
/-- sums whose numbers and parts of the sum are short -/
def SumOk (rs : List Rat) : Prop := (∀ r ∈ rs, FitR 4400 r) ∧ ∀ i, FitR 4400 (sumL (rs.take i))
theorem fit_all {rs : List Rat} (h : ∀ i, FitR 4400 (sumL (rs.take i))) : FitR 4400 (sumL rs) := by
  have := h rs.length
  rwa [List.take_length] at this
def Fit? (q : Option Rat) : Prop := ∃ r, q = some r ∧ FitR 4400 r
/-- all that the equations come across -/
structure EqOk (o : Own) (ties : Ties) (fl : List Str) (st : List Rat) : Prop where
  few : ties.length ≤ 8
  free : fl.length ≤ 16
  ends : EndsIn (zeroT o fl) ties
  size : ∀ t ∈ ties, Fit? (sizeT o t.1)
  ahead : ∀ t ∈ ties, Fit? (aheadT o st t.1)
  given : ∀ t ∈ ties, Fit? (tiedT ties (zeroT o fl) t.1)
  step : ∀ t ∈ ties, FitR 4400 ((aheadT o st).at t.1 - (tiedT ties (zeroT o fl)).at t.1)
  lack : ∀ t ∈ ties, Fit? (lackT o ties fl st t.1)
  sumW : ∀ j ∈ fl, ∀ k ∈ fl, SumOk (weights o ties j k)
  sumM : ∀ j ∈ fl, SumOk (mades o ties fl st j)
theorem fit_at {m : Tab} {x : Str} (h : Fit? (m x)) : m x = some (m.at x) ∧ FitR 4400 (m.at x) := by
  obtain ⟨r, e, f⟩ := h
  rw [at_of e]
  exact ⟨e, f⟩
theorem near_sub {ties : Ties} {j : Str} {t : Str × Str × Str} (h : t ∈ nearL ties j) : t ∈ ties := (List.mem_filter.mp h).1
def spEqs (K : PySem.W.Frag) (C : Addr) : Sp := fun vs H Q _ => ∃ (v u y : V) (l tk : Addr) (o : Own) (ties : Ties) (fl : List Str) (st : List Rat), vs = [v, u, y, .ref l, .ref tk] ∧ DtAt K H tk 0 Tab.no ∧ CircN K C H v o ∧ OwnOk o ∧ TiesAt K H u ties ∧ RatsAt K H y st ∧ st.length = o.parts.length ∧ SqL K H l (fl.map V.str) ∧ EqOk o ties fl st ∧
  ∀ a xs H', Same H H' → SqL K H' a xs → Paired (RatLAt K H') xs (eqsL o ties fl st) → Q (.ref a) H'
theorem SqL.past {K : PySem.W.Frag} {H : Hp} {D a : Addr} {o : HO} {xs : List V} (ne : a ≠ D) (h : SqL K H a xs) : SqL K (upd H D o) a xs := by
  rcases h with (h | ⟨o, h⟩) | h
  · exact .inl (.inl ((upd_ne ne).trans h))
  · exact .inl (.inr ⟨o, (upd_ne ne).trans h⟩)
  · exact .inr h
/-- a list of rationals that is not the list D -/
def RowX (K : PySem.W.Frag) (D : Addr) (H : Hp) (v : V) (rs : List Rat) : Prop := ∃ a xs, v = .ref a ∧ a ≠ D ∧ SqL K H a xs ∧ Paired (RatAt K H) xs rs
theorem RowX.same {K : PySem.W.Frag} {D : Addr} {H H' : Hp} (s : Same H H') {v : V} {rs : List Rat} : RowX K D H v rs → RowX K D H' v rs := fun ⟨a, xs, e, n, h, p⟩ => ⟨a, xs, e, n, Same.seq s h, p.mono fun _ _ h => h.same s⟩
theorem RowX.list {K : PySem.W.Frag} {D : Addr} {H : Hp} {acc acc' : List V} (hD : H D = some (.lst acc)) {v : V} {rs : List Rat} : RowX K D H v rs → RowX K D (upd H D (.lst acc')) v rs := fun ⟨a, xs, e, n, h, p⟩ => ⟨a, xs, e, n, SqL.past n h, p.mono fun _ _ h => h.list hD⟩
theorem near_snoc (l : Ties) (t : Str × Str × Str) (j : Str) : nearL (l ++ [t]) j = if j ∈ [t.2.1, t.2.2] then nearL l j ++ [t] else nearL l j := by
  unfold nearL
  rw [List.filter_append]
  by_cases h : j ∈ [t.2.1, t.2.2]
  · have q : t.2.1 = j ∨ t.2.2 = j := by
      rcases List.mem_cons.mp h with h | h
      · exact .inl h.symm
      · exact .inr (List.mem_singleton.mp h).symm
    rw [if_pos h, List.filter_cons_of_pos (by simpa using q)]
    rfl
  · have q : ¬ (t.2.1 = j ∨ t.2.2 = j) := by
      rintro (e | e)
      · exact h (by rw [e]; exact List.mem_cons_self)
      · exact h (by rw [e]; exact List.mem_cons_of_mem _ List.mem_cons_self)
    rw [if_neg h, List.filter_cons_of_neg (by simpa using q)]
    exact List.append_nil _
section
variable {P : Program} {w : World} {K : PySem.W.Frag} {mg : Str → Option Value} {base : Heap} {C z : Addr}
end
end Ct

/-! Settled potentials; what stands behind a joining. -/
namespace Ct
open PySem PySem.Spec PyProof.Rows L2 TL RZ
def wdOf (fl : List Str) : Nat := if fl = [] then 0 else fl.length + 1
def plainEq (o : Own) (ties : Ties) (fl : List Str) (st : List Rat) : List (List Rat) := plainOf (elimL (wdOf fl) ((eqsL o ties fl st).map clearedL)).2
def sols (o : Own) (ties : Ties) (fl : List Str) (st : List Rat) : List Rat := solL (plainEq o ties fl st) fl.length
def potT (o : Own) (ties : Ties) (fl : List Str) (st : List Rat) : Tab := (fl.zip (sols o ties fl st)).foldl (fun m e => m.put e.1 e.2) (givenT o)
/-- all that settling comes across -/
structure SolOk (o : Own) (ties : Ties) (fl : List Str) (st : List Rat) : Prop where
  eq : EqOk o ties fl st
  clear : ∀ r ∈ eqsL o ties fl st, ClearOk r
  elim : eqsL o ties fl st = [] ∧ wdOf fl = 0 ∨ eqsL o ties fl st ≠ [] ∧ ElimOk (wdOf fl) ((eqsL o ties fl st).map clearedL)
  begins : ∀ r ∈ plainEq o ties fl st, BeginsIn fl.length r
/-- the standing behind -/
def joinL (o : Own) (ties : Ties) (fl : List Str) (st : List Rat) : List Rat := standL o ties (potT o ties fl st) st
structure JoinOk (o : Own) (ties : Ties) (fl : List Str) (st : List Rat) : Prop where
  sol : SolOk o ties fl st
  ends : EndsIn (potT o ties fl st) ties
def spSettled (K : PySem.W.Frag) (C : Addr) : Sp := fun vs H Q _ => ∃ (v u y : V) (tk : Addr) (o : Own) (ties : Ties) (st : List Rat), vs = [v, u, y, .ref tk] ∧ DtAt K H tk 0 Tab.no ∧ CircN K C H v o ∧ OwnOk o ∧ TiesAt K H u ties ∧ ties.length ≤ 8 ∧ RatsAt K H y st ∧ st.length = o.parts.length ∧ (∀ fl, FreeOf o ties fl → SolOk o ties fl st) ∧
  ∀ fl d H', FreeOf o ties fl → Same H H' → H d = none → DtAt K H' d 21 (potT o ties fl st) → Q (.ref d) H'
def spJoined (K : PySem.W.Frag) (C : Addr) : Sp := fun vs H Q _ => ∃ (v y : V) (o : Own) (x : Str) (ties : Ties) (st : List Rat), vs = [v, .str x, y] ∧ CircN K C H v o ∧ OwnOk o ∧ (x, ties) ∈ o.joinings ∧ RatsAt K H y st ∧ st.length = o.parts.length ∧ (∀ fl, FreeOf o ties fl → JoinOk o ties fl st) ∧
  ∀ fl v' H', FreeOf o ties fl → Same H H' → RatsAt K H' v' (joinL o ties fl st) → Q v' H'
section
variable {P : Program} {w : World} {K : PySem.W.Frag} {mg : Str → Option Value} {base : Heap} {C z : Addr}
end
end Ct

/-! The equations of a joining, as a net. -/
namespace Ct
open PySem PySem.Spec PyProof.Rows L2 TL RZ
theorem sm_append {α : Type} (f : α → Rat) : ∀ (l m : List α), sm f (l ++ m) = sm f l + sm f m
  | [], m => (Rat.zero_add _).symm
  | x :: r, m => by
    show f x + sm f (r ++ m) = f x + sm f r + sm f m
    rw [sm_append f r m]
    grind
abbrev zS (t : Str × Str × Str) (j : Str) : Rat := intQ (sideZ t j)
theorem side_far {t : Str × Str × Str} {j : Str} (h : ¬ (t.2.1 = j ∨ t.2.2 = j)) : sideZ t j = 0 := by
  unfold sideZ
  rw [if_neg fun e => h (.inl e), if_neg fun e => h (.inr e)]
  rfl
theorem near_sm (ties : Ties) (j : Str) (g : Str × Str × Str → Rat) : sumL ((nearL ties j).map fun t => zS t j * g t) = sm (fun t => zS t j * g t) ties := by
  rw [sum_sm]
  unfold nearL
  rw [sm_filter]
  refine sm_congr fun t _ => ?_
  by_cases h : t.2.1 = j ∨ t.2.2 = j
  · rw [if_pos (decide_eq_true h)]
  · rw [if_neg (by simpa using h)]
    have : zS t j = 0 := by
      show ((sideZ t j : Int) : Rat) = 0
      rw [side_far h]
      rfl
    rw [this, Rat.zero_mul]
section
variable (o : Own) (ties : Ties) (fl : List Str) (st : List Rat)
abbrev cS (t : Str × Str × Str) : Rat := (sizeT o).at t.1
abbrev lamS (t : Str × Str × Str) : Rat := (lackT o ties fl st).at t.1
theorem weights_net (j k : Str) : sumL (weights o ties j k) = lapA ties zS (cS o) j k := by
  unfold lapA
  rw [← near_sm ties j fun t => zS t k * cS o t]
  unfold weights
  congr 1
  refine List.map_congr_left fun t _ => ?_
  show ((sideZ t j * sideZ t k : Int) : Rat) * _ = ((sideZ t j : Int) : Rat) * (((sideZ t k : Int) : Rat) * _)
  rw [Rat.intCast_mul, Rat.mul_assoc]
theorem mades_net (j : Str) : sumL (mades o ties fl st j) = lapB ties zS (lamS o ties fl st) j := by
  unfold lapB
  rw [← near_sm ties j fun t => lamS o ties fl st t]
  rfl
theorem eq_len (j : Str) : (eqL o ties fl st j).length = fl.length + 1 := by
  unfold eqL
  rw [List.length_append, List.length_map]
  rfl
theorem eq_at {j k : Str} {i : Nat} (h : fl[i]? = some k) : qx (eqL o ties fl st j) i = lapA ties zS (cS o) j k := by
  have lt := (List.getElem?_eq_some_iff.mp h).1
  unfold qx eqL
  rw [List.getElem?_append_left (by rw [List.length_map]; exact lt), List.getElem?_map, h]
  exact weights_net o ties j k
theorem eq_last (j : Str) : qx (eqL o ties fl st j) fl.length = lapB ties zS (lamS o ties fl st) j := by
  unfold qx eqL
  rw [List.getElem?_append_right (by rw [List.length_map]; exact Nat.le_refl _), List.length_map, Nat.sub_self]
  exact mades_net o ties fl st j
abbrev rowsS : Rowss := (eqsL o ties fl st).map clearedL
theorem rows_len : ∀ r ∈ rowsS o ties fl st, r.length = fl.length + 1 := by
  intro r hr
  obtain ⟨q, hq, rfl⟩ := List.mem_map.mp hr
  obtain ⟨j, hj, rfl⟩ := List.mem_map.mp hq
  rw [cleared_len, eq_len]
theorem eqs_begin (hc : ∀ t ∈ ties, 0 < cS o t) (nd : fl.Nodup) : ∀ p ∈ plainOf (elimL (fl.length + 1) (rowsS o ties fl st)).2, BeginsIn fl.length p := by
  refine begins_by (rows_len o ties fl st) (P := fun v => ∃ y : Str → Rat, ∀ i, v i = sm (fun j => y j * qx (eqL o ties fl st j) i) fl) (fun r hr => ?_) (fun a b u v ⟨y, hy⟩ ⟨y', hy'⟩ => ⟨fun j => u * y j - v * y' j, fun i => ?_⟩) (fun v ⟨y, hy⟩ z => ?_)
  · obtain ⟨q, hq, rfl⟩ := List.mem_map.mp hr
    obtain ⟨j, hj, rfl⟩ := List.mem_map.mp hq
    obtain ⟨g, _, h⟩ := cleared_at (eqL o ties fl st j)
    refine ⟨fun k => if k = j then g else 0, fun i => ?_⟩
    have e : ∀ k ∈ fl, (if k = j then g else 0) * qx (eqL o ties fl st k) i = if k = j then g * qx (eqL o ties fl st k) i else 0 := fun k _ => by
      by_cases q : k = j
      · rw [if_pos q, if_pos q]
      · rw [if_neg q, if_neg q, Rat.zero_mul]
    rw [sm_congr e, sm_single (f := fun k => g * qx (eqL o ties fl st k) i) nd hj]
    exact h i
  · show u * a i - v * b i = _
    rw [hy i, hy' i, ← sm_mul, ← sm_mul, ← sm_sub]
    exact sm_congr fun j _ => by grind
  · rw [hy]
    have e : ∀ j ∈ fl, y j * qx (eqL o ties fl st j) fl.length = y j * lapB ties zS (lamS o ties fl st) j := fun j _ => by rw [eq_last]
    rw [sm_congr e]
    refine lap_fit ties fl zS (cS o) hc _ fun k hk => ?_
    obtain ⟨i, hi⟩ := List.mem_iff_getElem?.mp hk
    have lt := (List.getElem?_eq_some_iff.mp hi).1
    have q := z i lt
    rw [hy i] at q
    rw [← q]
    exact sm_congr fun j _ => by rw [eq_at o ties fl st hi]
/-- the told potential of a free junction -/
def xS (f : List Rat) (k : Str) : Rat := qx f (fl.idxOf k)
theorem dot_list {a : Nat → Int} {x : Nat → Rat} {g : Rat} {A X : Str → Rat} (h : ∀ i k, fl[i]? = some k → (a i : Rat) = g * A k ∧ x i = X k) : ∀ n, n ≤ fl.length → dot n a x = g * sm (fun k => X k * A k) (fl.take n)
  | 0, _ => (Rat.mul_zero g).symm
  | n + 1, hn => by
    have e : fl[n]? = some fl[n] := List.getElem?_eq_getElem hn
    obtain ⟨h1, h2⟩ := h n _ e
    show dot n a x + (a n : Rat) * x n = _
    rw [dot_list h n (by omega), h1, h2, take_next e, sm_append]
    show g * sm _ (fl.take n) + g * A fl[n] * X fl[n] = g * (sm _ (fl.take n) + (X fl[n] * A fl[n] + 0))
    grind
theorem sols_solve (hc : ∀ t ∈ ties, 0 < cS o t) (nd : fl.Nodup) {f : List Rat} (hf : f = solL (plainOf (elimL (fl.length + 1) (rowsS o ties fl st)).2) fl.length) {j : Str} (hj : j ∈ fl) :
    sm (fun k => xS fl f k * lapA ties zS (cS o) j k) fl = lapB ties zS (lamS o ties fl st) j := by
  have kills := sol_kills (rows_len o ties fl st) (eqs_begin o ties fl st hc nd)
  rw [← hf] at kills
  obtain ⟨g, gn, h⟩ := cleared_at (eqL o ties fl st j)
  have q := kills (clearedL (eqL o ties fl st j)) (List.mem_map_of_mem (List.mem_map_of_mem hj))
  have d : dot fl.length (idx (clearedL (eqL o ties fl st j))) (xOf fl.length f) + (idx (clearedL (eqL o ties fl st j)) fl.length : Rat) * xOf fl.length f fl.length = 0 := q
  rw [dot_list fl (A := fun k => lapA ties zS (cS o) j k) (X := xS fl f) (g := g) (fun i k hi => ⟨by rw [h i, eq_at o ties fl st hi], ?_⟩) fl.length (Nat.le_refl _), List.take_length, h, eq_last] at d
  · have e1 : xOf fl.length f fl.length = -1 := if_pos rfl
    rw [e1] at d
    have d2 : g * (sm (fun k => xS fl f k * lapA ties zS (cS o) j k) fl - lapB ties zS (lamS o ties fl st) j) = 0 := by grind
    rcases Rat.mul_eq_zero.mp d2 with z | z
    · exact absurd z gn
    · grind
  · have lt := (List.getElem?_eq_some_iff.mp hi).1
    have ek := (List.getElem?_eq_some_iff.mp hi).2
    unfold xOf xS
    rw [if_neg (by omega)]
    congr 1
    rw [← ek]
    exact (nd.idxOf_getElem i lt).symm
end
end Ct

/-! What stands behind a joining: joined again nothing changes; between two starts in a straight line. -/
namespace Ct
open PySem PySem.Spec PyProof.Rows L2 TL RZ
theorem put_fold {α : Type} (key : α → Str) (val : α → Rat) : ∀ (ks : List α) (m : Tab), (∀ x, x ∉ ks.map key → (ks.foldl (fun m a => m.put (key a) (val a)) m) x = m x) ∧ ((ks.map key).Nodup → ∀ a ∈ ks, (ks.foldl (fun m a => m.put (key a) (val a)) m) (key a) = some (val a))
  | [], m => ⟨fun _ _ => rfl, fun _ _ h => nomatch h⟩
  | a :: r, m => by
    obtain ⟨h1, h2⟩ := put_fold key val r (m.put (key a) (val a))
    have at_a : (m.put (key a) (val a)) (key a) = some (val a) := if_pos rfl
    refine ⟨fun x hx => ?_, fun nd b hb => ?_⟩
    · rw [List.map_cons, List.mem_cons, not_or] at hx
      show (r.foldl _ (m.put (key a) (val a))) x = m x
      rw [h1 x hx.2]
      exact if_neg hx.1
    · rw [List.map_cons, List.nodup_cons] at nd
      show (r.foldl _ (m.put (key a) (val a))) (key b) = _
      rcases List.mem_cons.mp hb with rfl | hb
      · rw [h1 _ nd.1]
        exact at_a
      · exact h2 nd.2 b hb
theorem elim_nil : ∀ n, elimL n [] = ([], [])
  | 0 => rfl
  | n + 1 => by
    rw [elim_next, elim_nil n]
    rfl
section
variable {o : Own} {ties : Ties} {fl : List Str}
theorem plain_eq (st : List Rat) : plainEq o ties fl st = plainOf (elimL (fl.length + 1) (rowsS o ties fl st)).2 := by
  unfold plainEq wdOf
  by_cases h : fl = []
  · subst h
    show plainOf (elimL _ []).2 = plainOf (elimL _ []).2
    rw [elim_nil, elim_nil]
  · rw [if_neg h]
theorem tied_at (once : (ties.map (·.1)).Nodup) (m : Tab) {t : Str × Str × Str} (ht : t ∈ ties) : tiedT ties m t.1 = some (m.at t.2.1 - m.at t.2.2) := (put_fold (fun t : Str × Str × Str => t.1) (fun t => m.at t.2.1 - m.at t.2.2) ties Tab.no).2 once t ht
theorem tied_not (m : Tab) {x : Str} (h : x ∉ ties.map (·.1)) : tiedT ties m x = none := (put_fold (fun t : Str × Str × Str => t.1) (fun t => m.at t.2.1 - m.at t.2.2) ties Tab.no).1 x h
theorem zero_in (nd : fl.Nodup) {x : Str} (h : x ∈ fl) : (zeroT o fl).at x = 0 := at_of ((put_fold (fun x : Str => x) (fun _ => 0) fl (givenT o)).2 (by rw [List.map_id']; exact nd) x h)
theorem zero_out {x : Str} (h : x ∉ fl) : zeroT o fl x = givenT o x := (put_fold (fun x : Str => x) (fun _ => 0) fl (givenT o)).1 x (by rw [List.map_id']; exact h)
theorem sols_len (st : List Rat) : (sols o ties fl st).length = fl.length := by
  unfold sols solL
  rw [sol_len, List.length_replicate]
theorem zip_keys {α : Type} : ∀ {l : List Str} {r : List α}, r.length = l.length → (l.zip r).map (·.1) = l
  | [], _, _ => rfl
  | _ :: _, [], h => nomatch h
  | x :: l, y :: r, h => by
    show x :: (l.zip r).map (·.1) = x :: l
    rw [zip_keys (by simpa using h)]
/-- the told potentials -/
abbrev xT (o : Own) (ties : Ties) (fl : List Str) (st : List Rat) : Str → Rat := xS fl (sols o ties fl st)
theorem pot_in (nd : fl.Nodup) (st : List Rat) {x : Str} (h : x ∈ fl) : potT o ties fl st x = some (xT o ties fl st x) := by
  have q := (put_fold (fun e : Str × Rat => e.1) (fun e => e.2) (fl.zip (sols o ties fl st)) (givenT o)).2 (by rw [zip_keys (sols_len st)]; exact nd)
  have lt := List.idxOf_lt_length_of_mem h
  have e1 : fl[fl.idxOf x]? = some x := by
    rw [List.getElem?_eq_getElem lt, List.getElem_idxOf]
  have e2 : (sols o ties fl st)[fl.idxOf x]? = some (xT o ties fl st x) := by
    have : fl.idxOf x < (sols o ties fl st).length := by rw [sols_len]; exact lt
    unfold xT xS qx
    rw [List.getElem?_eq_getElem this]
    rfl
  have hm : (x, xT o ties fl st x) ∈ fl.zip (sols o ties fl st) := List.mem_of_getElem? (i := fl.idxOf x) (List.getElem?_zip_eq_some.mpr ⟨e1, e2⟩)
  exact q _ hm
theorem pot_out (st : List Rat) {x : Str} (h : x ∉ fl) : potT o ties fl st x = givenT o x := (put_fold (fun e : Str × Rat => e.1) (fun e => e.2) (fl.zip (sols o ties fl st)) (givenT o)).1 x (by rw [zip_keys (sols_len st)]; exact h)
theorem pot_at (nd : fl.Nodup) (st : List Rat) (a : Str) : (potT o ties fl st).at a = (zeroT o fl).at a + if a ∈ fl then xT o ties fl st a else 0 := by
  by_cases h : a ∈ fl
  · rw [if_pos h, zero_in nd h, at_of (pot_in nd st h), Rat.zero_add]
  · rw [if_neg h, Rat.add_zero]
    unfold Tab.at
    rw [pot_out st h, zero_out h]
theorem sm_pick (nd : fl.Nodup) (x : Str → Rat) (a : Str) : sm (fun k => x k * (((if a = k then 1 else 0 : Int)) : Rat)) fl = if a ∈ fl then x a else 0 := by
  have e : ∀ k ∈ fl, x k * (((if a = k then 1 else 0 : Int)) : Rat) = if k = a then x k else 0 := fun k _ => by
    by_cases q : k = a
    · rw [if_pos q, if_pos q.symm]
      exact Rat.mul_one _
    · rw [if_neg q, if_neg fun z => q z.symm]
      exact Rat.mul_zero _
  rw [sm_congr e]
  by_cases h : a ∈ fl
  · rw [if_pos h, sm_single (f := x) nd h]
  · rw [if_neg h]
    exact sm_zero fun k hk => if_neg fun (z : k = a) => h (z ▸ hk)
theorem dif_at (nd : fl.Nodup) (x : Str → Rat) (t : Str × Str × Str) : dif fl zS x t = (if t.2.1 ∈ fl then x t.2.1 else 0) - if t.2.2 ∈ fl then x t.2.2 else 0 := by
  rw [← sm_pick nd x t.2.1, ← sm_pick nd x t.2.2, ← sm_sub]
  unfold dif
  refine sm_congr fun k _ => ?_
  show x k * ((sideZ t k : Int) : Rat) = _
  unfold sideZ
  rw [Rat.intCast_sub]
  grind
/-- the difference that fixed junctions make at a tie -/
def givenD (o : Own) (ties : Ties) (fl : List Str) (t : Str × Str × Str) : Rat := (tiedT ties (zeroT o fl)).at t.1
theorem given_at (once : (ties.map (·.1)).Nodup) {t : Str × Str × Str} (ht : t ∈ ties) : givenD o ties fl t = (zeroT o fl).at t.2.1 - (zeroT o fl).at t.2.2 := at_of (tied_at once _ ht)
theorem behind_at (once : (ties.map (·.1)).Nodup) (nd : fl.Nodup) (st : List Rat) {t : Str × Str × Str} (ht : t ∈ ties) : tiedT ties (potT o ties fl st) t.1 = some (givenD o ties fl t + dif fl zS (xT o ties fl st) t) := by
  rw [tied_at once _ ht, given_at once ht, pot_at nd, pot_at nd, dif_at nd]
  congr 1
  grind
theorem lam_at (once : (ties.map (·.1)).Nodup) (st : List Rat) {t : Str × Str × Str} (ht : t ∈ ties) : lamS o ties fl st t = cS o t * ((aheadT o st).at t.1 - givenD o ties fl t) :=
  at_of ((put_fold (fun t : Str × Str × Str => t.1) (fun t => (sizeT o).at t.1 * ((aheadT o st).at t.1 - (tiedT ties (zeroT o fl)).at t.1)) ties Tab.no).2 once t ht)
theorem stand_get (m : Tab) {st : List Rat} {i : Nat} {e : Str × Int × Int} {a : Rat} (he : o.parts[i]? = some e) (ha : st[i]? = some a) : (standL o ties m st)[i]? = some ((tiedT ties m e.1).getD a) := by
  unfold standL
  rw [List.getElem?_zipWith, he, ha]
theorem ahead_at (once : (o.parts.map (·.1)).Nodup) {st : List Rat} (len : st.length = o.parts.length) {i : Nat} {e : Str × Int × Int} {a : Rat} (he : o.parts[i]? = some e) (ha : st[i]? = some a) : (aheadT o st).at e.1 = a := by
  have q := (put_fold (fun e : (Str × Int × Int) × Rat => e.1.1) (fun e => e.2) (o.parts.zip st) Tab.no).2 ?_ (e, a) (List.mem_of_getElem? (i := i) (List.getElem?_zip_eq_some.mpr ⟨he, ha⟩))
  · exact at_of q
  · have : (o.parts.zip st).map (fun e : (Str × Int × Int) × Rat => e.1.1) = o.parts.map (·.1) := by
      have h : ∀ (l : List (Str × Int × Int)) (r : List Rat), r.length = l.length → (l.zip r).map (fun e : (Str × Int × Int) × Rat => e.1.1) = l.map (·.1) := by
        intro l
        induction l with
        | nil => exact fun _ _ => rfl
        | cons x l ih =>
          intro r hr
          cases r with
          | nil => cases hr
          | cons y r =>
            show x.1 :: (l.zip r).map (fun e : (Str × Int × Int) × Rat => e.1.1) = x.1 :: l.map (·.1)
            rw [ih r (by simpa using hr)]
      exact h _ _ len
    rw [this]
    exact once
/-- what a joining of a circuit keeps to -/
structure NetOk (o : Own) (ties : Ties) (fl : List Str) : Prop where
  p_once : (o.parts.map (·.1)).Nodup
  once : (ties.map (·.1)).Nodup
  of : ∀ t ∈ ties, t.1 ∈ o.parts.map (·.1)
  pos : ∀ t ∈ ties, 0 < cS o t
  nd : fl.Nodup
variable (N : NetOk o ties fl)
include N
theorem x_solves (st : List Rat) {j : Str} (hj : j ∈ fl) : sm (fun k => xT o ties fl st k * lapA ties zS (cS o) j k) fl = lapB ties zS (lamS o ties fl st) j :=
  sols_solve o ties fl st N.pos N.nd (by unfold sols; rw [plain_eq]) hj
theorem same_dif (st : List Rat) {y : Str → Rat} (h : ∀ j ∈ fl, sm (fun k => y k * lapA ties zS (cS o) j k) fl = lapB ties zS (lamS o ties fl st) j) : ∀ t ∈ ties, dif fl zS y t = dif fl zS (xT o ties fl st) t :=
  lap_once ties fl zS (cS o) N.pos h fun j hj => x_solves N st hj
theorem lap_dif (y : Str → Rat) (j : Str) : sm (fun k => y k * lapA ties zS (cS o) j k) fl = sm (fun t => zS t j * (cS o t * dif fl zS y t)) ties := by
  have e : ∀ k ∈ fl, y k * lapA ties zS (cS o) j k = y k * sm (fun t => zS t k * (zS t j * cS o t)) ties := fun k _ => by
    rw [lapA_comm]
    rfl
  rw [sm_congr e, pull ties fl zS y fun t => zS t j * cS o t]
  exact sm_congr fun t _ => by grind
theorem join_len' {st : List Rat} (len : st.length = o.parts.length) : (joinL o ties fl st).length = o.parts.length := by
  unfold joinL standL
  rw [List.length_zipWith]
  omega
/-- the part of a tie, where it stands -/
theorem part_of {st : List Rat} (len : st.length = o.parts.length) {t : Str × Str × Str} (ht : t ∈ ties) : ∃ (i : Nat) (e : Str × Int × Int) (a : Rat), o.parts[i]? = some e ∧ e.1 = t.1 ∧ st[i]? = some a ∧ (aheadT o st).at t.1 = a := by
  obtain ⟨e, he, ee⟩ := List.mem_map.mp (N.of t ht)
  obtain ⟨i, hi⟩ := List.mem_iff_getElem?.mp he
  have lt : i < st.length := by
    have := (List.getElem?_eq_some_iff.mp hi).1
    omega
  have ha := List.getElem?_eq_getElem lt
  refine ⟨i, e, st[i], hi, ee, ha, ?_⟩
  rw [← show e.1 = t.1 from ee]
  exact ahead_at N.p_once len hi ha
/-- joined again nothing changes -/
theorem join_again {st : List Rat} (len : st.length = o.parts.length) : joinL o ties fl (joinL o ties fl st) = joinL o ties fl st := by
  have l1 := join_len' N len
  have dd : ∀ t ∈ ties, dif fl zS (xT o ties fl st) t = dif fl zS (xT o ties fl (joinL o ties fl st)) t := same_dif N _ fun j hj => by
    rw [lap_dif N]
    unfold lapB
    refine sm_congr fun t ht => ?_
    rw [lam_at N.once _ ht]
    obtain ⟨i, e, a, hi, ee, ha, _⟩ := part_of N len ht
    have hb : (joinL o ties fl st)[i]? = some (givenD o ties fl t + dif fl zS (xT o ties fl st) t) := by
      unfold joinL
      rw [stand_get _ hi ha, ee, behind_at N.once N.nd st ht]
      rfl
    rw [← ee, ahead_at N.p_once l1 hi hb]
    congr 2
    grind
  refine List.ext_getElem? fun i => ?_
  cases hi : o.parts[i]? with
  | none =>
    have := List.getElem?_eq_none_iff.mp hi
    rw [List.getElem?_eq_none (by rw [join_len' N l1]; exact this), List.getElem?_eq_none (by rw [l1]; exact this)]
  | some e =>
    have lt := (List.getElem?_eq_some_iff.mp hi).1
    have ha : st[i]? = some st[i] := List.getElem?_eq_getElem (by omega)
    have hb : (joinL o ties fl st)[i]? = some ((tiedT ties (potT o ties fl st) e.1).getD st[i]) := stand_get _ hi ha
    have hc : (joinL o ties fl (joinL o ties fl st))[i]? = some ((tiedT ties (potT o ties fl (joinL o ties fl st)) e.1).getD ((tiedT ties (potT o ties fl st) e.1).getD st[i])) := stand_get _ hi hb
    rw [hc, hb]
    congr 1
    by_cases hm : e.1 ∈ ties.map (·.1)
    · obtain ⟨t, ht, et⟩ := List.mem_map.mp hm
      rw [← et, behind_at N.once N.nd _ ht, behind_at N.once N.nd _ ht, dd t ht]
      rfl
    · rw [tied_not _ hm, tied_not _ hm]
      rfl
end
end Ct

/-! Between two starts in a straight line; what a standing that fits is; the step at right angles. -/
namespace Ct
open PySem PySem.Spec PyProof.Rows L2 TL RZ
/-- from one standing on the way to another, so many times -/
def mixL (a b : List Rat) (k : Rat) : List Rat := List.zipWith (fun x y => x + k * (y - x)) a b
section
variable {o : Own} {ties : Ties} {fl : List Str} (N : NetOk o ties fl)
include N
theorem join_get {st : List Rat} {i : Nat} {e : Str × Int × Int} {a : Rat} (he : o.parts[i]? = some e) (ha : st[i]? = some a) :
    (joinL o ties fl st)[i]? = some ((tiedT ties (potT o ties fl st) e.1).getD a) := stand_get _ he ha
theorem join_tied {st : List Rat} {i : Nat} {e : Str × Int × Int} {a : Rat} (he : o.parts[i]? = some e) (ha : st[i]? = some a) {t : Str × Str × Str} (ht : t ∈ ties) (et : t.1 = e.1) :
    (joinL o ties fl st)[i]? = some (givenD o ties fl t + dif fl zS (xT o ties fl st) t) := by
  rw [join_get N he ha, ← et, behind_at N.once N.nd st ht]
  rfl
theorem join_free {st : List Rat} {i : Nat} {e : Str × Int × Int} {a : Rat} (he : o.parts[i]? = some e) (ha : st[i]? = some a) (h : e.1 ∉ ties.map (·.1)) : (joinL o ties fl st)[i]? = some a := by
  rw [join_get N he ha, tied_not _ h]
  rfl
theorem mix_get {a b : List Rat} {k : Rat} {i : Nat} {x y : Rat} (ha : a[i]? = some x) (hb : b[i]? = some y) : (mixL a b k)[i]? = some (x + k * (y - x)) := by
  unfold mixL
  rw [List.getElem?_zipWith, ha, hb]
theorem mix_len {a b : List Rat} {k : Rat} (ha : a.length = o.parts.length) (hb : b.length = o.parts.length) : (mixL a b k).length = o.parts.length := by
  unfold mixL
  rw [List.length_zipWith]
  omega
/-- the difference that the told potentials make, from the standing's own numbers -/
theorem dif_mix {a b : List Rat} {k : Rat} (ha : a.length = o.parts.length) (hb : b.length = o.parts.length) : ∀ t ∈ ties, dif fl zS (xT o ties fl (mixL a b k)) t = dif fl zS (xT o ties fl a) t + k * (dif fl zS (xT o ties fl b) t - dif fl zS (xT o ties fl a) t) := by
  have q := same_dif N (mixL a b k) (y := fun j => xT o ties fl a j + k * (xT o ties fl b j - xT o ties fl a j)) fun j hj => ?_
  · intro t ht
    rw [← q t ht]
    unfold dif
    rw [← sm_sub, ← sm_mul, ← sm_add]
    exact sm_congr fun j _ => by grind
  · have e : ∀ m ∈ fl, (xT o ties fl a m + k * (xT o ties fl b m - xT o ties fl a m)) * lapA ties zS (cS o) j m = xT o ties fl a m * lapA ties zS (cS o) j m + k * (xT o ties fl b m * lapA ties zS (cS o) j m - xT o ties fl a m * lapA ties zS (cS o) j m) := fun m _ => by grind
    rw [sm_congr e, sm_add, sm_mul, sm_sub, x_solves N a hj, x_solves N b hj]
    unfold lapB
    rw [← sm_sub, ← sm_mul, ← sm_add]
    refine sm_congr fun t ht => ?_
    obtain ⟨i, e, x, hi, ee, hx, ax⟩ := part_of N ha ht
    have lt := (List.getElem?_eq_some_iff.mp hi).1
    have hy : b[i]? = some b[i] := List.getElem?_eq_getElem (by omega)
    have ay : (aheadT o b).at t.1 = b[i] := by
      rw [← ee]
      exact ahead_at N.p_once hb hi hy
    have am : (aheadT o (mixL a b k)).at t.1 = x + k * (b[i] - x) := by
      rw [← ee]
      exact ahead_at N.p_once (mix_len N ha hb) hi (mix_get N hx hy)
    rw [lam_at N.once _ ht, lam_at N.once _ ht, lam_at N.once _ ht, ax, ay, am]
    grind
theorem join_mix {a b : List Rat} {k : Rat} (ha : a.length = o.parts.length) (hb : b.length = o.parts.length) : joinL o ties fl (mixL a b k) = mixL (joinL o ties fl a) (joinL o ties fl b) k := by
  have la := join_len' N ha
  have lb := join_len' N hb
  have lm := mix_len N (k := k) ha hb
  refine List.ext_getElem? fun i => ?_
  cases hi : o.parts[i]? with
  | none =>
    have := List.getElem?_eq_none_iff.mp hi
    rw [List.getElem?_eq_none (by rw [join_len' N lm]; exact this), List.getElem?_eq_none (by rw [mix_len N la lb]; exact this)]
  | some e =>
    have lt := (List.getElem?_eq_some_iff.mp hi).1
    have hx : a[i]? = some a[i] := List.getElem?_eq_getElem (by omega)
    have hy : b[i]? = some b[i] := List.getElem?_eq_getElem (by omega)
    by_cases hm : e.1 ∈ ties.map (·.1)
    · obtain ⟨t, ht, et⟩ := List.mem_map.mp hm
      rw [join_tied N hi (mix_get N hx hy) ht et, mix_get N (join_tied N hi hx ht et) (join_tied N hi hy ht et), dif_mix N ha hb t ht]
      congr 1
      grind
    · rw [join_free N hi (mix_get N hx hy) hm, mix_get N (join_free N hi hx hm) (join_free N hi hy hm)]
end
end Ct

/-! Rows, number by number. -/
namespace Ct
open PySem PySem.Spec PyProof.Rows L2 TL RZ
def diffL (a b : List Rat) : List Rat := List.zipWith (fun x y => x - y) a b
def prodL (a b : List Rat) : List Rat := List.zipWith (fun x y => x * y) a b
def chargeL (o : Own) (a : List Rat) : List Rat := List.zipWith (fun (p : Str × Int × Int) x => ratF p.2 * x) o.parts a
def Fits4 (a : List Rat) : Prop := ∀ r ∈ a, FitR 4400 r
def spDiff (K : PySem.W.Frag) : Sp := fun vs H Q _ => ∃ (u v : V) (a b : List Rat), vs = [u, v] ∧ RatsAt K H u a ∧ RatsAt K H v b ∧ a.length = b.length ∧ a.length ≤ 100 ∧ Fits4 a ∧ Fits4 b ∧ ∀ v' H', Same H H' → RatsAt K H' v' (diffL a b) → Q v' H'
def spInner (K : PySem.W.Frag) : Sp := fun vs H Q _ => ∃ (u v : V) (a b : List Rat), vs = [u, v] ∧ RatsAt K H u a ∧ RatsAt K H v b ∧ a.length = b.length ∧ a.length ≤ 100 ∧ Fits4 a ∧ Fits4 b ∧ SumOk (prodL a b) ∧ ∀ v' H', Same H H' → RatAt K H' v' (sumL (prodL a b)) → Q v' H'
def spCharges (K : PySem.W.Frag) (C : Addr) : Sp := fun vs H Q _ => ∃ (v u : V) (o : Own) (a : List Rat), vs = [v, u] ∧ CircN K C H v o ∧ OwnOk o ∧ RatsAt K H u a ∧ a.length = o.parts.length ∧ Fits4 a ∧ ∀ v' H', Same H H' → RatsAt K H' v' (chargeL o a) → Q v' H'
section
variable {P : Program} {w : World} {K : PySem.W.Frag} {mg : Str → Option Value} {base : Heap} {C z : Addr}
/-- a comprehension over two tuples side by side, of rationals -/
theorem comp_two {g : TG} {te : TE} {vs : List Nat} {σ : L2.St} {H1 : Hp} {D a b : Addr} {xs ys : List V} {A B : Type} {as : List A} {bs : List B} {R : V → A → Prop} {S : V → B → Prop} {f : A → B → Rat} {Qd : Hp → Prop} (nD : H1 D = none)
    (hl : xs.length = ys.length) (few : xs.length < 1000000) (ha : SqT K H1 a xs) (hb : SqT K H1 b ys) (pa : Paired R xs as) (pb : Paired S ys bs)
    (turn : ∀ x e y c T H (Z : VK), R x e → e ∈ as → S y c → c ∈ bs → Same H1 H → SqT K H T [x, y] → (∀ v H4, Same H H4 → RatAt K H4 v (f e c) → Z v H4) → g (.ref T) (wipe σ vs) H fun σ2 H2 => wipe σ2 vs = wipe σ vs ∧ te σ2 H2 Z)
    (hd : ∀ H acc, Same H1 H → H D = some (.lst acc) → Paired (RatAt K H) acc (List.zipWith f as bs) → Qd H) :
    ∃ W : Nat → Nat → Hp → Prop, (∃ m, W 0 m (upd H1 D (.lst []))) ∧ ∀ i m H, W i m H →
      ((ItzT K a b).stop i H ∧ Qd H) ∨ ((ItzT K a b).go i H ∧ ∃ Nx : Hp → Prop, (∀ H', Nx H' → ∃ m', m' < m ∧ W (i + 1) m' H') ∧ ∀ x H', (ItzT K a b).yld i H x H' → g x (wipe σ vs) H' fun σ2 H2 => wipe σ2 vs = wipe σ vs ∧ tYes σ2 H2 fun b H3 =>
        if b = true then te σ2 H3 fun y H4 => ∃ acc, H4 D = some (.lst acc) ∧ acc.length < sizeLine ∧ Nx (upd H4 D (.lst (acc ++ [y]))) else Nx H3) := by
  have lz : (List.zipWith f as bs).length = xs.length := by
    rw [List.length_zipWith, ← pa.length, ← pb.length]
    omega
  refine lc_it (walk_zipT hl) (fun i H' => ∃ acc, H' D = some (.lst acc) ∧ Paired (RatAt K H') acc ((List.zipWith f as bs).take i) ∧ Same H1 H') ⟨[], upd_same, .nil, same_upd nD⟩ (fun i H' _ ⟨_, _, _, s'⟩ => ⟨SqT.same s' ha, SqT.same s' hb⟩) ?_ ?_
  · rintro i x H' H'' hi ⟨acc, hD, pac, s'⟩ ⟨T, x1, x2, rfl, nT, rfl, ex1, ex2⟩
    obtain ⟨e, ee, re⟩ := Paired.at pa ex1
    obtain ⟨c, ec, sc⟩ := Paired.at pb ex2
    have s2 := same_upd (o := .tup [x1, x2]) nT
    have hT : SqT K (upd H' T (.tup [x1, x2])) T [x1, x2] := SqT.of upd_same
    generalize upd H' T (.tup [x1, x2]) = H2 at *
    have step := turn x1 e x2 c T H2 (fun y H4 => ∃ acc, H4 D = some (.lst acc) ∧ acc.length < sizeLine ∧ ∃ acc', (upd H4 D (.lst (acc ++ [y]))) D = some (.lst acc') ∧ Paired (RatAt K (upd H4 D (.lst (acc ++ [y])))) acc' ((List.zipWith f as bs).take (i + 1)) ∧ Same H1 (upd H4 D (.lst (acc ++ [y])))) re (List.mem_of_getElem? ee) sc (List.mem_of_getElem? ec) (s'.trans s2) hT ?_
    · exact step
    · intro v H4 s4 hv
      have hD4 := s4 _ _ (s2 _ _ hD)
      refine ⟨acc, hD4, ?_, acc ++ [v], upd_same, ?_, same_but ((s'.trans s2).trans s4) nD⟩
      · have l1 := pac.length
        have l2 := List.length_take_le' i (List.zipWith f as bs)
        have l3 := List.length_take_le i (List.zipWith f as bs)
        show acc.length < 16777216
        omega
      · have en : (List.zipWith f as bs)[i]? = some (f e c) := by rw [List.getElem?_zipWith, ee, ec]
        rw [take_next en]
        exact (pac.mono fun _ _ h => ((h.same s2).same s4).list hD4).snoc (hv.list hD4)
  · rintro H' ⟨acc, hD, pac, s'⟩
    rw [← lz, List.take_length] at pac
    exact hd H' acc s' hD pac
end
end Ct

/-! What fits, what flows, what is lost, potentials. -/
namespace Ct
open PySem PySem.Spec PyProof.Rows L2 TL RZ
def ratsD (rs : List Rat) : PyData := .tuple (rs.map ratD)
theorem dpAll_rats {K : PySem.W.Frag} {H : Hp} : ∀ {xs : List V} {rs : List Rat}, Paired (RatAt K H) xs rs → DpAll K H xs (rs.map ratD)
  | _, _, .nil => .nil
  | _, _, .cons h t => .cons h.dp (dpAll_rats t)
theorem RatsAt.dp {K : PySem.W.Frag} {H : Hp} {v : V} {rs : List Rat} : RatsAt K H v rs → Dp K H v (ratsD rs) := fun ⟨a, xs, e, h, p⟩ => e ▸ .tup h (dpAll_rats p)
theorem ratD_lay (r : Rat) : (ratD r).canLay0 = true := rfl
theorem rats_lay : ∀ rs : List Rat, PyData.canLayAll0 (rs.map ratD) = true
  | [] => by simp [PyData.canLayAll0]
  | r :: rs => by
    have h := rats_lay rs
    have g := ratD_lay r
    simp only [List.map_cons, PyData.canLayAll0, g, h, Bool.and_self]
theorem rats_depth : ∀ rs : List Rat, PyData.depthAll (rs.map ratD) ≤ 2
  | [] => by simp [PyData.depthAll]
  | r :: rs => by
    have h1 := rats_depth rs
    have h2 : (ratD r).depth ≤ 2 := by show _ ≤ 2; simp [ratD, PyData.depth, PyData.depthAll]
    simp only [List.map_cons, PyData.depthAll]
    omega
theorem ratsD_shaped (rs : List Rat) : SeqAt.shaped (ratsD rs) = true := by
  have h2 : PyData.depth (ratsD rs) ≤ 64 := by
    have := rats_depth rs
    unfold ratsD
    simp only [PyData.depth]
    omega
  show (PyData.canLay0 (ratsD rs) && decide (PyData.depth (ratsD rs) ≤ 64)) = true
  rw [Bool.and_eq_true]
  exact ⟨by unfold ratsD; simp only [PyData.canLay0]; exact rats_lay rs, decide_eq_true h2⟩
theorem rats_eqv : ∀ a b : List Rat, PyData.eqvAll (a.map ratD) (b.map ratD) = decide (a = b)
  | [], [] => by simp [PyData.eqvAll]
  | [], y :: b => by simp [PyData.eqvAll]
  | x :: a, [] => by simp [PyData.eqvAll]
  | x :: a, y :: b => by
    simp only [List.map_cons, PyData.eqvAll, ratD_eqv, rats_eqv a b, List.cons.injEq]
    by_cases h1 : x = y <;> by_cases h2 : a = b <;> simp [h1, h2]
theorem ratsD_eqv (a b : List Rat) : PyData.eqv (ratsD a) (ratsD b) = decide (a = b) := by
  unfold ratsD
  simp only [PyData.eqv]
  exact rats_eqv a b
/-- rows whose square can be told -/
structure SqOk (o : Own) (row : List Rat) : Prop where
  fit : Fits4 row
  chg : Fits4 (chargeL o row)
  sum : SumOk (prodL (chargeL o row) row)
def sqR (o : Own) (row : List Rat) : Rat := sumL (prodL (chargeL o row) row)
/-- told pairs of a junction and its potential -/
def PotsAt (K : PySem.W.Frag) (H : Hp) (v : V) (es : List (Str × Rat)) : Prop := ∃ a xs, v = .ref a ∧ SqT K H a xs ∧ Paired (fun v (e : Str × Rat) => ∃ t u, v = .ref t ∧ SqT K H t [.str e.1, u] ∧ RatAt K H u e.2) xs es
def spFit (K : PySem.W.Frag) (C : Addr) : Sp := fun vs H Q _ => ∃ (v y : V) (o : Own) (x : Str) (ties : Ties) (st : List Rat), vs = [v, .str x, y] ∧ CircN K C H v o ∧ OwnOk o ∧ (x, ties) ∈ o.joinings ∧ RatsAt K H y st ∧ st.length = o.parts.length ∧ (∀ fl, FreeOf o ties fl → JoinOk o ties fl st) ∧
  ∀ fl H', FreeOf o ties fl → Same H H' → Q (.bl (decide (joinL o ties fl st = st))) H'
def spFlow (K : PySem.W.Frag) (C : Addr) : Sp := fun vs H Q _ => ∃ (v y : V) (o : Own) (x : Str) (ties : Ties) (st : List Rat), vs = [v, .str x, y] ∧ CircN K C H v o ∧ OwnOk o ∧ (x, ties) ∈ o.joinings ∧ RatsAt K H y st ∧ st.length = o.parts.length ∧ Fits4 st ∧ (∀ fl, FreeOf o ties fl → JoinOk o ties fl st ∧ Fits4 (joinL o ties fl st) ∧ Fits4 (diffL (joinL o ties fl st) st)) ∧
  ∀ fl v' H', FreeOf o ties fl → Same H H' → RatsAt K H' v' (chargeL o (diffL (joinL o ties fl st) st)) → Q v' H'
def spSquare (K : PySem.W.Frag) (C : Addr) : Sp := fun vs H Q _ => ∃ (v y : V) (o : Own) (row : List Rat), vs = [v, y] ∧ CircN K C H v o ∧ OwnOk o ∧ RatsAt K H y row ∧ row.length = o.parts.length ∧ SqOk o row ∧ ∀ v' H', Same H H' → RatAt K H' v' (sqR o row) → Q v' H'
def spLost (K : PySem.W.Frag) (C : Addr) : Sp := fun vs H Q _ => ∃ (v y : V) (o : Own) (x : Str) (ties : Ties) (st : List Rat), vs = [v, .str x, y] ∧ CircN K C H v o ∧ OwnOk o ∧ (x, ties) ∈ o.joinings ∧ RatsAt K H y st ∧ st.length = o.parts.length ∧ Fits4 st ∧ (∀ fl, FreeOf o ties fl → JoinOk o ties fl st ∧ Fits4 (joinL o ties fl st) ∧ SqOk o (diffL (joinL o ties fl st) st)) ∧
  ∀ fl v' H', FreeOf o ties fl → Same H H' → RatAt K H' v' (sqR o (diffL (joinL o ties fl st) st)) → Q v' H'
def spPots (K : PySem.W.Frag) (C : Addr) : Sp := fun vs H Q _ => ∃ (v y : V) (o : Own) (x : Str) (ties : Ties) (st : List Rat), vs = [v, .str x, y] ∧ CircN K C H v o ∧ OwnOk o ∧ (x, ties) ∈ o.joinings ∧ RatsAt K H y st ∧ st.length = o.parts.length ∧
  (∀ fl, FreeOf o ties fl → JoinOk o ties fl st ∧ joinL o ties fl st = st ∧ ∀ j ∈ fl, ∃ r, potT o ties fl st j = some r) ∧
  ∀ fl fl' v' H', FreeOf o ties fl → FreeOf o ties fl' → Same H H' → PotsAt K H' v' (fl'.map fun j => (j, (potT o ties fl st).at j)) → Q v' H'
theorem join_len {o : Own} {ties : Ties} {fl : List Str} {st : List Rat} (h : st.length = o.parts.length) : (joinL o ties fl st).length = o.parts.length := by
  unfold joinL standL
  rw [List.length_zipWith]
  omega
theorem diff_len {a b : List Rat} (h : a.length = b.length) : (diffL a b).length = b.length := by
  unfold diffL
  rw [List.length_zipWith]
  omega
theorem charge_len {o : Own} {a : List Rat} (h : a.length = o.parts.length) : (chargeL o a).length = o.parts.length := by
  unfold chargeL
  rw [List.length_zipWith]
  omega
section
variable {P : Program} {w : World} {K : PySem.W.Frag} {mg : Str → Option Value} {base : Heap} {C z : Addr}
end
end Ct

/-! Sums over parts; the step stands at right angles to all that fits; sources at 0: from one side to the other. -/
namespace Ct
open PySem PySem.Spec PyProof.Rows L2 TL RZ
/-- size times number times number, added up -/
def dotR (o : Own) (a b : List Rat) : Rat := sumL (prodL (chargeL o a) b)
/-- a row's number at a part -/
abbrev atP (o : Own) (a : List Rat) (x : Str) : Rat := (aheadT o a).at x
theorem sm_subset [DecidableEq α] {g : α → Rat} {l m : List α} (nl : l.Nodup) (nm : m.Nodup) (sub : ∀ x ∈ m, x ∈ l) (out : ∀ x ∈ l, x ∉ m → g x = 0) : sm g l = sm g m := by
  have e1 : sm g m = sm (fun y => sm (fun x => if x = y then g x else 0) l) m := sm_congr fun y hy => (sm_single nl (sub y hy)).symm
  rw [e1, sm_swap]
  refine sm_congr fun x hx => ?_
  by_cases h : x ∈ m
  · have e2 : sm (fun y => if x = y then g x else 0) m = sm (fun y => if y = x then g y else 0) m := sm_congr fun y _ => by
      by_cases q : x = y
      · subst q
        rfl
      · rw [if_neg q, if_neg fun z => q z.symm]
    rw [e2, sm_single nm h]
  · rw [out x hx h]
    exact (sm_zero fun y hy => if_neg fun (z : x = y) => h (z ▸ hy)).symm
theorem sm_map {α β : Type} (f : β → Rat) (k : α → β) : ∀ l : List α, sm f (l.map k) = sm (fun x => f (k x)) l
  | [] => rfl
  | x :: r => by
    show f (k x) + sm f (r.map k) = f (k x) + _
    rw [sm_map f k r]
section
variable {o : Own} (once : (o.parts.map (·.1)).Nodup)
include once
theorem size_is {e : Str × Int × Int} (he : e ∈ o.parts) : (sizeT o).at e.1 = ratF e.2 :=
  at_of ((put_fold (fun e : Str × Int × Int => e.1) (fun e => ratF e.2) o.parts Tab.no).2 once e he)
/-- the sum over all parts, by their names -/
theorem dot_sm {a b : List Rat} (la : a.length = o.parts.length) (lb : b.length = o.parts.length) : dotR o a b = sm (fun x => (sizeT o).at x * (atP o a x * atP o b x)) (o.parts.map (·.1)) := by
  have e : prodL (chargeL o a) b = o.parts.map fun e => (sizeT o).at e.1 * (atP o a e.1 * atP o b e.1) := by
    unfold prodL chargeL
    refine List.ext_getElem? fun i => ?_
    rw [List.getElem?_zipWith, List.getElem?_zipWith, List.getElem?_map]
    cases hi : o.parts[i]? with
    | none => rfl
    | some e =>
      have lt := (List.getElem?_eq_some_iff.mp hi).1
      have ha : a[i]? = some a[i] := List.getElem?_eq_getElem (by omega)
      have hb : b[i]? = some b[i] := List.getElem?_eq_getElem (by omega)
      rw [ha, hb]
      show some (ratF e.2 * a[i] * b[i]) = some ((sizeT o).at e.1 * (atP o a e.1 * atP o b e.1))
      rw [size_is once (List.mem_of_getElem? hi), show atP o a e.1 = a[i] from ahead_at once la hi ha, show atP o b e.1 = b[i] from ahead_at once lb hi hb]
      congr 1
      grind
  unfold dotR
  rw [e, sum_sm, sm_map]
theorem dot_comm {a b : List Rat} (la : a.length = o.parts.length) (lb : b.length = o.parts.length) : dotR o a b = dotR o b a := by
  rw [dot_sm once la lb, dot_sm once lb la]
  exact sm_congr fun x _ => by grind
theorem at_diff {a b : List Rat} (la : a.length = o.parts.length) (lb : b.length = o.parts.length) {x : Str} (hx : x ∈ o.parts.map (·.1)) : atP o (diffL a b) x = atP o a x - atP o b x := by
  obtain ⟨e, he, rfl⟩ := List.mem_map.mp hx
  obtain ⟨i, hi⟩ := List.mem_iff_getElem?.mp he
  have lt := (List.getElem?_eq_some_iff.mp hi).1
  have ha : a[i]? = some a[i] := List.getElem?_eq_getElem (by omega)
  have hb : b[i]? = some b[i] := List.getElem?_eq_getElem (by omega)
  have hd : (diffL a b)[i]? = some (a[i] - b[i]) := by
    unfold diffL
    rw [List.getElem?_zipWith, ha, hb]
  have ld : (diffL a b).length = o.parts.length := by
    unfold diffL
    rw [List.length_zipWith]
    omega
  rw [show atP o a e.1 = a[i] from ahead_at once la hi ha, show atP o b e.1 = b[i] from ahead_at once lb hi hb, show atP o (diffL a b) e.1 = _ from ahead_at once ld hi hd]
theorem dot_sub {a b c : List Rat} (la : a.length = o.parts.length) (lb : b.length = o.parts.length) (lc : c.length = o.parts.length) : dotR o (diffL a b) c = dotR o a c - dotR o b c := by
  have ld : (diffL a b).length = o.parts.length := by
    unfold diffL
    rw [List.length_zipWith]
    omega
  rw [dot_sm once ld lc, dot_sm once la lc, dot_sm once lb lc, ← sm_sub]
  refine sm_congr fun x hx => ?_
  rw [at_diff once la lb hx]
  grind
end
section
variable {o : Own} {ties : Ties} {fl : List Str} (N : NetOk o ties fl)
include N
theorem at_join {st : List Rat} (len : st.length = o.parts.length) {t : Str × Str × Str} (ht : t ∈ ties) : atP o (joinL o ties fl st) t.1 = givenD o ties fl t + dif fl zS (xT o ties fl st) t := by
  obtain ⟨i, e, a, hi, ee, ha, _⟩ := part_of N len ht
  rw [← ee]
  exact ahead_at N.p_once (join_len' N len) hi (join_tied N hi ha ht ee.symm)
theorem at_out {st : List Rat} (len : st.length = o.parts.length) {x : Str} (hx : x ∈ o.parts.map (·.1)) (h : x ∉ ties.map (·.1)) : atP o (joinL o ties fl st) x = atP o st x := by
  obtain ⟨e, he, rfl⟩ := List.mem_map.mp hx
  obtain ⟨i, hi⟩ := List.mem_iff_getElem?.mp he
  have lt := (List.getElem?_eq_some_iff.mp hi).1
  have ha : st[i]? = some st[i] := List.getElem?_eq_getElem (by omega)
  rw [show atP o (joinL o ties fl st) e.1 = st[i] from ahead_at N.p_once (join_len' N len) hi (join_free N hi ha h), show atP o st e.1 = st[i] from ahead_at N.p_once len hi ha]
/-- nothing comes to a free junction -/
theorem came_none {st : List Rat} (len : st.length = o.parts.length) {j : Str} (hj : j ∈ fl) : sm (fun t => zS t j * (cS o t * (atP o st t.1 - atP o (joinL o ties fl st) t.1))) ties = 0 := by
  have q := x_solves N st hj
  rw [lap_dif N] at q
  unfold lapB at q
  have e : sm (fun t => zS t j * (cS o t * (atP o st t.1 - atP o (joinL o ties fl st) t.1))) ties = sm (fun t => zS t j * lamS o ties fl st t) ties - sm (fun t => zS t j * (cS o t * dif fl zS (xT o ties fl st) t)) ties := by
    rw [← sm_sub]
    refine sm_congr fun t ht => ?_
    rw [lam_at N.once _ ht, at_join N len ht]
    show zS t j * (cS o t * ((aheadT o st).at t.1 - _)) = _
    grind
  rw [e, q]
  grind
/-- the step times any difference of potentials of free junctions -/
theorem step_dif {st : List Rat} (len : st.length = o.parts.length) (y : Str → Rat) : sm (fun t => cS o t * (atP o st t.1 - atP o (joinL o ties fl st) t.1) * dif fl zS y t) ties = 0 := by
  rw [← pull ties fl zS y fun t => cS o t * (atP o st t.1 - atP o (joinL o ties fl st) t.1)]
  refine sm_zero fun j hj => ?_
  rw [came_none N len hj]
  exact Rat.mul_zero _
/-- a row that is, at ties, a difference of potentials of free junctions stands at right angles to the step -/
theorem step_perp {st r : List Rat} (len : st.length = o.parts.length) (lr : r.length = o.parts.length) {y : Str → Rat} (hr : ∀ t ∈ ties, atP o r t.1 = dif fl zS y t) : dotR o (diffL st (joinL o ties fl st)) r = 0 := by
  have lJ := join_len' (fl := fl) N len
  have ld : (diffL st (joinL o ties fl st)).length = o.parts.length := by
    unfold diffL
    rw [List.length_zipWith]
    omega
  rw [dot_sm N.p_once ld lr]
  have sub : ∀ x ∈ ties.map (·.1), x ∈ o.parts.map (·.1) := fun x hx => by
    obtain ⟨t, ht, rfl⟩ := List.mem_map.mp hx
    exact N.of t ht
  rw [sm_subset N.p_once N.once sub fun x hx h => ?_]
  · rw [sm_map, ← step_dif N len y]
    refine sm_congr fun t ht => ?_
    rw [at_diff N.p_once len lJ (N.of t ht), hr t ht]
    show (sizeT o).at t.1 * ((_ - _) * _) = cS o t * (_ - _) * _
    show (sizeT o).at t.1 * ((_ - _) * _) = (sizeT o).at t.1 * (_ - _) * _
    grind
  · rw [at_diff N.p_once len lJ hx, at_out N len hx h]
    grind
end
/-! ### sources at 0 -/
def Flat (o : Own) : Prop := ∀ e ∈ o.sources, ratF e.2 = 0
theorem flat_given {o : Own} (f : Flat o) (x : Str) : (givenT o).at x = 0 := by
  have h : ∀ (l : List (Str × Int × Int)) (m : Tab), (∀ e ∈ l, ratF e.2 = 0) → (∀ y, m.at y = 0) → ∀ y, (l.foldl (fun m e => m.put e.1 (ratF e.2)) m).at y = 0 := by
    intro l
    induction l with
    | nil => exact fun m _ h => h
    | cons e l ih =>
      intro m hl hm
      refine ih _ (fun z hz => hl z (List.mem_cons_of_mem _ hz)) fun y => ?_
      show (if y = e.1 then some (ratF e.2) else m y).getD 0 = 0
      by_cases q : y = e.1
      · rw [if_pos q]
        exact hl e List.mem_cons_self
      · rw [if_neg q]
        exact hm y
  refine h o.sources (Tab.no.put "gnd" 0) f (fun y => ?_) x
  show (if y = "gnd" then some (0 : Rat) else none).getD 0 = 0
  by_cases q : y = "gnd"
  · rw [if_pos q]
    rfl
  · rw [if_neg q]
    rfl
section
variable {o : Own} {ties : Ties} {fl : List Str} (N : NetOk o ties fl) (f : Flat o)
include N f
theorem flat_zero (x : Str) : (zeroT o fl).at x = 0 := by
  by_cases h : x ∈ fl
  · exact zero_in N.nd h
  · unfold Tab.at
    rw [zero_out h]
    exact flat_given f x
theorem flat_dif {t : Str × Str × Str} (ht : t ∈ ties) : givenD o ties fl t = 0 := by
  rw [given_at N.once ht, flat_zero N f, flat_zero N f]
  grind
/-- the step stands at right angles to all that stands behind -/
theorem flat_perp {a b : List Rat} (la : a.length = o.parts.length) (lb : b.length = o.parts.length) : dotR o (diffL a (joinL o ties fl a)) (joinL o ties fl b) = 0 := by
  refine step_perp N la (join_len' N lb) (y := xT o ties fl b) fun t ht => ?_
  rw [at_join N lb ht, flat_dif N f ht, Rat.zero_add]
theorem flat_side {a b : List Rat} (la : a.length = o.parts.length) (lb : b.length = o.parts.length) : dotR o (joinL o ties fl a) b = dotR o a (joinL o ties fl b) := by
  have lA := join_len' (fl := fl) N la
  have lB := join_len' (fl := fl) N lb
  have p1 := flat_perp N f la lb
  have p2 := flat_perp N f lb la
  rw [dot_sub N.p_once la lA lB] at p1
  rw [dot_sub N.p_once lb lB lA] at p2
  rw [dot_comm N.p_once lA lb]
  have c := dot_comm N.p_once lA lB
  grind
end
end Ct

/-! Fractions by one denominator; rows in least terms. -/
namespace Ct
open PySem PySem.Spec PyProof.Rows L2 TL RZ
/-- so many times r is a whole number, M at most -/
def Wn (D M : Nat) (r : Rat) : Prop := ∃ n : Int, r * (D : Rat) = (n : Rat) ∧ n.natAbs ≤ M
theorem Wn.mono {D M M' : Nat} {r : Rat} (l : M ≤ M') : Wn D M r → Wn D M' r := fun ⟨n, e, h⟩ => ⟨n, e, Nat.le_trans h l⟩
theorem Wn.add {D M M' : Nat} {r s : Rat} : Wn D M r → Wn D M' s → Wn D (M + M') (r + s) := fun ⟨n, e, h⟩ ⟨m, f, g⟩ => ⟨n + m, by
  rw [Rat.intCast_add, ← e, ← f]
  grind, by omega⟩
theorem Wn.sub {D M M' : Nat} {r s : Rat} : Wn D M r → Wn D M' s → Wn D (M + M') (r - s) := fun ⟨n, e, h⟩ ⟨m, f, g⟩ => ⟨n - m, by
  rw [Rat.intCast_sub, ← e, ← f]
  grind, by omega⟩
theorem Wn.mul {D E M M' : Nat} {r s : Rat} : Wn D M r → Wn E M' s → Wn (D * E) (M * M') (r * s) := fun ⟨n, e, h⟩ ⟨m, f, g⟩ => ⟨n * m, by
  rw [Rat.intCast_mul, ← e, ← f, Rat.natCast_mul]
  grind, by
  rw [Int.natAbs_mul]
  exact Nat.mul_le_mul h g⟩
theorem Wn.times {D M : Nat} {r : Rat} (k : Nat) : Wn D M r → Wn (D * k) (M * k) r := fun ⟨n, e, h⟩ => ⟨n * (k : Int), by
  rw [Rat.intCast_mul, ← e, Rat.natCast_mul]
  have : (((k : Nat) : Int) : Rat) = (k : Rat) := rfl
  rw [this, Rat.mul_assoc], by
  rw [Int.natAbs_mul, Int.natAbs_natCast]
  exact Nat.mul_le_mul_right k h⟩
theorem Wn.zero (D : Nat) : Wn D 0 0 := ⟨0, Rat.zero_mul _, Nat.le_refl 0⟩
theorem Wn.int (i : Int) : Wn 1 i.natAbs (intQ i) := ⟨i, Rat.mul_one _, Nat.le_refl _⟩
theorem Wn.sm {α : Type} {D M : Nat} {f : α → Rat} : ∀ {l : List α}, (∀ x ∈ l, Wn D M (f x)) → Wn D (l.length * M) (sm f l)
  | [], _ => (Wn.zero D).mono (Nat.zero_le _)
  | x :: r, h => by
    have a := h x List.mem_cons_self
    have b := Wn.sm fun y hy => h y (List.mem_cons_of_mem x hy)
    refine (a.add b).mono ?_
    rw [List.length_cons, Nat.add_mul, Nat.one_mul]
    omega
theorem Wn.whole {D M : Nat} {r : Rat} (h : Wn D M r) : ∃ m : Nat, D = r.den * m ∧ ∃ n : Int, r * (D : Rat) = (n : Rat) ∧ n.natAbs ≤ M ∧ n = r.num * (m : Int) := by
  obtain ⟨n, e, hn⟩ := h
  have dn : (r.den : Rat) ≠ 0 := fun z => by
    have := Rat.natCast_eq_zero_iff.mp z
    have := r.den_pos
    omega
  have e1 : (r.num : Rat) = r * (r.den : Rat) := by
    have e0 := Rat.mkRat_self r
    rw [Rat.mkRat_eq_div] at e0
    have q : (r.num : Rat) / (r.den : Rat) * (r.den : Rat) = r.num := Rat.div_mul_cancel dn
    rw [e0] at q
    exact q.symm
  have e2 : r.num * (D : Int) = n * (r.den : Int) := by
    have : ((r.num * (D : Int) : Int) : Rat) = ((n * (r.den : Int) : Int) : Rat) := by
      rw [Rat.intCast_mul, Rat.intCast_mul, ← e, e1]
      have c1 : (((D : Nat) : Int) : Rat) = (D : Rat) := rfl
      have c2 : (((r.den : Nat) : Int) : Rat) = (r.den : Rat) := rfl
      rw [c1, c2]
      grind
    exact Rat.intCast_inj.mp this
  have dv : r.den ∣ r.num.natAbs * D := by
    have : (r.den : Int) ∣ r.num * (D : Int) := ⟨n, by rw [e2, Int.mul_comm]⟩
    have q := Int.natAbs_dvd_natAbs.mpr this
    rwa [Int.natAbs_mul, Int.natAbs_natCast, Int.natAbs_natCast] at q
  obtain ⟨m, hm⟩ := Nat.Coprime.dvd_of_dvd_mul_left (Nat.Coprime.symm r.reduced) dv
  refine ⟨m, hm, n, e, hn, ?_⟩
  have d0 : (r.den : Int) ≠ 0 := by
    have := r.den_pos
    omega
  have : n * (r.den : Int) = r.num * (m : Int) * (r.den : Int) := by
    rw [← e2, hm, Int.natCast_mul]
    grind
  exact Int.eq_of_mul_eq_mul_right d0 this
theorem Wn.den {D M : Nat} {r : Rat} (h : Wn D M r) : r.den ∣ D := by
  obtain ⟨m, e, _⟩ := h.whole
  exact ⟨m, e⟩
theorem Wn.fit {D M b : Nat} {r : Rat} (h : Wn D M r) (D0 : 0 < D) (hD : D < 2 ^ b) (hM : M < 2 ^ b) : FitR b r := by
  obtain ⟨m, e, n, _, hn, en⟩ := h.whole
  have m0 : 0 < m := by
    rcases Nat.eq_zero_or_pos m with z | z
    · rw [z, Nat.mul_zero] at e
      omega
    · exact z
  refine ⟨?_, ?_⟩
  · have : r.num.natAbs ≤ n.natAbs := by
      rw [en, Int.natAbs_mul, Int.natAbs_natCast]
      exact Nat.le_mul_of_pos_right _ m0
    omega
  · have : r.den ≤ D := by
      rw [e]
      exact Nat.le_mul_of_pos_right _ m0
    omega
theorem lcm_dvd' {D : Nat} : ∀ (rs : List Rat) (s : Nat), s ∣ D → (∀ r ∈ rs, r.den ∣ D) → rs.foldl (fun s r => Nat.lcm s r.den) s ∣ D
  | [], s, h, _ => h
  | r :: rs, s, h, a => lcm_dvd' rs _ (Nat.lcm_dvd h (a r List.mem_cons_self)) fun x hx => a x (List.mem_cons_of_mem _ hx)
theorem lcm_le {D : Nat} {rs : List Rat} (D0 : 0 < D) (h : ∀ r ∈ rs, r.den ∣ D) : lcmL rs ≤ D := Nat.le_of_dvd D0 (lcm_dvd' rs 1 (Nat.one_dvd D) h)
/-! ### rows in least terms -/
theorem gcd_nn : ∀ (ns : List Int) (s : Int), 0 ≤ s → 0 ≤ ns.foldl gcdZ s
  | [], _, h => h
  | _ :: ns, _, _ => gcd_nn ns _ (Int.natCast_nonneg _)
theorem dvd_gcd {q : Int} : ∀ (ns : List Int) (s : Int), q ∣ s → (∀ n ∈ ns, q ∣ n) → q ∣ ns.foldl gcdZ s
  | [], _, h, _ => h
  | n :: ns, s, h, a => dvd_gcd ns _ (by
    show q ∣ ((Nat.gcd s.natAbs n.natAbs : Nat) : Int)
    refine Int.natAbs_dvd_natAbs.mp ?_
    rw [Int.natAbs_natCast]
    exact Nat.dvd_gcd (Int.natAbs_dvd_natAbs.mpr h) (Int.natAbs_dvd_natAbs.mpr (a n List.mem_cons_self))) fun x hx => a x (List.mem_cons_of_mem _ hx)
theorem abs_one {q : Int} (h : q ∣ 1) : q.natAbs = 1 := Nat.dvd_one.mp (Int.natAbs_dvd_natAbs.mpr h)
/-- only ones divide all of the row -/
def Prim (r : List Int) : Prop := ∀ q : Int, (∀ n ∈ r, q ∣ n) → (∃ n ∈ r, n ≠ 0) → q.natAbs = 1
theorem least_prim (ns : List Int) : Prim (leastL ns) := by
  intro q h ⟨n0, hn0, nz⟩
  have nn := gcd_nn ns 0 (Int.le_refl 0)
  unfold leastL at h hn0
  split at h
  · rename_i l2
    rw [if_pos l2] at hn0
    have dq : q ∣ gcdL ns := dvd_gcd ns 0 (Int.dvd_zero q) h
    have d0 : gcdL ns ∣ n0 := gcdL_dvd hn0
    have g1 : gcdL ns = 1 := by
      have : gcdL ns ≠ 0 := fun z => by
        rw [z] at d0
        exact nz (Int.zero_dvd.mp d0)
      unfold gcdL at this l2 ⊢
      omega
    rw [g1] at dq
    exact abs_one dq
  · rename_i l2
    rw [if_neg l2] at hn0
    have g0 : gcdL ns ≠ 0 := by
      intro z
      rw [z] at l2
      exact l2 (by decide)
    have dq : gcdL ns * q ∣ gcdL ns := by
      refine dvd_gcd ns 0 (Int.dvd_zero _) fun n hn => ?_
      obtain ⟨k, hk⟩ := gcdL_dvd hn
      have e : n.fdiv (gcdL ns) = k := by
        rw [hk]
        exact Int.mul_fdiv_cancel_left k g0
      have := h (n.fdiv (gcdL ns)) (List.mem_map_of_mem hn)
      rw [e] at this
      rw [hk]
      exact Int.mul_dvd_mul_left _ this
    obtain ⟨k, hk⟩ := dq
    have : q * k = 1 := by
      have : gcdL ns * 1 = gcdL ns * (q * k) := by rw [Int.mul_one, ← Int.mul_assoc]; exact hk
      exact (Int.eq_of_mul_eq_mul_left g0 this).symm
    exact abs_one ⟨k, this.symm⟩
end Ct

/-! How great the numbers of the elimination become. -/
namespace Ct
open PySem PySem.Spec PyProof.Rows L2 TL RZ
theorem prim_le {r : List Int} (hp : Prim r) {n : Nat → Int} {g : Rat} (h : ∀ j, (idx r j : Rat) = g * (n j : Rat)) (j : Nat) : (idx r j).natAbs ≤ (n j).natAbs := by
  by_cases nz : ∃ x ∈ r, x ≠ 0
  · have gd : (g.den : Rat) ≠ 0 := fun z => by
      have := Rat.natCast_eq_zero_iff.mp z
      have := g.den_pos
      omega
    have e1 : (g.num : Rat) = g * (g.den : Rat) := by
      have e0 := Rat.mkRat_self g
      rw [Rat.mkRat_eq_div] at e0
      have q : (g.num : Rat) / (g.den : Rat) * (g.den : Rat) = g.num := Rat.div_mul_cancel gd
      rw [e0] at q
      exact q.symm
    have cross : ∀ j, idx r j * (g.den : Int) = g.num * n j := fun j => by
      have : ((idx r j * (g.den : Int) : Int) : Rat) = ((g.num * n j : Int) : Rat) := by
        rw [Rat.intCast_mul, Rat.intCast_mul, h j, e1]
        have c2 : (((g.den : Nat) : Int) : Rat) = (g.den : Rat) := rfl
        rw [c2]
        grind
      exact Rat.intCast_inj.mp this
    have one : g.num.natAbs = 1 := by
      refine hp g.num (fun x hx => ?_) nz
      obtain ⟨i, hi⟩ := List.mem_iff_getElem?.mp hx
      have ex : idx r i = x := by
        unfold idx
        rw [hi]
        rfl
      have c := cross i
      rw [ex] at c
      have dv : g.num.natAbs ∣ x.natAbs * g.den := by
        have : g.num ∣ x * (g.den : Int) := ⟨n i, c⟩
        have q := Int.natAbs_dvd_natAbs.mpr this
        rwa [Int.natAbs_mul, Int.natAbs_natCast] at q
      exact Int.natAbs_dvd_natAbs.mp (Nat.Coprime.dvd_of_dvd_mul_right g.reduced dv)
    have c := congrArg Int.natAbs (cross j)
    rw [Int.natAbs_mul, Int.natAbs_mul, Int.natAbs_natCast, one, Nat.one_mul] at c
    rw [← c]
    exact Nat.le_mul_of_pos_right _ g.den_pos
  · have : idx r j = 0 := by
      unfold idx
      cases e : r[j]? with
      | none => rfl
      | some x =>
        apply Decidable.byContradiction
        intro z
        exact nz ⟨x, List.mem_of_getElem? e, z⟩
    rw [this]
    exact Nat.zero_le _
/-- a row, but for a factor: whole numbers of X at most at all places below m, behind them a fraction by D -/
def Gd (m X Y D : Nat) (r : List Int) : Prop := ∃ (g : Rat) (w : Nat → Rat), g ≠ 0 ∧ (∀ j, (idx r j : Rat) = g * w j) ∧ (∀ j, j < m → Wn 1 X (w j)) ∧ Wn D Y (w m) ∧ ∀ j, m < j → w j = 0
theorem Gd.mono {m X X' Y Y' D : Nat} {r : List Int} (hx : X ≤ X') (hy : Y ≤ Y') : Gd m X Y D r → Gd m X' Y' D r := fun ⟨g, w, a, b, c, d, e⟩ => ⟨g, w, a, b, fun j hj => (c j hj).mono hx, d.mono hy, e⟩
theorem Gd.le {m X Y D : Nat} {r : List Int} (D0 : 0 < D) (hp : Prim r) (h : Gd m X Y D r) : ∀ x ∈ r, x.natAbs ≤ max (X * D) Y := by
  obtain ⟨g, w, gn, hw, ha, hb, hz⟩ := h
  have dn : (D : Rat) ≠ 0 := fun z => by
    have := Rat.natCast_eq_zero_iff.mp z
    omega
  have nn : ∀ j, ∃ n : Int, w j * (D : Rat) = (n : Rat) ∧ n.natAbs ≤ max (X * D) Y := by
    intro j
    rcases Nat.lt_trichotomy j m with l | l | l
    · obtain ⟨n, e, h⟩ := (ha j l).times D
      rw [Nat.one_mul] at e
      exact ⟨n, e, by omega⟩
    · subst l
      obtain ⟨n, e, h⟩ := hb
      exact ⟨n, e, by omega⟩
    · exact ⟨0, by rw [hz j l, Rat.zero_mul]; rfl, Nat.zero_le _⟩
  intro x hx
  obtain ⟨i, hi⟩ := List.mem_iff_getElem?.mp hx
  have ex : idx r i = x := by
    unfold idx
    rw [hi]
    rfl
  rw [← ex]
  refine Nat.le_trans (prim_le hp (n := fun j => (nn j).choose) (g := g * (D : Rat)⁻¹) (fun j => ?_) i) (nn i).choose_spec.2
  rw [← (nn j).choose_spec.1, hw j]
  have : (D : Rat)⁻¹ * (D : Rat) = 1 := Rat.inv_mul_cancel _ dn
  have q : g * (D : Rat)⁻¹ * (w j * (D : Rat)) = g * w j * ((D : Rat)⁻¹ * (D : Rat)) := by grind
  rw [q, this, Rat.mul_one]
theorem cross_at2 {p r : List Int} (l : r.length = p.length) (c j : Nat) : idx (crossL (idx r c) (idx p c) r p) j = idx r j * idx p c - idx p j * idx r c := by
  have e : idx (crossL (idx r c) (idx p c) r p) j = ((List.zipWith (fun n o => n * idx p c - o * idx r c) r p)[j]?).getD 0 := rfl
  rw [e, List.getElem?_zipWith]
  unfold idx
  by_cases h : j < r.length
  · rw [List.getElem?_eq_getElem h, List.getElem?_eq_getElem (show j < p.length by omega)]
    rfl
  · rw [List.getElem?_eq_none (by omega), List.getElem?_eq_none (show p.length ≤ j by omega)]
    simp
theorem wo_gd {m X Y D c : Nat} {p r : List Int} (l : r.length = p.length) (X0 : 1 ≤ X) (hc : c < m) (pc : idx p c ≠ 0) (hp : Gd m X Y D p) (hr : Gd m X Y D r) (pr : Prim r) : Gd m (2 * (X * X)) (2 * (X * Y)) D (wo p c r) ∧ Prim (wo p c r) := by
  unfold wo withoutL
  have x1 : X ≤ 2 * (X * X) := by
    have := Nat.le_mul_of_pos_left X X0
    omega
  have y1 : Y ≤ 2 * (X * Y) := by
    have := Nat.le_mul_of_pos_left Y X0
    omega
  split
  · exact ⟨hr.mono x1 y1, pr⟩
  · refine ⟨?_, least_prim _⟩
    rename_i rc
    obtain ⟨g1, w1, n1, e1, a1, b1, z1⟩ := hr
    obtain ⟨g2, w2, n2, e2, a2, b2, z2⟩ := hp
    obtain ⟨g3, n3, e3⟩ := least_rat (crossL (idx r c) (idx p c) r p)
    have W1 : ∀ {M M' : Nat} {a b : Rat}, Wn 1 M a → Wn 1 M' b → Wn 1 (M * M') (a * b) := fun h h' => h.mul h'
    have W2 : ∀ {M M' : Nat} {a b : Rat}, Wn D M a → Wn 1 M' b → Wn D (M * M') (a * b) := fun h h' => by
      have := h.mul h'
      rwa [Nat.mul_one] at this
    refine ⟨g3 * (g1 * g2), fun j => w1 j * w2 c - w2 j * w1 c, fun z => ?_, fun j => ?_, fun j hj => ?_, ?_, fun j hj => ?_⟩
    · rcases Rat.mul_eq_zero.mp z with z | z
      · exact n3 z
      · rcases Rat.mul_eq_zero.mp z with z | z
        · exact n1 z
        · exact n2 z
    · rw [e3 j, cross_at2 l, Rat.intCast_sub, Rat.intCast_mul, Rat.intCast_mul, e1, e1, e2, e2]
      grind
    · refine ((W1 (a1 j hj) (a2 c hc)).sub (W1 (a2 j hj) (a1 c hc))).mono ?_
      omega
    · refine ((W2 b1 (a2 c hc)).sub (W2 b2 (a1 c hc))).mono ?_
      rw [Nat.mul_comm Y X]
      omega
    · show w1 j * w2 c - w2 j * w1 c = 0
      rw [z1 j hj, z2 j hj]
      grind
def upX (X : Nat) : Nat → Nat
  | 0 => X
  | n + 1 => 2 * (upX X n * upX X n)
def upY (X Y : Nat) : Nat → Nat
  | 0 => Y
  | n + 1 => 2 * (upX X n * upY X Y n)
theorem upX_pos {X : Nat} (h : 1 ≤ X) : ∀ n, 1 ≤ upX X n
  | 0 => h
  | n + 1 => by
    have := upX_pos h n
    show 1 ≤ 2 * (upX X n * upX X n)
    have := Nat.le_mul_of_pos_left (upX X n) this
    omega
theorem elim_gd {m X Y D : Nat} {rows : Rowss} (hw : ∀ r ∈ rows, r.length = m + 1) (X0 : 1 ≤ X) (h : ∀ r ∈ rows, Gd m X Y D r ∧ Prim r) : ∀ n, n ≤ m → (∀ r ∈ (elimL n rows).1, Gd m (upX X n) (upY X Y n) D r ∧ Prim r) ∧ ∀ r ∈ (elimL n rows).2, Gd m (upX X n) (upY X Y n) D r ∧ Prim r
  | 0, _ => ⟨h, fun _ hr => nomatch hr⟩
  | n + 1, hn => by
    obtain ⟨i1, i2⟩ := elim_gd hw X0 h n (by omega)
    have led := elim_led hw n
    have p0 := upX_pos X0 n
    rw [elim_next]
    unfold stepL
    have x1 : upX X n ≤ upX X (n + 1) := by
      have := Nat.le_mul_of_pos_left (upX X n) p0
      show upX X n ≤ 2 * (upX X n * upX X n)
      omega
    have y1 : upY X Y n ≤ upY X Y (n + 1) := by
      have := Nat.le_mul_of_pos_left (upY X Y n) p0
      show upY X Y n ≤ 2 * (upX X n * upY X Y n)
      omega
    split
    · exact ⟨fun r hr => ⟨(i1 r hr).1.mono x1 y1, (i1 r hr).2⟩, fun r hr => ⟨(i2 r hr).1.mono x1 y1, (i2 r hr).2⟩⟩
    · rename_i p ps e
      have hp2 := List.mem_filter.mp (show p ∈ leadL n (elimL n rows).1 by rw [e]; exact List.mem_cons_self)
      have hp := hp2.1
      have pn : idx p n ≠ 0 := of_decide_eq_true hp2.2
      have lp := led.len1 p hp
      refine ⟨fun r hr => ?_, fun r hr => ?_⟩
      · obtain ⟨q, hq, rfl⟩ := List.mem_map.mp hr
        exact wo_gd ((led.len1 q hq).trans lp.symm) p0 (by omega) pn (i1 p hp).1 (i1 q hq).1 (i1 q hq).2
      · rcases List.mem_append.mp hr with hr | hr
        · obtain ⟨q, hq, rfl⟩ := List.mem_map.mp hr
          exact wo_gd ((led.len2 q hq).trans lp.symm) p0 (by omega) pn (i1 p hp).1 (i2 q hq).1 (i2 q hq).2
        · obtain rfl := List.mem_singleton.mp hr
          exact ⟨(i1 _ hp).1.mono x1 y1, (i1 _ hp).2⟩
end Ct

/-! How great the told potentials become; the elimination of a joining's equations. -/
namespace Ct
open PySem PySem.Spec PyProof.Rows L2 TL RZ
theorem Wn.scale {S D M : Nat} {r : Rat} : Wn (S * D) M r → Wn D M ((S : Rat) * r) := fun ⟨n, e, h⟩ => ⟨n, by
  rw [← e, Rat.natCast_mul]
  grind, h⟩
theorem side_wn (t : Str × Str × Str) (j : Str) : Wn 1 1 (zS t j) := by
  refine (Wn.int (sideZ t j)).mono ?_
  rcases side_small t j with e | e | e <;> rw [e] <;> decide
theorem Wn.side {D M : Nat} {r : Rat} (t : Str × Str × Str) (j : Str) (h : Wn D M r) : Wn D M (zS t j * r) := by
  have := (side_wn t j).mul h
  rwa [Nat.one_mul, Nat.one_mul] at this
/-- the bounds that a joining starts from: sizes by S, voltages by D -/
structure Sized (o : Own) (ties : Ties) (fl : List Str) (st : List Rat) (S C D A G : Nat) : Prop where
  size : ∀ t ∈ ties, Wn S C (cS o t)
  ahead : ∀ t ∈ ties, Wn D A ((aheadT o st).at t.1)
  given : ∀ t ∈ ties, Wn D G ((zeroT o fl).at t.2.1) ∧ Wn D G ((zeroT o fl).at t.2.2)
section
variable {o : Own} {ties : Ties} {fl : List Str} {st : List Rat} {S C D A G : Nat}
theorem given_wn (N : NetOk o ties fl) (Z : Sized o ties fl st S C D A G) {t : Str × Str × Str} (ht : t ∈ ties) : Wn D (G + G) (givenD o ties fl t) := by
  rw [given_at N.once ht]
  exact (Z.given t ht).1.sub (Z.given t ht).2
theorem lam_wn (N : NetOk o ties fl) (Z : Sized o ties fl st S C D A G) {t : Str × Str × Str} (ht : t ∈ ties) : Wn (S * D) (C * (A + (G + G))) (lamS o ties fl st t) := by
  rw [lam_at N.once st ht]
  exact (Z.size t ht).mul ((Z.ahead t ht).sub (given_wn N Z ht))
theorem row_gd (N : NetOk o ties fl) (Z : Sized o ties fl st S C D A G) (S0 : 0 < S) : ∀ r ∈ rowsS o ties fl st, Gd fl.length (ties.length * C) (ties.length * (C * (A + (G + G)))) D r ∧ Prim r := by
  intro r hr
  obtain ⟨q, hq, rfl⟩ := List.mem_map.mp hr
  obtain ⟨j, hj, rfl⟩ := List.mem_map.mp hq
  obtain ⟨g, gn, h⟩ := cleared_at (eqL o ties fl st j)
  have sn : (S : Rat) ≠ 0 := fun z => by
    have := Rat.natCast_eq_zero_iff.mp z
    omega
  have ss : (S : Rat)⁻¹ * (S : Rat) = 1 := Rat.inv_mul_cancel _ sn
  refine ⟨⟨g * (S : Rat)⁻¹, fun i => (S : Rat) * qx (eqL o ties fl st j) i, fun z => ?_, fun i => ?_, fun i hi => ?_, ?_, fun i hi => ?_⟩, least_prim _⟩
  · rcases Rat.mul_eq_zero.mp z with z | z
    · exact gn z
    · rw [z, Rat.zero_mul] at ss
      exact absurd ss (by decide)
  · rw [h i]
    have : g * (S : Rat)⁻¹ * ((S : Rat) * qx (eqL o ties fl st j) i) = g * qx (eqL o ties fl st j) i * ((S : Rat)⁻¹ * (S : Rat)) := by grind
    show _ = g * (S : Rat)⁻¹ * ((S : Rat) * qx (eqL o ties fl st j) i)
    rw [this, ss, Rat.mul_one]
  · show Wn 1 _ ((S : Rat) * qx (eqL o ties fl st j) i)
    rw [eq_at o ties fl st (List.getElem?_eq_getElem hi)]
    refine Wn.scale (S := S) (D := 1) ?_
    rw [Nat.mul_one]
    exact Wn.sm fun t ht => ((Z.size t ht).side t _).side t j
  · show Wn D _ ((S : Rat) * qx (eqL o ties fl st j) fl.length)
    rw [eq_last]
    exact Wn.scale (Wn.sm fun t ht => (lam_wn N Z ht).side t j)
  · show (S : Rat) * qx (eqL o ties fl st j) i = 0
    unfold qx
    rw [List.getElem?_eq_none (by rw [eq_len]; omega)]
    exact Rat.mul_zero _
/-- the last column leads nothing -/
theorem elim_stop (N : NetOk o ties fl) : elimL (fl.length + 1) (rowsS o ties fl st) = elimL fl.length (rowsS o ties fl st) := by
  have hb := eqs_begin o ties fl st N.pos N.nd
  have hw := rows_len o ties fl st
  have led := elim_led hw fl.length
  rw [elim_next] at hb ⊢
  unfold stepL at hb ⊢
  split
  · rfl
  · rename_i p ps e
    rw [e] at hb
    have hp2 := List.mem_filter.mp (show p ∈ leadL fl.length (elimL fl.length (rowsS o ties fl st)).1 by rw [e]; exact List.mem_cons_self)
    have pn : idx p fl.length ≠ 0 := of_decide_eq_true hp2.2
    have wz := led.wait p hp2.1
    have fb := first_begins pn wz
    have q := hb (ledL (firstL p) p) (List.mem_map_of_mem (List.mem_append_right _ (List.mem_singleton.mpr rfl)))
    have pl : placeOf (ledL (firstL p) p) = fl.length := led_place (by rw [fb]; exact pn) pn wz
    have := q.1
    omega
theorem prod_of {α : Type} {X : Nat} {Q : α → Nat → Prop} (X1 : 1 ≤ X) : ∀ (L : List α), (∀ r ∈ L, ∃ k, 1 ≤ k ∧ k ≤ X ∧ Q r k) → ∃ K, 1 ≤ K ∧ K ≤ X ^ L.length ∧ ∀ r ∈ L, ∃ k, 1 ≤ k ∧ k ∣ K ∧ Q r k
  | [], _ => ⟨1, Nat.le_refl _, by simp, fun _ h => nomatch h⟩
  | r :: L, h => by
    obtain ⟨K, k1, k2, k3⟩ := prod_of X1 L fun x hx => h x (List.mem_cons_of_mem _ hx)
    obtain ⟨k, a, b, c⟩ := h r List.mem_cons_self
    refine ⟨k * K, Nat.mul_pos a k1, ?_, fun x hx => ?_⟩
    · rw [List.length_cons, Nat.pow_succ, Nat.mul_comm (X ^ L.length)]
      exact Nat.mul_le_mul b k2
    · rcases List.mem_cons.mp hx with rfl | hx
      · exact ⟨k, a, ⟨K, rfl⟩, c⟩
      · obtain ⟨k', a', b', c'⟩ := k3 x hx
        exact ⟨k', a', Nat.dvd_trans b' ⟨k, Nat.mul_comm _ _⟩, c'⟩
theorem quot_wn {D X Y : Nat} {a b : Rat} (ha : Wn D Y a) (hb : Wn 1 X b) (bn : b ≠ 0) : ∃ k, 1 ≤ k ∧ k ≤ X ∧ Wn (D * k) Y (a / b) := by
  obtain ⟨n, e, hn⟩ := ha
  obtain ⟨m, f, hm⟩ := hb
  have f : b = (m : Rat) := by
    have : b * ((1 : Nat) : Rat) = b := Rat.mul_one b
    rw [← this]
    exact f
  have mn : m ≠ 0 := fun z => bn (by rw [f, z]; rfl)
  have q : a / b * b = a := Rat.div_mul_cancel bn
  rcases Int.natAbs_eq m with h | h
  · refine ⟨m.natAbs, by omega, hm, n, ?_, hn⟩
    have c : ((m.natAbs : Nat) : Rat) = b := by
      rw [f]
      conv => rhs; rw [h]
      rfl
    rw [Rat.natCast_mul, c, ← e]
    conv => rhs; rw [← q]
    grind
  · refine ⟨m.natAbs, by omega, hm, -n, ?_, by rw [Int.natAbs_neg]; exact hn⟩
    have c : ((m.natAbs : Nat) : Rat) = -b := by
      rw [f]
      conv => rhs; rw [h]
      rw [Rat.intCast_neg]
      have : (((m.natAbs : Nat) : Int) : Rat) = ((m.natAbs : Nat) : Rat) := rfl
      rw [this]
      grind
    rw [Rat.natCast_mul, c, Rat.intCast_neg, ← e]
    conv => rhs; rw [← q]
    grind
/-- the told potentials, by a denominator of their own -/
theorem sols_wn (N : NetOk o ties fl) (Z : Sized o ties fl st S C D A G) (S0 : 0 < S) {X Y : Nat} (X1 : 1 ≤ X) (hX : ties.length * C ≤ X) (hY : ties.length * (C * (A + (G + G))) ≤ Y) :
    ∃ K, 1 ≤ K ∧ K ≤ (upX X fl.length) ^ fl.length ∧ ∀ k ∈ fl, Wn (D * K) (upY X Y fl.length * K) (xT o ties fl st k) := by
  have hw := rows_len o ties fl st
  have gd := (elim_gd hw X1 (fun r hr => ⟨(row_gd N Z S0 r hr).1.mono hX hY, (row_gd N Z S0 r hr).2⟩) fl.length (Nat.le_refl _)).2
  have hb := eqs_begin o ties fl st N.pos N.nd
  obtain ⟨ls, q, pp, ll⟩ := plain_pair hw
  have xp := upX_pos X1 fl.length
  have es := elim_stop (st := st) N
  have low : ∀ l ∈ ls, l < fl.length := by
    intro l hl
    obtain ⟨i, hi⟩ := List.mem_iff_getElem?.mp hl
    obtain ⟨p, hp, e⟩ := Ct.Paired.at' pp hi
    rw [← e]
    exact (hb p (List.mem_of_getElem? hp)).1
  have fewer : (elimL (fl.length + 1) (rowsS o ties fl st)).2.length ≤ fl.length := by
    have l1 := q.rows.length
    have : ls.length ≤ fl.length := by
      have h := List.Nodup.length_le_of_subset (l₁ := ls) (l₂ := List.range fl.length) (q.up.imp fun h => Nat.ne_of_lt h) fun l hl => List.mem_range.mpr (low l hl)
      rwa [List.length_range] at h
    omega
  have each : ∀ r ∈ (elimL (fl.length + 1) (rowsS o ties fl st)).2, ∃ k, 1 ≤ k ∧ k ≤ upX X fl.length ∧ ∀ l, l < fl.length → idx r l ≠ 0 → (∀ j, j < l → idx r j = 0) → Wn (D * k) (upY X Y fl.length) ((idx r fl.length : Rat) / (idx r l : Rat)) := by
    intro r hr
    obtain ⟨i, hi⟩ := List.mem_iff_getElem?.mp hr
    obtain ⟨l, hl, b⟩ := Paired.at q.rows hi
    have lm := low l (List.mem_of_getElem? hl)
    rw [es] at hr
    obtain ⟨⟨g, w, gn, ew, ha, hbb, _⟩, _⟩ := gd r hr
    have wn : w l ≠ 0 := fun z => b.1 (Rat.intCast_eq_zero_iff.mp (by rw [ew l, z, Rat.mul_zero]))
    obtain ⟨k, k1, k2, k3⟩ := quot_wn hbb (ha l lm) wn
    refine ⟨k, k1, k2, fun l' hl' n' z' => ?_⟩
    have : l' = l := by
      rcases Nat.lt_trichotomy l' l with c | c | c
      · exact absurd (b.2.1 l' c) n'
      · exact c
      · exact absurd (z' l c) b.1
    subst this
    have e : (idx r fl.length : Rat) / (idx r l' : Rat) = w fl.length / w l' := by
      rw [ew, ew, Rat.div_def, Rat.div_def, Rat.inv_mul_rev]
      have gg : g * g⁻¹ = 1 := Rat.mul_inv_cancel _ gn
      have : g * w fl.length * ((w l')⁻¹ * g⁻¹) = w fl.length * (w l')⁻¹ * (g * g⁻¹) := by grind
      rw [this, gg, Rat.mul_one]
    rw [e]
    exact k3
  obtain ⟨K, K1, K2, K3⟩ := prod_of xp _ each
  refine ⟨K, K1, Nat.le_trans K2 (Nat.pow_le_pow_right xp fewer), fun k hk => ?_⟩
  show Wn _ _ (qx (sols o ties fl st) (fl.idxOf k))
  have lt := List.idxOf_lt_length_of_mem hk
  generalize fl.idxOf k = j at *
  unfold sols
  rw [plain_eq]
  by_cases hm : j ∈ ls
  · obtain ⟨i, hi⟩ := List.mem_iff_getElem?.mp hm
    obtain ⟨p, hp, ep⟩ := Ct.Paired.at' pp hi
    obtain ⟨r, hr, rfl⟩ := List.mem_map.mp (List.mem_of_getElem? hp)
    obtain ⟨i', hi'⟩ := List.mem_iff_getElem?.mp hr
    obtain ⟨l, hl, b⟩ := Paired.at q.rows hi'
    have fb := first_begins b.1 b.2.1
    have fn : firstL r ≠ 0 := by rw [fb]; exact b.1
    have pl : placeOf (ledL (firstL r) r) = l := led_place fn b.1 b.2.1
    have jl : j = l := by omega
    subst jl
    have on := sol_on pp q.up (List.replicate fl.length 0) (fun l hl => by rw [List.length_replicate]; exact low l hl) hp
    rw [pl, led_last fn ((elim_led hw (fl.length + 1)).len2 r hr), fb] at on
    unfold qx solL
    rw [on]
    obtain ⟨kk, a1, ⟨c, hc⟩, a3⟩ := K3 r hr
    have wq := (a3 j lt b.1 b.2.1).times c
    have e2 : D * kk * c = D * K := by rw [hc, Nat.mul_assoc]
    rw [e2] at wq
    refine wq.mono (Nat.mul_le_mul_left _ ?_)
    rw [hc]
    exact Nat.le_mul_of_pos_left _ a1
  · have off : (solL (plainOf (elimL (fl.length + 1) (rowsS o ties fl st)).2) fl.length)[j]? = some 0 := by
      unfold solL
      rw [sol_off _ _ fun p hp z => ?_]
      · exact List.getElem?_replicate_of_lt lt
      · obtain ⟨i, hi⟩ := List.mem_iff_getElem?.mp hp
        obtain ⟨l', hl', e⟩ := Paired.at pp hi
        exact hm (by rw [← z, e]; exact List.mem_of_getElem? hl')
    unfold qx
    rw [off]
    exact (Wn.zero _).mono (Nat.zero_le _)
end
end Ct

set_option exponentiation.threshold 100000
/-! All that a joining comes across stays short. -/
namespace Ct
open PySem PySem.Spec PyProof.Rows L2 TL RZ
theorem upX_le {X : Nat} (X1 : 1 ≤ X) {n m : Nat} (h : n ≤ m) : upX X n ≤ upX X m := by
  induction h with
  | refl => exact Nat.le_refl _
  | step h ih =>
    rename_i k
    have p := upX_pos X1 k
    have := Nat.le_mul_of_pos_left (upX X k) p
    show _ ≤ 2 * (upX X k * upX X k)
    omega
theorem upY_le {X Y : Nat} (X1 : 1 ≤ X) {n m : Nat} (h : n ≤ m) : upY X Y n ≤ upY X Y m := by
  induction h with
  | refl => exact Nat.le_refl _
  | step h ih =>
    rename_i k
    have p := upX_pos X1 k
    have := Nat.le_mul_of_pos_left (upY X Y k) p
    show _ ≤ 2 * (upX X k * upY X Y k)
    omega
theorem sum_ok {α : Type} {D M : Nat} {f : α → Rat} {l : List α} (h : ∀ x ∈ l, Wn D M (f x)) (D0 : 0 < D) (hD : D < 2 ^ 4400) (hM : M < 2 ^ 4400) (hL : l.length * M < 2 ^ 4400) : SumOk (l.map f) := by
  refine ⟨fun r hr => ?_, fun i => ?_⟩
  · obtain ⟨x, hx, rfl⟩ := List.mem_map.mp hr
    exact (h x hx).fit D0 hD hM
  · rw [← List.map_take, sum_sm]
    have q := Wn.sm (l := l.take i) fun x hx => h x (List.mem_of_mem_take hx)
    have le : (l.take i).length * M ≤ l.length * M := Nat.mul_le_mul_right _ (List.length_take_le' i l)
    exact q.fit D0 hD (by omega)
/-- the numbers stay short -/
structure Short (T m S C D A G X Y : Nat) : Prop where
  S0 : 0 < S
  D0 : 0 < D
  X1 : 1 ≤ X
  hX : T * C ≤ X
  hY : T * (C * (A + (G + G))) ≤ Y
  sd : S * D < 2 ^ 4400
  g : G + G < 2 ^ 4400
  a : A + (G + G) < 2 ^ 4400
  c : C < 2 ^ 4400
  ca : C * (A + (G + G)) < 2 ^ 4400
  tc : T * C < 2 ^ 4400
  y0 : Y < 2 ^ 4400
  x : upX X m * D < 2 ^ 4400
  y : upY X Y m < 2 ^ 4400
  dp : D * (upX X m) ^ m < 2 ^ 4400
  yp : G + upY X Y m * (upX X m) ^ m < 2 ^ 4400
  gp : G * (upX X m) ^ m < 2 ^ 4400
section
variable {o : Own} {ties : Ties} {fl : List Str} {st : List Rat} {S C D A G X Y : Nat}
/-- both ends of each tie are free or fixed -/
def EndsAt (o : Own) (ties : Ties) (fl : List Str) : Prop := ∀ t ∈ ties, (t.2.1 ∈ fl ∨ ∃ r, givenT o t.2.1 = some r) ∧ (t.2.2 ∈ fl ∨ ∃ r, givenT o t.2.2 = some r)
theorem zero_some (nd : fl.Nodup) {x : Str} (h : x ∈ fl ∨ ∃ r, givenT o x = some r) : ∃ r, zeroT o fl x = some r := by
  by_cases q : x ∈ fl
  · exact ⟨0, (put_fold (fun x : Str => x) (fun _ => 0) fl (givenT o)).2 (by rw [List.map_id']; exact nd) x q⟩
  · rcases h with h | ⟨r, h⟩
    · exact absurd h q
    · exact ⟨r, by rw [zero_out q]; exact h⟩
theorem pot_some (nd : fl.Nodup) {x : Str} (h : x ∈ fl ∨ ∃ r, givenT o x = some r) : ∃ r, potT o ties fl st x = some r := by
  by_cases q : x ∈ fl
  · exact ⟨_, pot_in nd st q⟩
  · rcases h with h | ⟨r, h⟩
    · exact absurd h q
    · exact ⟨r, by rw [pot_out st q]; exact h⟩
theorem at_some {m : Tab} {x : Str} (h : ∃ r, m x = some r) : m x = some (m.at x) := by
  obtain ⟨r, h⟩ := h
  rw [at_of h, h]
theorem fit_q {q : Option Rat} {r : Rat} (h : q = some r) (f : FitR 4400 r) : Fit? q := ⟨r, h, f⟩
theorem size_some (N : NetOk o ties fl) {t : Str × Str × Str} (ht : t ∈ ties) : ∃ r, sizeT o t.1 = some r := by
  obtain ⟨e, he, ee⟩ := List.mem_map.mp (N.of t ht)
  have q := (put_fold (fun e : Str × Int × Int => e.1) (fun e => ratF e.2) o.parts Tab.no).2 N.p_once e he
  rw [show e.1 = t.1 from ee] at q
  exact ⟨_, q⟩
theorem ahead_some (N : NetOk o ties fl) (len : st.length = o.parts.length) {t : Str × Str × Str} (ht : t ∈ ties) : ∃ r, aheadT o st t.1 = some r := by
  obtain ⟨i, e, a, hi, ee, ha, _⟩ := part_of N len ht
  have keys : ((o.parts.zip st).map fun e : (Str × Int × Int) × Rat => e.1.1) = o.parts.map (·.1) := by
    have h : ∀ (l : List (Str × Int × Int)) (r : List Rat), r.length = l.length → (l.zip r).map (fun e : (Str × Int × Int) × Rat => e.1.1) = l.map (·.1) := by
      intro l
      induction l with
      | nil => exact fun _ _ => rfl
      | cons x l ih =>
        intro r hr
        cases r with
        | nil => cases hr
        | cons y r =>
          show x.1 :: (l.zip r).map (fun e : (Str × Int × Int) × Rat => e.1.1) = x.1 :: l.map (·.1)
          rw [ih r (by simpa using hr)]
    exact h _ _ len
  have q := (put_fold (fun e : (Str × Int × Int) × Rat => e.1.1) (fun e => e.2) (o.parts.zip st) Tab.no).2 (by rw [keys]; exact N.p_once) (e, a) (List.mem_of_getElem? (i := i) (List.getElem?_zip_eq_some.mpr ⟨hi, ha⟩))
  rw [← ee]
  exact ⟨_, q⟩
theorem near_len (j : Str) : (nearL ties j).length ≤ ties.length := List.length_filter_le _ _
theorem eq_ok (N : NetOk o ties fl) (Z : Sized o ties fl st S C D A G) (B : Short ties.length fl.length S C D A G X Y) (len : st.length = o.parts.length) (few : ties.length ≤ 8) (free : fl.length ≤ 16) (E : EndsAt o ties fl) : EqOk o ties fl st := by
  have S0 := B.S0
  have D0 := B.D0
  have sd0 : 0 < S * D := Nat.mul_pos S0 D0
  have sS : S ≤ S * D := Nat.le_mul_of_pos_right S D0
  have sD : D ≤ S * D := Nat.le_mul_of_pos_left D S0
  have b1 := B.sd
  have b2 := B.g
  have b3 := B.a
  have b4 := B.c
  have b5 := B.ca
  have b6 := B.tc
  have b7 := B.y0
  have b8 := B.hY
  have hS : S < 2 ^ 4400 := by omega
  have hD : D < 2 ^ 4400 := by omega
  have nearC : ∀ j, (nearL ties j).length * C < 2 ^ 4400 := fun j => by
    have := Nat.mul_le_mul_right C (near_len (ties := ties) j)
    omega
  have nearY : ∀ j, (nearL ties j).length * (C * (A + (G + G))) < 2 ^ 4400 := fun j => by
    have := Nat.mul_le_mul_right (C * (A + (G + G))) (near_len (ties := ties) j)
    omega
  refine ⟨few, free, fun t ht => ⟨⟨_, at_some (zero_some N.nd (E t ht).1), (Z.given t ht).1.fit D0 hD (by omega)⟩, ⟨_, at_some (zero_some N.nd (E t ht).2), (Z.given t ht).2.fit D0 hD (by omega)⟩⟩, fun t ht => fit_q (at_some (size_some N ht)) ((Z.size t ht).fit S0 hS b4),
    fun t ht => fit_q (at_some (ahead_some N len ht)) ((Z.ahead t ht).fit D0 hD (by omega)), fun t ht => fit_q (tied_at N.once _ ht) (((Z.given t ht).1.sub (Z.given t ht).2).fit D0 hD b2), fun t ht => ((Z.ahead t ht).sub (given_wn N Z ht)).fit D0 hD b3, fun t ht => ?_, fun j hj k hk => ?_, fun j hj => ?_⟩
  · have q := (put_fold (fun t : Str × Str × Str => t.1) (fun t => (sizeT o).at t.1 * ((aheadT o st).at t.1 - (tiedT ties (zeroT o fl)).at t.1)) ties Tab.no).2 N.once t ht
    exact fit_q q (((Z.size t ht).mul ((Z.ahead t ht).sub (given_wn N Z ht))).fit sd0 b1 b5)
  · refine sum_ok (D := S) (M := C) (fun t ht => ?_) S0 hS b4 (nearC j)
    have e : intQ (sideZ t j * sideZ t k) * (sizeT o).at t.1 = zS t j * (zS t k * cS o t) := by
      show ((sideZ t j * sideZ t k : Int) : Rat) * _ = ((sideZ t j : Int) : Rat) * (((sideZ t k : Int) : Rat) * _)
      rw [Rat.intCast_mul, Rat.mul_assoc]
    rw [e]
    exact ((Z.size t (near_sub ht)).side t k).side t j
  · exact sum_ok (D := S * D) (M := C * (A + (G + G))) (fun t ht => (lam_wn N Z (near_sub ht)).side t j) sd0 b1 b5 (nearY j)
theorem clear_ok (N : NetOk o ties fl) (Z : Sized o ties fl st S C D A G) (B : Short ties.length fl.length S C D A G X Y) (free : fl.length ≤ 16) : ∀ r ∈ eqsL o ties fl st, ClearOk r := by
  intro r hr
  obtain ⟨j, hj, rfl⟩ := List.mem_map.mp hr
  have S0 := B.S0
  have D0 := B.D0
  have sd0 : 0 < S * D := Nat.mul_pos S0 D0
  have sS : S ≤ S * D := Nat.le_mul_of_pos_right S D0
  have b1 := B.sd
  have b6 := B.tc
  have b7 := B.y0
  have b8 := B.hY
  have each : ∀ x ∈ eqL o ties fl st j, FitR 4400 x ∧ x.den ∣ S * D := by
    intro x hx
    unfold eqL at hx
    rcases List.mem_append.mp hx with hx | hx
    · obtain ⟨k, hk, rfl⟩ := List.mem_map.mp hx
      rw [weights_net]
      have q : Wn S (ties.length * C) (lapA ties zS (cS o) j k) := Wn.sm fun t ht => ((Z.size t ht).side t k).side t j
      exact ⟨q.fit S0 (by omega) b6, Nat.dvd_trans q.den ⟨D, rfl⟩⟩
    · obtain rfl := List.mem_singleton.mp hx
      rw [mades_net]
      have q : Wn (S * D) (ties.length * (C * (A + (G + G)))) (lapB ties zS (lamS o ties fl st) j) := Wn.sm fun t ht => (lam_wn N Z ht).side t j
      exact ⟨q.fit sd0 b1 (by omega), q.den⟩
  refine ⟨by rw [eq_len]; omega, fun x hx => (each x hx).1, fun i => ?_⟩
  have := lcm_le sd0 (rs := (eqL o ties fl st j).take i) fun x hx => (each x (List.mem_of_mem_take hx)).2
  omega
theorem elim_ok' (N : NetOk o ties fl) (Z : Sized o ties fl st S C D A G) (B : Short ties.length fl.length S C D A G X Y) (free : fl.length ≤ 16) : ElimOk (fl.length + 1) (rowsS o ties fl st) := by
  have hw := rows_len o ties fl st
  have h0 : ∀ r ∈ rowsS o ties fl st, Gd fl.length X Y D r ∧ Prim r := fun r hr => ⟨(row_gd N Z B.S0 r hr).1.mono B.hX B.hY, (row_gd N Z B.S0 r hr).2⟩
  have lr : (rowsS o ties fl st).length = fl.length := by
    unfold rowsS eqsL
    rw [List.length_map, List.length_map]
  have fits : ∀ n, n ≤ fl.length → ∀ r, Gd fl.length (upX X n) (upY X Y n) D r ∧ Prim r → FitsI r := by
    intro n hn r ⟨g, p⟩ x hx
    have q := g.le B.D0 p x hx
    have h1 := Nat.mul_le_mul_right D (upX_le B.X1 hn)
    have h2 := upY_le (Y := Y) B.X1 hn
    have b1 := B.x
    have b2 := B.y
    omega
  have gd := elim_gd hw B.X1 h0
  have ok : Ok (fl.length + 1) 4400 (rowsS o ties fl st) := fun r hr => ⟨hw r hr, fits 0 (Nat.zero_le _) r (h0 r hr)⟩
  have state : ∀ n, n ≤ fl.length → Wide (fl.length + 1) (elimL n (rowsS o ties fl st)).1 ∧ Wide (fl.length + 1) (elimL n (rowsS o ties fl st)).2 ∧ (elimL n (rowsS o ties fl st)).1.length < 1000000 ∧ (elimL n (rowsS o ties fl st)).2.length < 1000000 := by
    intro n hn
    obtain ⟨_, _, l1, l2⟩ := elim_ok ok n
    have led := elim_led hw n
    exact ⟨fun r hr => ⟨led.len1 r hr, fits n hn r ((gd n hn).1 r hr)⟩, fun r hr => ⟨led.len2 r hr, fits n hn r ((gd n hn).2 r hr)⟩, by omega, by omega⟩
  refine ⟨by omega, by omega, by omega, fun n hn => ?_, fun r hr => ?_⟩
  · by_cases q : n ≤ fl.length
    · exact state n q
    · have : n = fl.length + 1 := by omega
      rw [this, elim_stop N]
      exact state _ (Nat.le_refl _)
  · obtain ⟨j, _, hj⟩ := (elim_led hw (fl.length + 1)).lead r hr
    exact first_of hj
theorem join_ok (N : NetOk o ties fl) (Z : Sized o ties fl st S C D A G) (B : Short ties.length fl.length S C D A G X Y) (len : st.length = o.parts.length) (few : ties.length ≤ 8) (free : fl.length ≤ 16) (E : EndsAt o ties fl) : JoinOk o ties fl st := by
  refine ⟨⟨eq_ok N Z B len few free E, clear_ok N Z B free, ?_, ?_⟩, ?_⟩
  · by_cases h : fl = []
    · subst h
      exact .inl ⟨rfl, rfl⟩
    · refine .inr ⟨fun z => h (List.map_eq_nil_iff.mp z), ?_⟩
      unfold wdOf
      rw [if_neg h]
      exact elim_ok' N Z B free
  · rw [plain_eq]
    exact eqs_begin o ties fl st N.pos N.nd
  · obtain ⟨K, K1, K2, hK⟩ := sols_wn N Z B.S0 B.X1 B.hX B.hY
    have dK : D * K ≤ D * (upX X fl.length) ^ fl.length := Nat.mul_le_mul_left _ K2
    have yK : upY X Y fl.length * K ≤ upY X Y fl.length * (upX X fl.length) ^ fl.length := Nat.mul_le_mul_left _ K2
    have b1 := B.dp
    have b2 := B.yp
    have b3 := B.sd
    have b4 := B.g
    have sD : D ≤ S * D := Nat.le_mul_of_pos_left D B.S0
    have D0 := B.D0
    have one : ∀ t ∈ ties, ∀ x, (x ∈ fl ∨ ∃ r, givenT o x = some r) → Wn D G ((zeroT o fl).at x) → ∃ r, potT o ties fl st x = some r ∧ FitR 4400 r := by
      intro t ht x hx hg
      by_cases q : x ∈ fl
      · exact ⟨_, pot_in N.nd st q, (hK x q).fit (Nat.mul_pos D0 K1) (by omega) (by omega)⟩
      · rcases hx with hx | ⟨r, hr⟩
        · exact absurd hx q
        · refine ⟨r, by rw [pot_out st q]; exact hr, ?_⟩
          have : (zeroT o fl).at x = r := at_of (by rw [zero_out q]; exact hr)
          rw [this] at hg
          exact hg.fit D0 (by omega) (by omega)
    exact fun t ht => ⟨one t ht _ (E t ht).1 (Z.given t ht).1, one t ht _ (E t ht).2 (Z.given t ht).2⟩
/-- what stands behind, by a denominator of its own -/
theorem behind_wn (N : NetOk o ties fl) (Z : Sized o ties fl st S C D A G) (S0 : 0 < S) (X1 : 1 ≤ X) (hX : ties.length * C ≤ X) (hY : ties.length * (C * (A + (G + G))) ≤ Y) (len : st.length = o.parts.length) (all : ∀ r ∈ st, Wn D A r) :
    ∃ K, 1 ≤ K ∧ K ≤ (upX X fl.length) ^ fl.length ∧ ∀ r ∈ joinL o ties fl st, Wn (D * K) ((A + (G + G) + 2 * upY X Y fl.length) * K) r := by
  obtain ⟨K, K1, K2, hK⟩ := sols_wn N Z S0 X1 hX hY
  refine ⟨K, K1, K2, fun r hr => ?_⟩
  obtain ⟨i, hi⟩ := List.mem_iff_getElem?.mp hr
  have lt : i < o.parts.length := by
    have := (List.getElem?_eq_some_iff.mp hi).1
    rw [join_len' N len] at this
    exact this
  have he := List.getElem?_eq_getElem lt
  have ha : st[i]? = some st[i] := List.getElem?_eq_getElem (by omega)
  have wa := all _ (List.mem_of_getElem? ha)
  by_cases hm : (o.parts[i]).1 ∈ ties.map (·.1)
  · obtain ⟨t, ht, et⟩ := List.mem_map.mp hm
    have q := join_tied N he ha ht et
    rw [q] at hi
    obtain rfl := Option.some.inj hi
    have w1 := (given_wn N Z ht).times K
    have pick : ∀ x, Wn (D * K) (upY X Y fl.length * K) (if x ∈ fl then xT o ties fl st x else 0) := fun x => by
      by_cases h : x ∈ fl
      · rw [if_pos h]
        exact hK x h
      · rw [if_neg h]
        exact (Wn.zero _).mono (Nat.zero_le _)
    have w2 := (pick t.2.1).sub (pick t.2.2)
    rw [← dif_at N.nd] at w2
    refine (w1.add w2).mono ?_
    simp only [Nat.add_mul, Nat.mul_assoc]
    omega
  · have q := join_free N he ha hm
    rw [q] at hi
    obtain rfl := Option.some.inj hi
    refine (wa.times K).mono ?_
    simp only [Nat.add_mul]
    omega
end
end Ct

namespace Ct
open PySem PySem.Spec PyProof.Rows L2 TL
abbrev s_l_circuit_tied : Stmt := top 59
abbrev N_l_circuit_tied : List Str := ["pot", "parts", "sources", "some", "found", "part", "plus", "minus"]
theorem sc_l_circuit_tied : FnScope N_l_circuit_tied ["pot", "parts", "sources"] (defScope s_l_circuit_tied) := ⟨rfl, rfl, rfl, by decide +kernel, rfl, by decide +kernel, by decide +kernel⟩
/-- the names that stand around -/
def someOf (ss : List Str) : List Str := (["gnd", "gnd", "m", "n", "m", "n", "o"] : List Str) ++ ss ++ ss
def spTiedN (K : PySem.W.Frag) : Sp := fun vs H Q _ => ∃ (p a b : Addr) (G : Hp) (n : Nat) (ps ss : List Str), vs = [.ref p, .ref a, .ref b] ∧ Beside p G H ∧ PotAt p H n ∧ n + 40 ≤ 1000000 ∧
  G a = some (.lst (ps.map V.str)) ∧ G b = some (.lst (ss.map V.str)) ∧ ps.length ≤ 8 ∧ ss.length ≤ 4 ∧ ps.Nodup ∧ (∀ x ∈ ss, Name x) ∧
  ∀ (l : Addr) (ts : List V) (ties : List (Str × Str × Str)) (G' H' : Hp), Same G G' → Beside p G' H' → PotAt p H' (n + 40) → G l = none → G' l = some (.lst ts) → Paired (TieAt K G') ts ties →
    ties.length ≤ ps.length → (ties.map (·.1)).Nodup → (∀ t ∈ ties, t.1 ∈ ps ∧ t.2.1 ∈ someOf ss ∧ t.2.2 ∈ someOf ss) → Q (.ref l) H'
theorem name_of {x : Str} (h : (1 ≤ x.length ∧ x.length ≤ 6) ∧ (tl x).all (fun c => decide (97 ≤ c ∧ c ≤ 122)) = true ∧ x ≠ "gnd") : Name x :=
  ⟨h.1.1, h.1.2, fun c hc => by simpa using List.all_eq_true.mp h.2.1 c hc, h.2.2⟩
theorem nm_m : Name "m" := name_of (by decide +kernel)
theorem nm_n : Name "n" := name_of (by decide +kernel)
theorem nm_o : Name "o" := name_of (by decide +kernel)
theorem some_junc {ss : List Str} (h : ∀ x ∈ ss, Name x) : ∀ x ∈ someOf ss, Junc x := by
  intro x hx
  unfold someOf at hx
  rcases List.mem_append.mp hx with hx | hx
  · rcases List.mem_append.mp hx with hx | hx
    · simp only [List.mem_cons, List.not_mem_nil, or_false] at hx
      rcases hx with rfl | rfl | rfl | rfl | rfl | rfl | rfl
      · exact .inl rfl
      · exact .inl rfl
      · exact .inr nm_m
      · exact .inr nm_n
      · exact .inr nm_m
      · exact .inr nm_n
      · exact .inr nm_o
    · exact .inr (h x hx)
  · exact .inr (h x hx)
theorem str_at {xs : List Str} {i : Nat} {v : V} (h : (xs.map V.str)[i]? = some v) : ∃ x ∈ xs, v = .str x := by
  rw [List.getElem?_map] at h
  cases e : xs[i]? with
  | none => rw [e] at h; cases h
  | some x => rw [e] at h; exact ⟨x, List.mem_of_getElem? e, (Option.some.inj h).symm⟩
theorem Paired.perm {α β : Type} {F : α → β → Prop} {xs zs : List α} (h : xs.Perm zs) : ∀ {ys : List β}, Paired F zs ys → ∃ ws, ws.Perm ys ∧ Paired F xs ws := by
  induction h with
  | nil => exact fun p => ⟨_, .refl _, p⟩
  | cons x _ ih =>
    intro ys p
    cases p with
    | cons f r =>
      obtain ⟨ws, h1, h2⟩ := ih r
      exact ⟨_, h1.cons _, .cons f h2⟩
  | swap x y l =>
    intro ys p
    cases p with
    | cons f r =>
      cases r with
      | cons g r => exact ⟨_, .swap _ _ _, .cons g (.cons f r)⟩
  | trans _ _ ih1 ih2 =>
    intro ys p
    obtain ⟨ws, h1, h2⟩ := ih2 p
    obtain ⟨us, h3, h4⟩ := ih1 h2
    exact ⟨us, h3.trans h1, h4⟩
section
variable {P : Program} {w : World} {K : PySem.W.Frag} {mg : Str → Option Value} {base : Heap}
theorem k_circuit_tied (D : Lies K mg "_law_circuit_tied" s_l_circuit_tied) (T : Plain mg) (G_l_take : Keeps P w K mg base 1 "_law_take" ["pot", "upto"] spTake) (G_l_of : Keeps P w K mg base 2 "_law_of" ["pot", "some"] (spOf K))
    (G_l_some : Keeps P w K mg base 2 "_law_some" ["pot", "pool", "many"] (spSome K)) : Keeps P w K mg base 3 "_law_circuit_tied" ["pot", "parts", "sources"] (spTiedN K) := by
  refine D.keeps sc_l_circuit_tied (fun _ _ _ _ _ _ us hl => match us, hl with | [_, _, _], _ => rfl) (fun vs H Q E h => ?_) (fun f cdv A outer s H vs Q E hr h => ?_)
  · obtain ⟨p, a, b, G, n, ps, ss, rfl, _⟩ := h
    rfl
  · obtain ⟨p, a, b, G, n, ps, ss, rfl, bs, ht, hn, ga, gb, lp, ls, nd, hs, k⟩ := h
    refine ⟨_, (pss_cons (ps_par (i := 3) (j := 4) (by rfl) sc_l_circuit_tied.nd rfl rfl (by decide) rfl rfl (pa_cons (pe_op op_cat (pe_op op_cat (pe_lst (pa_cons pe_str (pa_cons pe_str (pa_cons pe_str (pa_cons pe_str (pa_cons pe_str (pa_cons pe_str (pa_cons pe_str pa_nil)))))))) (pv 2)) (pv 2)) (pa_cons (pe_lst pa_nil) pa_nil)) (by rfl))
      (pss_cons (ps_for PassesOwn.never rfl (pi_list (pv 1)) (pg_name (i := 5) sc_l_circuit_tied.nd rfl (Or.inl rfl))
        (pss_cons (ps_par (i := 6) (j := 7) (by rfl) sc_l_circuit_tied.nd rfl rfl (by decide) rfl rfl (pa_cons (pe_go G_l_of (hr.mono (by decide)) rfl (pa_cons (pv 0) (pa_cons (pv 3) pa_nil))) (pa_cons (pe_go G_l_of (hr.mono (by decide)) rfl (pa_cons (pv 0) (pa_cons (pv 3) pa_nil))) pa_nil)) (by rfl))
        (pss_one (ps_if (pt_cmpR op_gt (pe_go G_l_take (hr.mono (by decide)) rfl (pa_cons (pv 0) (pa_cons pe_int pa_nil))) pe_int (nomark _))
          (pss_one (ps_expr (pe_bm PySem.F.plainAttrs_list PySem.F.slot_list_append PySem.F.type_list_append mt_append (pv 4) (pa_cons (pe_tup (pa_cons (pv 5) (pa_cons (pv 6) (pa_cons (pv 7) pa_nil)))) pa_nil))))
          pss_nil))))
      (pss_one (ps_ret (pe_go G_l_some (hr.mono (by decide)) rfl (pa_cons (pv 0) (pa_cons (pv 4) (pa_cons (pe_callB call_len_seq (by rfl) T.n_len b_len (pa_cons (pv 4) pa_nil)) pa_nil)))))))), ?_⟩
    refine ⟨by show 7 ≤ sizeLine; decide, fun l1 n1 => ?_⟩
    obtain ⟨b1, s1, g1⟩ := bs.new (o := .lst [V.str "gnd", V.str "gnd", V.str "m", V.str "n", V.str "m", V.str "n", V.str "o"]) ht.some n1
    have t1 := ht.new (o := .lst [V.str "gnd", V.str "gnd", V.str "m", V.str "n", V.str "m", V.str "n", V.str "o"]) n1
    refine ⟨_, rfl, l1, b, _, _, rfl, rfl, upd_same, b1.sub _ _ (s1 _ _ gb), ?_, fun l2 n2 => ?_⟩
    · rw [List.length_map]
      show 7 + _ ≤ 16777216
      omega
    obtain ⟨b2, s2, g2⟩ := b1.new (o := .lst ([V.str "gnd", V.str "gnd", V.str "m", V.str "n", V.str "m", V.str "n", V.str "o"] ++ ss.map V.str)) t1.some n2
    have t2 := t1.new (o := .lst ([V.str "gnd", V.str "gnd", V.str "m", V.str "n", V.str "m", V.str "n", V.str "o"] ++ ss.map V.str)) n2
    refine ⟨_, rfl, l2, b, _, _, rfl, rfl, upd_same, b2.sub _ _ (s2 _ _ (s1 _ _ gb)), ?_, fun S nS => ?_⟩
    · rw [List.length_append, List.length_map]
      show (7 + _) + _ ≤ 16777216
      omega
    obtain ⟨b3, s3, g3⟩ := b2.new (o := .lst ([V.str "gnd", V.str "gnd", V.str "m", V.str "n", V.str "m", V.str "n", V.str "o"] ++ ss.map V.str ++ ss.map V.str)) t2.some nS
    have t3 := t2.new (o := .lst ([V.str "gnd", V.str "gnd", V.str "m", V.str "n", V.str "m", V.str "n", V.str "o"] ++ ss.map V.str ++ ss.map V.str)) nS
    refine ⟨Nat.zero_le _, fun F nF => ⟨_, _, rfl, ?_⟩⟩
    obtain ⟨b4, s4, g4⟩ := b3.new (o := .lst []) t3.some nF
    have t4 := t3.new (o := .lst []) nF
    have sG := s1.trans (s2.trans s3)
    have eS : [V.str "gnd", V.str "gnd", V.str "m", V.str "n", V.str "m", V.str "n", V.str "o"] ++ ss.map V.str ++ ss.map V.str = (someOf ss).map V.str := by
      unfold someOf
      rw [List.map_append, List.map_append]
      rfl
    have lS : (someOf ss).length ≤ 15 ∧ 0 < (someOf ss).length := by
      unfold someOf
      rw [List.length_append, List.length_append]
      show 7 + _ + _ ≤ 15 ∧ 0 < 7 + _ + _
      omega
    have npF : p ≠ F := fun z => t3.some (z ▸ nF)
    generalize hG0 : upd (upd (upd G l1 (.lst [V.str "gnd", V.str "gnd", V.str "m", V.str "n", V.str "m", V.str "n", V.str "o"])) l2 (.lst ([V.str "gnd", V.str "gnd", V.str "m", V.str "n", V.str "m", V.str "n", V.str "o"] ++ ss.map V.str))) S
      (.lst ([V.str "gnd", V.str "gnd", V.str "m", V.str "n", V.str "m", V.str "n", V.str "o"] ++ ss.map V.str ++ ss.map V.str)) = G0 at *
    have gS : G0 S = some (.lst ((someOf ss).map V.str)) := by
      rw [← hG0, ← eS]
      exact upd_same
    refine ⟨_, rfl, a, rfl, ⟨_, SqL.of (b4.sub _ _ (s4 _ _ (sG _ _ ga)))⟩, for_list (xs := ps.map V.str) (fun i σ H' => ∃ (v5 v6 v7 : Option V) (Gi : Hp) (vs : List V) (ties : List (Str × Str × Str)), σ = [some (.ref p), some (.ref a), some (.ref b), some (.ref S), some (.ref F), v5, v6, v7] ∧
      Same G0 Gi ∧ Beside p Gi H' ∧ PotAt p H' (n + 3 * i) ∧ Gi F = some (.lst vs) ∧ Paired (TieAt K Gi) vs ties ∧ ties.length ≤ i ∧ (ties.map (·.1)).Sublist (ps.take i) ∧ ∀ t ∈ ties, t.2.1 ∈ someOf ss ∧ t.2.2 ∈ someOf ss)
      ⟨none, none, none, _, [], [], rfl, s4, b4, t4, upd_same, .nil, Nat.le_refl _, List.nil_sublist _, fun _ h => nomatch h⟩ (fun i σ H' _ ⟨_, _, _, Gi, _, _, _, s, bi, _⟩ => SqL.of (bi.sub _ _ (s _ _ (sG _ _ ga)))) ?_ ?_⟩
    · rintro i x σ H' hx ⟨v5, v6, v7, Gi, vs, ties, rfl, si, bi, ti, gF, pt, lt, sub, jn⟩
      obtain ⟨y, hy, rfl⟩ : ∃ y, ps[i]? = some y ∧ x = V.str y := by
        rw [List.getElem?_map] at hx
        cases e : ps[i]? with
        | none => rw [e] at hx; cases hx
        | some y => rw [e] at hx; exact ⟨y, rfl, (Option.some.inj hx).symm⟩
      have hi : i < 8 := Nat.lt_of_lt_of_le (List.getElem?_eq_some_iff.mp hy).1 lp
      have gSi := si _ _ gS
      refine ⟨_, rfl, _, rfl, p, S, Gi, n + 3 * i, _, rfl, bi, ti, by omega, SqL.of gSi, by rw [List.length_map]; omega, by rw [List.length_map]; omega, fun j1 w1 G1 H1 e1 q1 c1 u1 => ?_⟩
      refine ⟨_, rfl, _, rfl, p, S, G1, n + 3 * i + 1, _, rfl, c1, u1, by omega, SqL.of (q1 _ _ gSi), by rw [List.length_map]; omega, by rw [List.length_map]; omega, fun j2 w2 G2 H2 e2 q2 c2 u2 => ?_⟩
      obtain ⟨x1, m1, rfl⟩ := str_at e1
      obtain ⟨x2, m2, rfl⟩ := str_at e2
      refine ⟨_, _, rfl, _, rfl, p, G2, n + 3 * i + 2, 5, rfl, c2, u2, by omega, by decide, by decide, fun d G3 H3 d0 d5 q3 c3 u3 => ?_⟩
      have s3' : Same Gi G3 := q1.trans (q2.trans q3)
      have gF3 := s3' _ _ gF
      refine ⟨_, _, rfl, rfl, _, rfl, ite2 (fun h0 => ?_) (fun h0 => ?_)⟩
      · refine ⟨_, rfl, .inl ⟨rfl, _, SqL.of (c3.sub _ _ gF3)⟩, _, rfl, _, rfl, _, rfl, by show 3 ≤ sizeLine; decide, fun t nt => ?_⟩
        obtain ⟨c4, q4, g4'⟩ := c3.new (o := .tup [V.str y, V.str x1, V.str x2]) u3.some nt
        have gF4 := q4 _ _ gF3
        refine ⟨F, vs, _, rfl, rfl, c4.sub _ _ gF4, ?_, ?_⟩
        · have := pt.length
          show vs.length < 16777216
          omega
        have st : ∀ v c, TieAt K Gi v c → TieAt K (upd (upd G3 t (.tup [V.str y, V.str x1, V.str x2])) F (.lst (vs ++ [.ref t]))) v c := fun v c h => (h.same (s3'.trans q4)).list gF4
        refine ⟨_, _, _, _, vs ++ [.ref t], ties ++ [(y, x1, x2)], rfl, same_but (si.trans (s3'.trans q4)) g4, c4.both npF, ?_, upd_same, (pt.mono st).snoc ⟨t, rfl, SqT.list gF4 (SqT.of upd_same)⟩, ?_, ?_, ?_⟩
        · have := (u3.new (o := .tup [V.str y, V.str x1, V.str x2]) nt).past (o := .lst (vs ++ [.ref t])) npF
          exact this
        · rw [List.length_append, List.length_singleton]
          omega
        · rw [List.map_append, take_snoc hy]
          exact sub.append (List.Sublist.refl _)
        · intro z hz
          rcases List.mem_append.mp hz with hz | hz
          · exact jn z hz
          · rw [List.mem_singleton] at hz
            subst hz
            exact ⟨m1, m2⟩
      · refine ⟨_, _, _, _, vs, ties, rfl, si.trans s3', c3, ?_, gF3, pt.mono fun v c h => h.same s3', by omega, sub.trans (by rw [take_snoc hy]; exact List.sublist_append_left _ _), jn⟩
        exact u3
    · rintro σ H' ⟨v5, v6, v7, Gi, vs, ties, rfl, si, bi, ti, gF, pt, lt, sub, jn⟩
      rw [List.length_map] at ti lt sub
      rw [List.take_length] at sub
      have lv := pt.length
      refine ⟨_, rfl, _, rfl, _, rfl, F, _, rfl, .inl (SqL.of (bi.sub _ _ gF)), p, F, Gi, n + 3 * ps.length, vs.length, vs, rfl, bi, ti, by omega, SqL.of gF, Nat.le_refl _, by omega, fun ys rs l G5 H5 pm ly s5 b5 t5 gl gl0 => ?_⟩
      have er : rs = [] := by
        have := pm.length_eq
        rw [List.length_append] at this
        exact List.eq_nil_of_length_eq_zero (by omega)
      subst er
      rw [List.append_nil] at pm
      obtain ⟨ws, w1, w2⟩ := Paired.perm pm pt
      have w3 : (ws.map (·.1)).Perm (ties.map (·.1)) := w1.map _
      refine k l ys ws G5 H5 (sG.trans (si.trans s5)) b5 (t5.more (by omega) hn) (sG.trans si |>.free gl0) gl (w2.mono fun v c h => h.same s5) ?_ ?_ fun t htt => ?_
      · rw [w1.length_eq]
        omega
      · exact w3.nodup_iff.mpr (nd.sublist sub)
      · have h1 := w1.mem_iff.mp htt
        exact ⟨sub.subset (List.mem_map_of_mem h1), jn t h1⟩
end
end Ct

namespace Ct
open PySem PySem.Spec PyProof.Rows L2 TL
abbrev s_l_circuit_drawn : Stmt := top 60
abbrev N_l_circuit_drawn : List Str := ["pot", "parts", "joinings", "sources", "names", "whose", "own", "name"]
theorem sc_l_circuit_drawn : FnScope N_l_circuit_drawn ["pot", "parts", "joinings", "sources"] (defScope s_l_circuit_drawn) := ⟨rfl, rfl, rfl, by decide +kernel, rfl, by decide +kernel, by decide +kernel⟩
def sizes7 : List (Int × Int) := [(1, 1), (1, 1), (2, 1), (1, 2), (3, 1), (5, 1), (2, 3)]
/-- what is drawn is out of the law's own lists -/
def JoiIn (ps ss : List Str) (j : Str × List (Str × Str × Str)) : Prop := j.2.length ≤ ps.length ∧ ∀ t ∈ j.2, t.2.1 ∈ someOf ss ∧ t.2.2 ∈ someOf ss
structure DrawnOk (o : Own) : Prop where
  sizes : ∀ e ∈ o.parts, e.2 ∈ sizes7
  volts : ∀ e ∈ o.sources, drawn (-9) 9 e.2
  ends : ∀ j ∈ o.joinings, JoiIn (o.parts.map (·.1)) (o.sources.map (·.1)) j
def spDrawnN (K : PySem.W.Frag) : Sp := fun vs H Q _ => ∃ (p : Addr) (G : Hp) (n a b c : Nat), vs = [.ref p, .int a, .int b, .int c] ∧ Beside p G H ∧ PotAt p H n ∧ n + 400 ≤ 1000000 ∧ 1 ≤ a ∧ a ≤ 8 ∧ 1 ≤ b ∧ b ≤ 6 ∧ c ≤ 4 ∧
  ∀ (v : V) (o : Own) (G' H' : Hp), Same G G' → Beside p G' H' → PotAt p H' (n + 400) → OwnAt K G' v o → OwnOk o → DrawnOk o → o.parts.length = a → o.joinings.length = b → o.sources.length = c → Q v H'
theorem merge3 (s p j : V) : mergeK [] (kvs3 s p j) = kvs3 s p j := by
  unfold mergeK kvs3
  simp [putK, List.foldl, n_sp, n_js, n_jp, n_ps, n_sj, n_pj]
theorem put_s (s p j v : V) : putK (kvs3 s p j) (.inr "sources") v = kvs3 v p j := by
  unfold kvs3
  simp [putK, n_sp, n_js, n_jp, n_ps, n_sj, n_pj]
theorem put_p (s p j v : V) : putK (kvs3 s p j) (.inr "parts") v = kvs3 s v j := by
  unfold kvs3
  simp [putK, n_sp, n_js, n_jp, n_ps, n_sj, n_pj]
theorem dput_s {H : Hp} {d : Addr} {s p j v : V} (h : H d = some (.dK (kvs3 s p j))) : DPut H d (.str "sources") v (upd H d (.dK (kvs3 v p j))) := by
  have q := DPut.k (k := Sum.inr "sources") (v := v) h (by show 3 < 16777216; decide)
  rw [put_s] at q
  exact q
theorem dput_p {H : Hp} {d : Addr} {s p j v : V} (h : H d = some (.dK (kvs3 s p j))) : DPut H d (.str "parts") v (upd H d (.dK (kvs3 s v j))) := by
  have q := DPut.k (k := Sum.inr "parts") (v := v) h (by show 3 < 16777216; decide)
  rw [put_p] at q
  exact q
/-! ### the fractions and names are such as the document wants -/
theorem ratio_ok {a b : Int} (hb : 0 < b) (ha : a.natAbs < 2 ^ 1000) (hb2 : b.natAbs < 2 ^ 1000) : FrOk (ratio a b) := by
  have g0 : 0 < Int.gcd a b := Int.gcd_pos_of_ne_zero_right a (by omega)
  have g1 : 0 < (Int.gcd a b : Int) := by omega
  refine ⟨?_, ?_, ?_, ?_⟩
  · exact Int.ediv_pos_of_pos_of_dvd hb (by omega) (Int.gcd_dvd_right a b)
  · exact Int.gcd_ediv_gcd_ediv_gcd g0
  · have := Int.natAbs_ediv_le_natAbs a (Int.gcd a b : Int)
    exact Nat.lt_of_le_of_lt this ha
  · have := Int.natAbs_ediv_le_natAbs b (Int.gcd a b : Int)
    exact Nat.lt_of_le_of_lt this hb2
theorem small_nat {i : Int} (h0 : -(1000000 : Int) ≤ i) (h1 : i ≤ 1000000) : i.natAbs < 2 ^ 1000 := Nat.lt_of_le_of_lt (show i.natAbs ≤ 1000000 by omega) (by decide +kernel)
theorem drawn_ok {f : Int × Int} (h : drawn (-9) 9 f) : FrOk f := by
  obtain ⟨b, d, hb, d0, d1, rfl⟩ := h
  refine ratio_ok (by omega) (small_nat ?_ ?_) (small_nat (by omega) (by omega))
  all_goals rcases hb with rfl | rfl | rfl | rfl <;> omega
def pool1 : List Str := ["a", "b", "c", "d", "e", "m", "cap", "part", "lid", "gn"]
def pool2 : List Str := ["s", "t", "a", "src", "m"]
def pool3 : List Str := ["x", "y", "z", "up", "a", "down", "s"]
def nameB (x : Str) : Bool := decide ((1 ≤ x.length ∧ x.length ≤ 6) ∧ (tl x).all (fun c => decide (97 ≤ c ∧ c ≤ 122)) = true ∧ x ≠ "gnd")
theorem names_of {l : List Str} (h : l.all nameB = true) : ∀ x ∈ l, Name x := fun x hx => name_of (of_decide_eq_true (List.all_eq_true.mp h x hx))
theorem pool1_ok : (∀ x ∈ pool1, Name x) ∧ pool1.Nodup := ⟨names_of (by decide +kernel), by decide +kernel⟩
theorem pool2_ok : (∀ x ∈ pool2, Name x) ∧ pool2.Nodup := ⟨names_of (by decide +kernel), by decide +kernel⟩
theorem pool3_ok : (∀ x ∈ pool3, Name x) ∧ pool3.Nodup := ⟨names_of (by decide +kernel), by decide +kernel⟩
/-- what some of a pool's names are -/
theorem some_names {pool : List Str} (hp : (∀ x ∈ pool, Name x) ∧ pool.Nodup) {ys rs : List V} (h : (ys ++ rs).Perm (pool.map V.str)) : ∃ xs : List Str, ys = xs.map V.str ∧ xs.Nodup ∧ ∀ x ∈ xs, Name x := by
  obtain ⟨ws, w1, w2⟩ := Paired.perm h (strs_pair pool)
  have e := strs_are w2
  refine ⟨ws.take ys.length, ?_, (w1.nodup_iff.mpr hp.2).sublist (List.take_sublist _ _), fun x hx => hp.1 x (w1.mem_iff.mp (List.mem_of_mem_take hx))⟩
  rw [List.map_take, ← e, List.take_left']
  rfl
theorem sizes7_ok : ∀ f ∈ sizes7, FrOk f ∧ 0 < f.1 := by
  intro f hf
  simp only [sizes7, List.mem_cons, List.not_mem_nil, or_false] at hf
  rcases hf with rfl | rfl | rfl | rfl | rfl | rfl | rfl <;> exact ⟨⟨by decide, by decide, small_nat (by decide) (by decide), small_nat (by decide) (by decide)⟩, by decide⟩
theorem Paired.map_eq {α β γ : Type} {F : α → β → Prop} {f : β → α} : ∀ {xs : List α} {ys : List β}, Paired F xs ys → (∀ x y, F x y → f y = x) → ys.map f = xs
  | _, _, .nil, _ => rfl
  | _, _, .cons h r, k => by rw [List.map_cons, k _ _ h, Paired.map_eq (γ := γ) r k]
theorem Paired.all {α β : Type} {F : α → β → Prop} : ∀ {xs : List α} {ys : List β}, Paired F xs ys → ∀ y ∈ ys, ∃ x ∈ xs, F x y
  | _, _, .nil, _, h => nomatch h
  | _, _, .cons h r, y, hy => by
    rcases List.mem_cons.mp hy with rfl | hy
    · exact ⟨_, List.mem_cons_self, h⟩
    · obtain ⟨x, hx, q⟩ := Paired.all r y hy
      exact ⟨x, List.mem_cons_of_mem _ hx, q⟩
section
variable {P : Program} {w : World} {K : PySem.W.Frag} {mg : Str → Option Value} {base : Heap}
theorem k_circuit_drawn (D : Lies K mg "_law_circuit_drawn" s_l_circuit_drawn) (T : Plain mg) (G_l_of : Keeps P w K mg base 2 "_law_of" ["pot", "some"] (spOf K)) (G_l_some : Keeps P w K mg base 2 "_law_some" ["pot", "pool", "many"] (spSome K))
    (G_l_frac_drawn : Keeps P w K mg base 3 "_law_frac_drawn" ["pot", "low", "high"] spFracDrawn) (G_l_circuit_tied : Keeps P w K mg base 3 "_law_circuit_tied" ["pot", "parts", "sources"] (spTiedN K)) :
    Keeps P w K mg base 4 "_law_circuit_drawn" ["pot", "parts", "joinings", "sources"] (spDrawnN K) := by
  refine D.keeps sc_l_circuit_drawn (fun _ _ _ _ _ _ us hl => match us, hl with | [_, _, _, _], _ => rfl) (fun vs H Q E h => ?_) (fun f cdv A outer s H vs Q E hr h => ?_)
  · obtain ⟨p, G, n, a, b, c, rfl, _⟩ := h
    rfl
  · obtain ⟨p, G, n, a, b, c, rfl, bs, ht, hn, ha, ha2, hb, hb2, hc, k⟩ := h
    refine ⟨_, (pss_cons (ps_set (i := 4) sc_l_circuit_drawn.nd rfl (Or.inl rfl) (pe_go G_l_some (hr.mono (by decide)) rfl (pa_cons (pv 0) (pa_cons (pe_lst (pa_cons pe_str (pa_cons pe_str (pa_cons pe_str (pa_cons pe_str (pa_cons pe_str (pa_cons pe_str (pa_cons pe_str (pa_cons pe_str (pa_cons pe_str (pa_cons pe_str pa_nil))))))))))) (pa_cons (pv 1) pa_nil)))))
      (pss_cons (ps_set (i := 5) sc_l_circuit_drawn.nd rfl (Or.inl rfl) (pe_go G_l_some (hr.mono (by decide)) rfl (pa_cons (pv 0) (pa_cons (pe_lst (pa_cons pe_str (pa_cons pe_str (pa_cons pe_str (pa_cons pe_str (pa_cons pe_str pa_nil)))))) (pa_cons (pv 3) pa_nil)))))
      (pss_cons (ps_set (i := 6) sc_l_circuit_drawn.nd rfl (Or.inl rfl) (pe_disp (pps_cons pe_str (pe_lc (own := [("name", 7)]) (g := gName 7) (tt := tYes) rfl sc_l_circuit_drawn.nd (pi_list (pv 5)) (blkOk_by (N := N_l_circuit_drawn) (sc := defScope s_l_circuit_drawn) (by decide +kernel)) (fun _ _ _ _ _ => pg_name (i := 7) sc_l_circuit_drawn.nd rfl (Or.inl rfl)) (fun _ _ _ _ _ => pts_nil) (fun _ _ _ _ _ => by exact (pe_tup (pa_cons (pv 7) (pa_cons (pe_go G_l_frac_drawn (hr.mono (by decide)) rfl (pa_cons (pv 0) (pa_cons (pe_un un_neg pe_int) (pa_cons pe_int pa_nil)))) pa_nil))))) (pps_cons pe_str (pe_lst pa_nil) (pps_cons pe_str (pe_lst pa_nil) pps_nil))) (by rfl) (by rfl) (fun z => by cases z) (by decide)))
      (pss_cons (ps_dput (hu_of hr) (pv 6) pe_str (pe_lc (own := [("name", 7)]) (g := gName 7) (tt := tYes) rfl sc_l_circuit_drawn.nd (pi_list (pv 4)) (blkOk_by (N := N_l_circuit_drawn) (sc := defScope s_l_circuit_drawn) (by decide +kernel)) (fun _ _ _ _ _ => pg_name (i := 7) sc_l_circuit_drawn.nd rfl (Or.inl rfl)) (fun _ _ _ _ _ => pts_nil) (fun _ _ _ _ _ => by exact (pe_tup (pa_cons (pv 7) (pa_cons (pe_go G_l_of (hr.mono (by decide)) rfl (pa_cons (pv 0) (pa_cons (pe_lst (pa_cons (pe_tup (pa_cons pe_int (pa_cons pe_int pa_nil))) (pa_cons (pe_tup (pa_cons pe_int (pa_cons pe_int pa_nil))) (pa_cons (pe_tup (pa_cons pe_int (pa_cons pe_int pa_nil))) (pa_cons (pe_tup (pa_cons pe_int (pa_cons pe_int pa_nil))) (pa_cons (pe_tup (pa_cons pe_int (pa_cons pe_int pa_nil))) (pa_cons (pe_tup (pa_cons pe_int (pa_cons pe_int pa_nil))) (pa_cons (pe_tup (pa_cons pe_int (pa_cons pe_int pa_nil))) pa_nil)))))))) pa_nil))) pa_nil))))) rfl)
      (pss_cons (ps_for PassesOwn.never rfl (pi_list (pe_go G_l_some (hr.mono (by decide)) rfl (pa_cons (pv 0) (pa_cons (pe_lst (pa_cons pe_str (pa_cons pe_str (pa_cons pe_str (pa_cons pe_str (pa_cons pe_str (pa_cons pe_str (pa_cons pe_str pa_nil)))))))) (pa_cons (pv 2) pa_nil))))) (pg_name (i := 7) sc_l_circuit_drawn.nd rfl (Or.inl rfl))
        (pss_one (ps_expr (pe_bm PySem.F.plainAttrs_list PySem.F.slot_list_append PySem.F.type_list_append mt_append (pe_dget (hu_of hr) (pv 6) pe_str (fun _ _ => rfl)) (pa_cons (pe_tup (pa_cons (pv 7) (pa_cons (pe_go G_l_circuit_tied (hr.mono (by decide)) rfl (pa_cons (pv 0) (pa_cons (pv 4) (pa_cons (pv 5) pa_nil)))) pa_nil))) pa_nil)))))
      (pss_one (ps_ret (pv 6)))))))), ?_⟩
    refine ⟨_, rfl, by show 10 ≤ sizeLine; decide, fun l1 n1 => ⟨_, rfl, ?_⟩⟩
    obtain ⟨b1, s1, g1⟩ := bs.new (o := .lst (pool1.map V.str)) ht.some n1
    refine ⟨p, l1, _, n, a, pool1.map V.str, rfl, b1, ht.new n1, by omega, SqL.of upd_same, by show a ≤ 10; omega, by show 10 < 1000000; decide, fun ys1 rs1 A1 G2 H2 pm1 ly1 s2 b2 t2 gA gA0 => ?_⟩
    obtain ⟨ps, rfl, nd1, nm1⟩ := some_names pool1_ok pm1
    rw [List.length_map] at ly1
    refine ⟨_, rfl, by show 5 ≤ sizeLine; decide, fun l2 n2 => ⟨_, rfl, ?_⟩⟩
    obtain ⟨b3, s3, g3⟩ := b2.new (o := .lst (pool2.map V.str)) t2.some n2
    refine ⟨p, l2, _, n + a, c, pool2.map V.str, rfl, b3, t2.new n2, by omega, SqL.of upd_same, by show c ≤ 5; omega, by show 5 < 1000000; decide, fun ys2 rs2 B1 G4 H4 pm2 ly2 s4 b4 t4 gB gB0 => ?_⟩
    obtain ⟨ss, rfl, nd2, nm2⟩ := some_names pool2_ok pm2
    rw [List.length_map] at ly2
    have gA4 := s4 _ _ (s3 _ _ gA)
    refine fun q nq => into_pairC ?_
    obtain ⟨b5, s5, g5⟩ := b4.new (o := .dK []) t4.some nq
    have t5 := t4.new (o := .dK []) nq
    refine comp_pot (c := 2) (es := ss) (R := StrV) (R' := fun H' => EntAt K H') (P := fun x e => e.1 = x ∧ drawn (-9) 9 e.2) b5 t5 (by omega) (fun R r => ⟨_, rfl, r⟩) (SqL.of (s5 _ _ gB)) (strs_pair ss) (by rw [List.length_map]; omega) (fun s _ _ h => h.same s) (fun _ hD _ _ h => h.list hD)
      (fun x e Gi Hi m Z r he si bi ti hm hz => ?_) (fun G6 H6 D1 acc1 fs1 gD10 s6 b6 t6 gD1 pa1 pf1 => ?_)
    · obtain rfl : x = .str e := r
      refine ⟨rfl, _, rfl, _, rfl, _, rfl, p, Gi, m, -9, 9, rfl, bi, ti, hm, by decide, by decide, by decide, fun f t G7 H7 df s7 b7 t7 g7 => ⟨by show 2 ≤ sizeLine; decide, fun t2 nt2 => ?_⟩⟩
      obtain ⟨b8, s8, g8⟩ := b7.new (o := .tup [.str e, .ref t]) t7.some nt2
      exact hz _ (e, f) _ _ (s7.trans s8) b8 (t7.new nt2) ⟨t2, _, rfl, SqT.of upd_same, t, rfl, SqT.of (s8 _ _ g7)⟩ ⟨rfl, df⟩
    refine ⟨Nat.zero_le _, fun l3 n3 => ⟨Nat.zero_le _, fun l4 n4 => ?_⟩⟩
    obtain ⟨b9, s9, g9⟩ := b6.new (o := .lst []) t6.some n3
    have t9 := t6.new (o := .lst []) n3
    obtain ⟨b10, s10, g10⟩ := b9.new (o := .lst []) t9.some n4
    have t10 := t9.new (o := .lst []) n4
    have gq10 := s10 _ _ (s9 _ _ (s6 _ _ upd_same))
    refine ⟨b10.sub _ _ gq10, kvs3 (.ref D1) (.ref l3) (.ref l4), rfl, by show 3 ≤ 15; decide, ?_⟩
    rw [merge3]
    have npq : p ≠ q := fun z => t4.some (z ▸ nq)
    have b11 := b10.both (o := .dK (kvs3 (.ref D1) (.ref l3) (.ref l4))) npq
    have t11 := t10.past (o := .dK (kvs3 (.ref D1) (.ref l3) (.ref l4))) npq
    have gq4 : G4 q = none := g5
    have s11 : Same G4 (upd (upd (upd G6 l3 (.lst [])) l4 (.lst [])) q (.dK (kvs3 (.ref D1) (.ref l3) (.ref l4)))) := same_but (s5.trans (s6.trans (s9.trans s10))) gq4
    have f11 : ∀ {b : Addr} {z : HO}, b ≠ q → G6 b = some z → (upd (upd (upd G6 l3 (.lst [])) l4 (.lst [])) q (.dK (kvs3 (.ref D1) (.ref l3) (.ref l4)))) b = some z := fun nb h => (upd_ne nb).trans (s10 _ _ (s9 _ _ h))
    have n43 : l3 ≠ l4 := ne_of_none upd_same n4
    have l3q : l3 ≠ q := fun z => by rw [z, b6.sub _ _ (s6 _ _ upd_same)] at n3; cases n3
    have l4q : l4 ≠ q := fun z => by rw [z, b9.sub _ _ (s9 _ _ (s6 _ _ upd_same))] at n4; cases n4
    have hl4 : (upd (upd (upd G6 l3 (.lst [])) l4 (.lst [])) q (.dK (kvs3 (.ref D1) (.ref l3) (.ref l4)))) l4 = some (.lst []) := (upd_ne l4q).trans upd_same
    have D1q : D1 ≠ q := fun z => by rw [z, s6 _ _ upd_same] at gD1; cases gD1
    have hD1 := f11 D1q gD1
    have pa11 : Paired (EntAt K (upd (upd (upd G6 l3 (.lst [])) l4 (.lst [])) q (.dK (kvs3 (.ref D1) (.ref l3) (.ref l4))))) acc1 fs1 := pa1.mono fun v c h => (h.same (s9.trans s10)).dict gq10
    have hq11 : (upd (upd (upd G6 l3 (.lst [])) l4 (.lst [])) q (.dK (kvs3 (.ref D1) (.ref l3) (.ref l4)))) q = some (.dK (kvs3 (.ref D1) (.ref l3) (.ref l4))) := upd_same
    generalize upd (upd (upd G6 l3 (.lst [])) l4 (.lst [])) q (.dK (kvs3 (.ref D1) (.ref l3) (.ref l4))) = G11 at *
    refine into_name ?_
    dsimp only
    refine into_dput (comp_pot (c := 1) (es := ps) (R := StrV) (R' := fun H' => EntAt K H') (P := fun x e => e.1 = x ∧ e.2 ∈ sizes7) b11 t11 (by omega) (fun R r => ⟨_, rfl, r⟩) (SqL.of (s11 _ _ gA4)) (strs_pair ps) (by rw [List.length_map]; omega) (fun s _ _ h => h.same s) (fun _ hD _ _ h => h.list hD)
      (fun x e Gi Hi m Z r he si bi ti hm hz => ?_) (fun G12 H12 D2 acc2 fs2 gD20 s12 b12 t12 gD2 pa2 pf2 => ?_))
    · obtain rfl : x = .str e := r
      refine ⟨rfl, _, rfl, _, rfl, into_args1 (lst_frs (K := K) sizes7 bi ti (by decide) fun l vs G7 H7 s7 b7 t7 gl pr => ⟨p, l, G7, m, vs, rfl, b7, t7, hm, SqL.of gl, by rw [pr.length]; decide, by rw [pr.length]; decide, fun j v G8 H8 hv s8 b8 t8 => ⟨by show 2 ≤ sizeLine; decide, fun t2 nt2 => ?_⟩⟩)⟩
      obtain ⟨f, hf, hv2⟩ := Paired.at pr hv
      obtain ⟨b9', s9', g9'⟩ := b8.new (o := .tup [.str e, v]) t8.some nt2
      exact hz _ (e, f) _ _ (s7.trans (s8.trans s9')) b9' (t8.new nt2) ⟨t2, _, rfl, SqT.of upd_same, hv2.same (s8.trans s9')⟩ ⟨rfl, List.mem_of_getElem? hf⟩
    refine ⟨_, rfl, q, _, rfl, dput_p (b12.sub _ _ (s12 _ _ hq11)), ?_⟩
    have b13 := b12.both (o := .dK (kvs3 (.ref D1) (.ref D2) (.ref l4))) npq
    have t13 := t12.past (o := .dK (kvs3 (.ref D1) (.ref D2) (.ref l4))) npq
    have gq12 := s12 _ _ hq11
    have s13 : Same G4 (upd G12 q (.dK (kvs3 (.ref D1) (.ref D2) (.ref l4)))) := same_but (s11.trans s12) gq4
    have hl13 : (upd G12 q (.dK (kvs3 (.ref D1) (.ref D2) (.ref l4)))) l4 = some (.lst []) := (upd_ne l4q).trans (s12 _ _ hl4)
    have D2q : D2 ≠ q := fun z => by rw [z, hq11] at gD20; cases gD20
    have h13D1 : (upd G12 q (.dK (kvs3 (.ref D1) (.ref D2) (.ref l4)))) D1 = some (.lst acc1) := (upd_ne D1q).trans (s12 _ _ hD1)
    have h13D2 : (upd G12 q (.dK (kvs3 (.ref D1) (.ref D2) (.ref l4)))) D2 = some (.lst acc2) := (upd_ne D2q).trans gD2
    have h13q : (upd G12 q (.dK (kvs3 (.ref D1) (.ref D2) (.ref l4)))) q = some (.dK (kvs3 (.ref D1) (.ref D2) (.ref l4))) := upd_same
    have pa13 : Paired (EntAt K (upd G12 q (.dK (kvs3 (.ref D1) (.ref D2) (.ref l4))))) acc1 fs1 := pa11.mono fun v c h => (h.same s12).dict gq12
    have pb13 : Paired (EntAt K (upd G12 q (.dK (kvs3 (.ref D1) (.ref D2) (.ref l4))))) acc2 fs2 := pa2.mono fun v c h => h.dict gq12
    generalize upd G12 q (.dK (kvs3 (.ref D1) (.ref D2) (.ref l4))) = G13 at *
    have D1l4 : D1 ≠ l4 := fun z => by
      have h1 := b9.sub _ _ (s9 _ _ gD1)
      rw [z, n4] at h1
      cases h1
    have D2l4 : D2 ≠ l4 := fun z => by rw [z, hl4] at gD20; cases gD20
    refine ⟨_, rfl, by show 7 ≤ sizeLine; decide, fun l5 n5 => ⟨_, rfl, ?_⟩⟩
    obtain ⟨b14, s14, g14⟩ := b13.new (o := .lst (pool3.map V.str)) t13.some n5
    refine ⟨p, l5, _, _, b, pool3.map V.str, rfl, b14, t13.new n5, by omega, SqL.of upd_same, by show b ≤ 7; omega, by show 7 < 1000000; decide, fun ys3 rs3 J1 G15 H15 pm3 ly3 s15 b15 t15 gJ gJ0 => ?_⟩
    obtain ⟨js, rfl, nd3, nm3⟩ := some_names pool3_ok pm3
    rw [List.length_map] at ly3
    have z15 := s14.trans s15
    have l4n : ∀ {x : Addr} {o : HO}, G15 x = some o → x ≠ l4 → (hide l4 G15) x = some o := fun h n => (hide_ne n).trans h
    have npl4 : p ≠ l4 := fun z => t9.some (z ▸ n4)
    have J1l4 : J1 ≠ l4 := fun z => by rw [z, s14 _ _ hl13] at gJ0; cases gJ0
    have sG : Same G4 (hide l4 G15) := fun x o h => l4n (z15 _ _ (s13 _ _ h)) fun z => by
      have h1 := b9.sub _ _ (s9 _ _ (s6 _ _ (s5 _ _ h)))
      rw [z, n4] at h1
      cases h1
    have pa15 : Paired (EntAt K (hide l4 G15)) acc1 fs1 := pa13.mono fun v c h => by
      obtain ⟨t, u, rfl, h1, t', rfl, h2⟩ := h.same z15
      exact ⟨t, _, rfl, SqT.hide (z15 _ _ hl13) h1, t', rfl, SqT.hide (z15 _ _ hl13) h2⟩
    have pb15 : Paired (EntAt K (hide l4 G15)) acc2 fs2 := pb13.mono fun v c h => by
      obtain ⟨t, u, rfl, h1, t', rfl, h2⟩ := h.same z15
      exact ⟨t, _, rfl, SqT.hide (z15 _ _ hl13) h1, t', rfl, SqT.hide (z15 _ _ hl13) h2⟩
    generalize hN : n + a + c + 2 * ss.length + 1 * ps.length + b = N at *
    refine ⟨J1, rfl, ⟨_, SqL.of (b15.sub _ _ gJ)⟩, for_list (xs := js.map V.str) (fun i σ H' => ∃ (v7 : Option V) (Gi : Hp) (vs : List V) (joins : List (Str × List (Str × Str × Str))),
      σ = [some (.ref p), some (.int a), some (.int b), some (.int c), some (.ref A1), some (.ref B1), some (.ref q), v7] ∧ Same (hide l4 G15) Gi ∧ Beside p Gi H' ∧ Gi l4 = none ∧ H' l4 = some (.lst vs) ∧
      PotAt p H' (N + 40 * i) ∧ Paired (JoiAt K Gi) vs joins ∧ joins.map (·.1) = js.take i ∧ ∀ j ∈ joins, JoiOk ps j ∧ JoiIn ps ss j)
      ⟨_, _, [], [], rfl, Same.refl _, b15.hide, hide_at, b15.sub _ _ (z15 _ _ hl13), by exact t15, .nil, rfl, fun _ h => nomatch h⟩ (fun i σ H' _ ⟨_, Gi, _, _, _, s, bi, _⟩ => SqL.of (bi.sub _ _ (s _ _ (l4n gJ J1l4)))) ?_ ?_⟩
    · rintro i x σ H' hx ⟨v7, Gi, vs, joins, rfl, si, bi, g4i, h4i, ti, pj, ej, oj⟩
      obtain ⟨y, hy, rfl⟩ : ∃ y, js[i]? = some y ∧ x = V.str y := by
        rw [List.getElem?_map] at hx
        cases e : js[i]? with
        | none => rw [e] at hx; cases hx
        | some y => rw [e] at hx; exact ⟨y, rfl, (Option.some.inj hx).symm⟩
      have hi : i < js.length := (List.getElem?_eq_some_iff.mp hy).1
      have ba := bi.add g4i npl4 h4i
      have sa : Same Gi (upd Gi l4 (.lst vs)) := same_upd g4i
      have qi := ba.sub _ _ (sa _ _ (si _ _ (l4n (z15 _ _ h13q) l4q.symm)))
      refine ⟨_, rfl, q, _, rfl, get_j qi, .inl ⟨rfl, _, SqL.of h4i⟩, _, rfl, _, rfl, _, rfl, _, rfl, ?_⟩
      refine ⟨p, A1, B1, _, N + 40 * i, ps, ss, rfl, ba, ti, by omega, sa _ _ (si _ _ (sG _ _ gA4)), sa _ _ (si _ _ (sG _ _ gB)), by omega, by omega, nd1, nm2, fun l ts ties G16 H16 s16 b16 t16 gl0 gl pt few once tok => ⟨by show 2 ≤ sizeLine; decide, fun t nt => ?_⟩⟩
      have g16 : G16 l4 = some (.lst vs) := s16 _ _ upd_same
      have h16 := b16.sub _ _ g16
      have ll4 : l ≠ l4 := fun z => by rw [z, upd_same] at gl0; cases gl0
      have tl4 : l4 ≠ t := ne_of_none h16 nt
      have bh : Beside p (hide l4 G16) H16 := b16.hide
      obtain ⟨b17, s17, g17⟩ := bh.new (o := .tup [.str y, .ref l]) t16.some nt
      have g17l : (upd (hide l4 G16) t (.tup [.str y, .ref l])) l4 = none := by rw [upd_ne tl4]; exact hide_at
      have lt : l ≠ t := ne_of_none (b16.sub _ _ gl) nt
      have sh : Same Gi (hide l4 G16) := same_hide (sa.trans s16) g4i
      refine ⟨l4, vs, _, rfl, rfl, (upd_ne tl4).trans h16, ?_, ?_⟩
      · have := pj.length
        have e2 := congrArg List.length ej
        rw [List.length_map, List.length_take] at e2
        show vs.length < 16777216
        omega
      refine ⟨_, _, vs ++ [.ref t], joins ++ [(y, ties)], rfl, si.trans (sh.trans s17), b17.drop g17l, g17l, upd_same, ?_, (pj.mono fun v c h => h.same (sh.trans s17)).snoc ⟨t, .ref l, rfl, SqT.of upd_same, l, ts, rfl, SqL.of ?_, ?_⟩, ?_, ?_⟩
      · have := (t16.new (o := .tup [.str y, .ref l]) nt).past (o := .lst (vs ++ [.ref t])) npl4
        exact this
      · rw [upd_ne lt, hide_ne ll4]
        exact gl
      · exact pt.mono fun v c h => (h.hide g16).same s17
      · rw [List.map_append, ej, take_snoc hy]
        rfl
      · intro j hj
        rcases List.mem_append.mp hj with hj | hj
        · exact oj j hj
        · rw [List.mem_singleton] at hj
          subst hj
          exact ⟨⟨nm3 y (List.mem_of_getElem? hy), by show ties.length ≤ 8; omega, once, fun t ht => ⟨(tok t ht).1, some_junc nm2 _ (tok t ht).2.1, some_junc nm2 _ (tok t ht).2.2⟩⟩, few, fun t ht => (tok t ht).2⟩
    · rintro σ H' ⟨v7, Gi, vs, joins, rfl, si, bi, g4i, h4i, ti, pj, ej, oj⟩
      rw [List.length_map] at ti ej
      rw [List.take_length] at ej
      have ba := bi.add g4i npl4 h4i
      have sa : Same Gi (upd Gi l4 (.lst vs)) := same_upd g4i
      have e1 : fs1.map (·.1) = ss := Paired.map_eq (γ := Nat) pf1 fun x y h => h.1
      have e2 : fs2.map (·.1) = ps := Paired.map_eq (γ := Nat) pf2 fun x y h => h.1
      have c1 : fs1.length = ss.length := pf1.length.symm
      have c2 : fs2.length = ps.length := pf2.length.symm
      have c3 : joins.length = js.length := by rw [← ej, List.length_map]
      refine ⟨_, rfl, k (.ref q) ⟨fs1, fs2, joins⟩ _ H' ?_ ba (ti.more (by omega) hn) ⟨q, .ref D1, .ref D2, .ref l4, rfl, sa _ _ (si _ _ (l4n (z15 _ _ h13q) l4q.symm)), ⟨D1, acc1, rfl, SqL.of (sa _ _ (si _ _ (l4n (z15 _ _ h13D1) D1l4))), pa15.mono fun v c h => h.same (si.trans sa)⟩,
        ⟨D2, acc2, rfl, SqL.of (sa _ _ (si _ _ (l4n (z15 _ _ h13D2) D2l4))), pb15.mono fun v c h => h.same (si.trans sa)⟩, ⟨l4, vs, rfl, SqL.of upd_same, pj.mono fun v c h => h.same sa⟩⟩ ?_ ?_ ?_ ?_ ?_⟩
      · exact s1.trans (s2.trans (s3.trans (s4.trans (sG.trans (si.trans sa)))))
      · refine ⟨by show fs1.length ≤ 4; omega, by show 1 ≤ fs2.length; omega, by show fs2.length ≤ 8; omega, by show 1 ≤ joins.length; omega, by show joins.length ≤ 6; omega, fun e he => ?_, fun e he => ?_, by show (fs1.map (·.1)).Nodup; rw [e1]; exact nd2, by show (fs2.map (·.1)).Nodup; rw [e2]; exact nd1, by show (joins.map (·.1)).Nodup; rw [ej]; exact nd3, fun j hj => ?_⟩
        · obtain ⟨x, hx, h1, h2⟩ := Paired.all pf1 e he
          exact ⟨h1 ▸ nm2 x hx, drawn_ok h2⟩
        · obtain ⟨x, hx, h1, h2⟩ := Paired.all pf2 e he
          exact ⟨h1 ▸ nm1 x hx, sizes7_ok _ h2⟩
        · show JoiOk (fs2.map (·.1)) j
          rw [e2]
          exact (oj j hj).1
      · refine ⟨fun e he => ?_, fun e he => ?_, fun j hj => ?_⟩
        · obtain ⟨x, hx, h1, h2⟩ := Paired.all pf2 e he
          exact h2
        · obtain ⟨x, hx, h1, h2⟩ := Paired.all pf1 e he
          exact h2
        · show JoiIn (fs2.map (·.1)) (fs1.map (·.1)) j
          rw [e1, e2]
          exact (oj j hj).2
      · show fs2.length = a
        omega
      · show joins.length = b
        omega
      · show fs1.length = c
        omega
end
end Ct

/-! The free junctions are told in one way; sides that can be asked. -/
namespace Ct
open PySem PySem.Spec PyProof.Rows L2 TL RZ
theorem str_ext {x y : Str} (h : x.cps.toList = y.cps.toList) : x = y := by
  cases x with
  | mk a =>
    cases y with
    | mk b =>
      have : a = b := Array.toList_inj.mp h
      rw [this]
def LeS (x y : Str) : Prop := ¬ y.cps.toList < x.cps.toList
theorem LeS.trans {x y z : Str} (a : LeS x y) (b : LeS y z) : LeS x z := by
  unfold LeS at *
  rw [List.not_lt] at *
  exact List.le_trans a b
theorem LeS.anti {x y : Str} (a : LeS x y) (b : LeS y x) : x = y := by
  unfold LeS at *
  rw [List.not_lt] at *
  exact str_ext (List.le_antisymm a b)
theorem rising_pair : ∀ {l : List Str} {p : Str}, risingS p l = true → (p :: l).Pairwise LeS
  | [], p, _ => List.pairwise_cons.mpr ⟨(fun _ h => nomatch h), List.Pairwise.nil⟩
  | x :: r, p, h => by
    unfold risingS at h
    rw [Bool.and_eq_true] at h
    have ih := rising_pair h.2
    have hp : LeS p x := by
      unfold LeS
      have := h.1
      rw [ltCps_eq] at this
      simpa using this
    refine List.pairwise_cons.mpr ⟨fun y hy => ?_, ih⟩
    rcases List.mem_cons.mp hy with rfl | hm
    · exact hp
    · exact hp.trans ((List.pairwise_cons.mp ih).1 y hm)
theorem sorted_pair : ∀ {l : List Str}, sortedS l = true → l.Pairwise LeS
  | [], _ => List.Pairwise.nil
  | _ :: _, h => rising_pair h
theorem free_once {o : Own} {ties : Ties} {a b : List Str} (ha : FreeOf o ties a) (hb : FreeOf o ties b) : a = b := by
  have p : a.Perm b := (List.perm_ext_iff_of_nodup ha.once hb.once).mpr fun x => (ha.mem x).trans (hb.mem x).symm
  exact List.Perm.eq_of_pairwise (le := LeS) (fun x y _ _ h1 h2 => LeS.anti h1 h2) (sorted_pair ha.rise) (sorted_pair hb.rise) p
/-- asked by a Bool -/
theorem all_take {P : List Rat → Prop} {rs : List Rat} (h : ∀ i ∈ List.range (rs.length + 1), P (rs.take i)) (i : Nat) : P (rs.take i) := by
  by_cases l : i ≤ rs.length
  · exact h i (List.mem_range.mpr (by omega))
  · have e : rs.take i = rs.take rs.length := by
      rw [List.take_of_length_le (by omega), List.take_of_length_le (Nat.le_refl _)]
    rw [e]
    exact h rs.length (List.mem_range.mpr (by omega))
end Ct

/-! A drawn circuit's joinings as nets; their sizes. -/
namespace Ct
open PySem PySem.Spec PyProof.Rows L2 TL RZ
theorem ratF_ratio {a b : Int} (hb : 0 < b) : ratF (ratio a b) = (a : Rat) / (b : Rat) := by
  have g0 : 0 < Int.gcd a b := Int.gcd_pos_of_ne_zero_right a (by omega)
  have d1 := Int.gcd_dvd_left a b
  have d2 := Int.gcd_dvd_right a b
  obtain ⟨p, hp⟩ := d1
  obtain ⟨q, hq⟩ := d2
  have gn : (Int.gcd a b : Int) ≠ 0 := by omega
  have e1 : a / (Int.gcd a b : Int) = p := by
    conv => lhs; lhs; rw [hp]
    exact Int.mul_ediv_cancel_left p gn
  have e2 : b / (Int.gcd a b : Int) = q := by
    conv => lhs; lhs; rw [hq]
    exact Int.mul_ediv_cancel_left q gn
  have q0 : 0 < q := by
    rcases Int.lt_trichotomy q 0 with z | z | z
    · have := Int.mul_neg_of_pos_of_neg (show (0 : Int) < (Int.gcd a b : Int) by omega) z
      omega
    · rw [z, Int.mul_zero] at hq
      omega
    · exact z
  unfold ratio ratF
  rw [e1, e2, Rat.mkRat_eq_div]
  have qn : (q : Rat) ≠ 0 := cast_ne (by omega)
  have bn : (b : Rat) ≠ 0 := cast_ne (by omega)
  have gr : ((Int.gcd a b : Int) : Rat) ≠ 0 := cast_ne gn
  have eq : ((q.natAbs : Nat) : Rat) = (q : Rat) := by
    have : ((q.natAbs : Nat) : Int) = q := by omega
    conv => rhs; rw [← this]
    rfl
  dsimp only
  rw [eq]
  have r1 : (a : Rat) = ((Int.gcd a b : Int) : Rat) * (p : Rat) := by rw [← Rat.intCast_mul, ← hp]
  have r2 : (b : Rat) = ((Int.gcd a b : Int) : Rat) * (q : Rat) := by rw [← Rat.intCast_mul, ← hq]
  have m1 : (p : Rat) / (q : Rat) * (q : Rat) = p := Rat.div_mul_cancel qn
  have m2 : (a : Rat) / (b : Rat) * (b : Rat) = a := Rat.div_mul_cancel bn
  have : ((p : Rat) / (q : Rat) - (a : Rat) / (b : Rat)) * (b : Rat) = 0 := by
    have s1 : (p : Rat) / (q : Rat) * (b : Rat) = a := by
      rw [r2, r1]
      have : (p : Rat) / (q : Rat) * (((Int.gcd a b : Int) : Rat) * (q : Rat)) = ((Int.gcd a b : Int) : Rat) * ((p : Rat) / (q : Rat) * (q : Rat)) := by grind
      rw [this, m1]
    grind
  rcases Rat.mul_eq_zero.mp this with z | z
  · grind
  · exact absurd z bn
/-- a drawn fraction, by 30 -/
theorem drawn_wn {n : Int} (n0 : 0 ≤ n) {f : Int × Int} (h : drawn (-n) n f) : Wn 30 (30 * n.natAbs) (ratF f) := by
  obtain ⟨b, d, hb, d0, d1, rfl⟩ := h
  have b0 : 0 < b := by omega
  rw [ratF_ratio b0]
  have bn : (b : Rat) ≠ 0 := cast_ne (by omega)
  have m : ((-n * b + d : Int) : Rat) / (b : Rat) * (b : Rat) = ((-n * b + d : Int) : Rat) := Rat.div_mul_cancel bn
  have key : ∀ c : Int, c * b = 30 → (-n * b + d).natAbs * c.natAbs ≤ 30 * n.natAbs → Wn 30 (30 * n.natAbs) (((-n * b + d : Int) : Rat) / (b : Rat)) := by
    intro c hc hl
    refine ⟨(-n * b + d) * c, ?_, by rw [Int.natAbs_mul]; exact hl⟩
    have e30 : ((30 : Nat) : Rat) = (c : Rat) * (b : Rat) := by
      rw [← Rat.intCast_mul, hc]
      rfl
    rw [e30, Rat.intCast_mul]
    have : ((-n * b + d : Int) : Rat) / (b : Rat) * ((c : Rat) * (b : Rat)) = ((-n * b + d : Int) : Rat) / (b : Rat) * (b : Rat) * (c : Rat) := by grind
    rw [this, m]
  rcases hb with rfl | rfl | rfl | rfl
  · exact key 30 (by decide) (by show _ * 30 ≤ _; omega)
  · exact key 15 (by decide) (by show _ * 15 ≤ _; omega)
  · exact key 10 (by decide) (by show _ * 10 ≤ _; omega)
  · exact key 6 (by decide) (by show _ * 6 ≤ _; omega)
theorem sizes7_wn : ∀ f ∈ sizes7, Wn 6 30 (ratF f) ∧ 0 < ratF f := by
  intro f hf
  simp only [sizes7, List.mem_cons, List.not_mem_nil, or_false] at hf
  rcases hf with rfl | rfl | rfl | rfl | rfl | rfl | rfl
  · exact ⟨⟨6, by decide +kernel, by decide⟩, by decide +kernel⟩
  · exact ⟨⟨6, by decide +kernel, by decide⟩, by decide +kernel⟩
  · exact ⟨⟨12, by decide +kernel, by decide⟩, by decide +kernel⟩
  · exact ⟨⟨3, by decide +kernel, by decide⟩, by decide +kernel⟩
  · exact ⟨⟨18, by decide +kernel, by decide⟩, by decide +kernel⟩
  · exact ⟨⟨30, by decide +kernel, by decide⟩, by decide +kernel⟩
  · exact ⟨⟨4, by decide +kernel, by decide⟩, by decide +kernel⟩
section
variable {o : Own} {x : Str} {ties : Ties} (ok : OwnOk o) (dr : DrawnOk o) (hj : (x, ties) ∈ o.joinings)
include ok dr hj
theorem size_at {t : Str × Str × Str} (ht : t ∈ ties) : ∃ e ∈ o.parts, e.1 = t.1 ∧ cS o t = ratF e.2 := by
  obtain ⟨e, he, ee⟩ := List.mem_map.mp ((ok.joi _ hj).tie t ht).1
  have q := (put_fold (fun e : Str × Int × Int => e.1) (fun e => ratF e.2) o.parts Tab.no).2 ok.p_once e he
  refine ⟨e, he, ee, ?_⟩
  show (sizeT o).at t.1 = _
  rw [← show e.1 = t.1 from ee]
  exact at_of q
theorem given_src {a : Str} {e : Str × Int × Int} (he : e ∈ o.sources) (ea : e.1 = a) : givenT o a = some (ratF e.2) := by
  have q := (put_fold (fun e : Str × Int × Int => e.1) (fun e => ratF e.2) o.sources (Tab.no.put "gnd" 0)).2 ok.s_once e he
  rw [← ea]
  exact q
theorem given_gnd : givenT o "gnd" = some 0 := by
  have q := (put_fold (fun e : Str × Int × Int => e.1) (fun e => ratF e.2) o.sources (Tab.no.put "gnd" 0)).1 "gnd" fun h => by
    obtain ⟨e, he, ee⟩ := List.mem_map.mp h
    exact (ok.src e he).1.2.2.2 ee
  have : (Tab.no.put "gnd" 0) "gnd" = some (0 : Rat) := if_pos rfl
  exact q.trans this
theorem named_in {a : Str} (ha : a ∈ named ties) : a ∈ someOf (o.sources.map (·.1)) := by
  obtain ⟨t, ht, h⟩ := List.mem_flatMap.mp ha
  have q := (dr.ends _ hj).2 t ht
  simp only [List.mem_cons, List.not_mem_nil, or_false] at h
  rcases h with rfl | rfl
  · exact q.1
  · exact q.2
theorem in_mno {a : Str} (hn : a ∈ named ties) (hg : givenT o a = none) : a ∈ (["m", "n", "o"] : List Str) := by
  have q := named_in ok dr hj hn
  have ns : ¬ a ∈ o.sources.map (·.1) := fun h => by
    obtain ⟨e, he, ee⟩ := List.mem_map.mp h
    rw [given_src ok dr hj he ee] at hg
    cases hg
  have ng : ¬ a = "gnd" := fun h => by
    rw [h, given_gnd ok dr hj] at hg
    cases hg
  unfold someOf at q
  rcases List.mem_append.mp q with q | q
  · rcases List.mem_append.mp q with q | q
    · simp only [List.mem_cons, List.not_mem_nil, or_false] at q ⊢
      rcases q with q | q | q | q | q | q | q
      · exact absurd q ng
      · exact absurd q ng
      · exact .inl q
      · exact .inr (.inl q)
      · exact .inl q
      · exact .inr (.inl q)
      · exact .inr (.inr q)
    · exact absurd q ns
  · exact absurd q ns
theorem free_is : ∃ fl, FreeOf o ties fl := by
  have srt : ∀ p : Str → Bool, sortedS ((["m", "n", "o"] : List Str).filter p) = true := by
    intro p
    cases h1 : p "m" <;> cases h2 : p "n" <;> cases h3 : p "o" <;> simp only [List.filter, h1, h2, h3] <;> decide +kernel
  refine ⟨(["m", "n", "o"] : List Str).filter fun a => decide (a ∈ named ties ∧ givenT o a = none), fun a => ?_, ?_, srt _⟩
  · rw [List.mem_filter]
    constructor
    · exact fun h => of_decide_eq_true h.2
    · exact fun h => ⟨in_mno ok dr hj h.1 h.2, decide_eq_true h⟩
  · exact (show (["m", "n", "o"] : List Str).Nodup by decide +kernel).sublist List.filter_sublist
end
section
variable {o : Own} {x : Str} {ties : Ties} {fl : List Str} (ok : OwnOk o) (dr : DrawnOk o) (hj : (x, ties) ∈ o.joinings) (fo : FreeOf o ties fl)
include ok dr hj fo
theorem net_of : NetOk o ties fl := by
  refine ⟨ok.p_once, (ok.joi _ hj).once, fun t ht => ((ok.joi _ hj).tie t ht).1, fun t ht => ?_, fo.once⟩
  obtain ⟨e, he, _, q⟩ := size_at ok dr hj ht
  rw [q]
  exact (sizes7_wn _ (dr.sizes e he)).2
theorem end_at {a : Str} (ha : a ∈ named ties) : a ∈ fl ∨ ∃ r, givenT o a = some r := by
  cases g : givenT o a with
  | none => exact .inl ((fo.mem a).mpr ⟨ha, g⟩)
  | some r => exact .inr ⟨r, rfl⟩
theorem ends_at : EndsAt o ties fl := fun t ht => ⟨end_at ok dr hj fo (List.mem_flatMap.mpr ⟨t, ht, by simp⟩), end_at ok dr hj fo (List.mem_flatMap.mpr ⟨t, ht, by simp⟩)⟩
theorem free_few : fl.length ≤ 3 := by
  have sub : ∀ a ∈ fl, a ∈ (["m", "n", "o"] : List Str) := by
    intro a ha
    obtain ⟨hn, hg⟩ := (fo.mem a).mp ha
    have q := named_in ok dr hj hn
    have ns : ¬ a ∈ o.sources.map (·.1) := fun h => by
      obtain ⟨e, he, ee⟩ := List.mem_map.mp h
      rw [given_src ok dr hj he ee] at hg
      cases hg
    have ng : ¬ a = "gnd" := fun h => by
      rw [h, given_gnd ok dr hj] at hg
      cases hg
    unfold someOf at q
    rcases List.mem_append.mp q with q | q
    · rcases List.mem_append.mp q with q | q
      · simp only [List.mem_cons, List.not_mem_nil, or_false] at q ⊢
        rcases q with q | q | q | q | q | q | q
        · exact absurd q ng
        · exact absurd q ng
        · exact .inl q
        · exact .inr (.inl q)
        · exact .inl q
        · exact .inr (.inl q)
        · exact .inr (.inr q)
      · exact absurd q ns
    · exact absurd q ns
  exact List.Nodup.length_le_of_subset fo.once sub
theorem zero_wn {k : Nat} {a : Str} (ha : a ∈ named ties) : Wn (30 * k) (270 * k) ((zeroT o fl).at a) := by
  by_cases h : a ∈ fl
  · rw [zero_in fo.once h]
    exact (Wn.zero _).mono (Nat.zero_le _)
  · have e0 : (zeroT o fl).at a = (givenT o).at a := by
      unfold Tab.at
      rw [zero_out h]
    rw [e0]
    have q := named_in ok dr hj ha
    have src : a ∈ o.sources.map (·.1) → Wn (30 * k) (270 * k) ((givenT o).at a) := fun hs => by
      obtain ⟨e, he, ee⟩ := List.mem_map.mp hs
      rw [at_of (given_src ok dr hj he ee)]
      have := (drawn_wn (n := 9) (by decide) (dr.volts e he)).times k
      exact this
    have free : a ∈ (["m", "n", "o"] : List Str) ∨ a = "gnd" ∨ a ∈ o.sources.map (·.1) := by
      unfold someOf at q
      rcases List.mem_append.mp q with q | q
      · rcases List.mem_append.mp q with q | q
        · simp only [List.mem_cons, List.not_mem_nil, or_false] at q ⊢
          rcases q with q | q | q | q | q | q | q
          · exact .inr (.inl q)
          · exact .inr (.inl q)
          · exact .inl (.inl q)
          · exact .inl (.inr (.inl q))
          · exact .inl (.inl q)
          · exact .inl (.inr (.inl q))
          · exact .inl (.inr (.inr q))
        · exact .inr (.inr q)
      · exact .inr (.inr q)
    by_cases hs : a ∈ o.sources.map (·.1)
    · exact src hs
    · by_cases hg : a = "gnd"
      · rw [hg, at_of (given_gnd ok dr hj)]
        exact (Wn.zero _).mono (Nat.zero_le _)
      · cases g : givenT o a with
        | none => exact absurd ((fo.mem a).mpr ⟨ha, g⟩) h
        | some r =>
          have out := (put_fold (fun e : Str × Int × Int => e.1) (fun e => ratF e.2) o.sources (Tab.no.put "gnd" 0)).1 a hs
          have : (Tab.no.put "gnd" 0) a = none := if_neg hg
          rw [this] at out
          rw [show givenT o a = none from out] at g
          cases g
/-- the bounds that a joining of a drawn circuit starts from -/
theorem sized_of {st : List Rat} {k A : Nat} (len : st.length = o.parts.length) (all : ∀ r ∈ st, Wn (30 * k) A r) : Sized o ties fl st 6 30 (30 * k) A (270 * k) := by
  have N := net_of ok dr hj fo
  refine ⟨fun t ht => ?_, fun t ht => ?_, fun t ht => ⟨zero_wn ok dr hj fo (List.mem_flatMap.mpr ⟨t, ht, by simp⟩), zero_wn ok dr hj fo (List.mem_flatMap.mpr ⟨t, ht, by simp⟩)⟩⟩
  · obtain ⟨e, he, _, q⟩ := size_at ok dr hj ht
    rw [q]
    exact (sizes7_wn _ (dr.sizes e he)).1
  · obtain ⟨i, e, a, hi, ee, ha, q⟩ := part_of N len ht
    rw [q]
    exact all a (List.mem_of_getElem? ha)
end
end Ct

/-! enumerate of a tuple. -/
namespace Ct
open PySem PySem.Spec PyProof.Rows L2 TL
theorem meets_one {v : Value} {ob : Obj} {Hp0 : Heap → Prop} (B : Begins v ob Hp0) :
    Meets (Builtin.«enumerate.__new__» ⟨[.type "enumerate", v], []⟩) (fun _ R s => Hp0 s.heap ∧ R (.ok (.ret (.ref (s.heap.push ob).objs.size)))
        { s with heap := (s.heap.push ob).push { cls := .type "enumerate", data := .fields #[.none, .bool false, .ref s.heap.objs.size, rawInt 0, .none, .none] } }) :=
  .of_wp fun prog w A R s hyp => by
    obtain ⟨hp, gens, dd, tok, sys⟩ := s
    obtain ⟨h1, h⟩ := hyp
    have hsub := sub_enumerate
    have begin_ : ∀ {A' : Around} {E : Value → Shared → Prop} {Q : Value → Shared → Prop}, Q (.ref hp.objs.size) ⟨hp.push ob, gens, dd, tok, sys⟩ → wpAny (model prog w) A' (pyIter v) Q E ⟨hp, gens, dd, tok, sys⟩ :=
      fun q => B.iter prog w _ _ ⟨hp, gens, dd, tok, sys⟩ _ h1 q
    wp_walk using begin_
    refine wpAny_stack_any fun _ => wpAny_pure ?_
    split
    · rename_i cc _ _ _ _ _
      cases (cc == Value.type "enumerate") <;> (wp_walk using begin_; exact ⟨_, rfl, h⟩)
    · wp_walk using begin_
      exact ⟨_, rfl, h⟩
theorem enum_one {prog : Program} {w : World} {A : Around} {E : Value → Shared → Prop} {s : Shared} {v : Value} {ob : Obj} {Hp0 : Heap → Prop} {Q : Value → Shared → Prop} (B : Begins v ob Hp0) (h1 : Hp0 s.heap)
    (h : ∀ h', IsEnum h' (s.heap.objs.size + 1) s.heap.objs.size 0 .none → h'.get? s.heap.objs.size = some ob → h'.objs.size = s.heap.objs.size + 2 → (∀ b o, s.heap.get? b = some o → h'.get? b = some o) → Q (.ref (s.heap.objs.size + 1)) { s with heap := h' }) :
    wpAny (model prog w) A (call (.type "enumerate") [v]) Q E s := by
  refine callType_new F.called_enumerate (by decide) (F.typeCall_enumerate_1 _) (F.newCall_enumerate_1 _) (fun obj => F.args_object_init_2 obj _) F.entry_enumerate_new (meets_one B) ⟨h1, ?_⟩
  have big : (s.heap.push ob).objs.size = s.heap.objs.size + 1 := Heap.size_push ..
  show _ ∧ _
  rw [big]
  have two : IsEnum ((s.heap.push ob).push { cls := .type "enumerate", data := .fields #[.none, .bool false, .ref s.heap.objs.size, rawInt 0, .none, .none] }) (s.heap.objs.size + 1) s.heap.objs.size 0 .none := by
    have q := Heap.get?_push_size (s.heap.push ob) (o := { cls := .type "enumerate", data := .fields #[.none, .bool false, .ref s.heap.objs.size, rawInt 0, .none, .none] }) rfl
    rw [big] at q
    exact q
  refine ⟨⟨_, two, rfl⟩, h _ two (Heap.get?_push_of_some _ (Heap.get?_push_size _ B.free)) (by rw [Heap.size_push, big]) fun b o z => Heap.get?_push_of_some _ (Heap.get?_push_of_some _ z)⟩
def ItEnT (K : PySem.W.Frag) (a : Addr) : It where
  go := fun i H => ∃ xs x, SqT K H a xs ∧ xs[i]? = some x
  yld := fun i H v H' => ∃ T x, v = .ref T ∧ H T = none ∧ H' = upd H T (.tup [.int (i : Nat), x]) ∧ ∀ xs, SqT K H a xs → xs[i]? = some x
  stop := fun i H => ∃ xs, SqT K H a xs ∧ xs.length ≤ i
theorem turn_enT {P : Program} {w : World} {K : PySem.W.Frag} {elts : List Expr} {kk : Nat} {tpos : Pos} (a e it : Addr) :
    Turn P w K (.Tuple elts kk tpos) (ItEnT K a) [e, it] e fun i h => (∃ o, IsEnum h e it ((i : Nat) : Int) o) ∧ h.IsTupleIter it a i ∧ e ≠ it ∧ e ≠ a ∧ a ≠ it where
  mem := List.mem_cons_self
  obj := by
    rintro i h ⟨⟨w0, hE⟩, ⟨w1, hI, _, hF⟩, _⟩ b hb
    rcases List.mem_cons.mp hb with rfl | hb
    · exact ⟨_, hE, fun v z => nomatch z⟩
    · obtain rfl := List.mem_singleton.mp hb
      exact ⟨w1, hI, fun v z => by rw [hF] at z; cases z⟩
  keep := by
    rintro i h h' ⟨⟨w0, hE⟩, hI, n1, n2, n3⟩ kp
    exact ⟨⟨w0, kp e List.mem_cons_self _ hE⟩, hI.at fun o z => kp it (List.mem_cons_of_mem _ List.mem_cons_self) o z, n1, n2, n3⟩
  item := by
    rintro X rfl rfl rfl hc i pins s σ H E I hf ⟨⟨w0, hE⟩, hI, n1, n2, n3⟩ ⟨xs, x, hxs, hxi⟩
    obtain ⟨zs, rz, pz, lz⟩ := I.tuple hxs
    obtain ⟨y, hy, ry⟩ := rz.get hxi
    have pt : s.heap.IsTuple a zs.toArray := pz
    have lt1 := Heap.lt_size hE
    have lt2 : it < s.heap.objs.size := by
      obtain ⟨_, z, _⟩ := hI
      exact Heap.lt_size z
    have Dl := Draws.tuple (prog := X.prog) (w := X.w) (A := X.A.in1) (I.ok.hd hc) it a n3 zs.toArray
    have hyi : i < zs.toArray.size := by
      have := (List.getElem?_eq_some_iff.mp hy).1
      simpa using this
    refine wpAny_pyNext_enum_itemC (i := i) Dl hE ⟨hI, pt⟩ hyi n1 (by simp [n1, n2]) fun x2 h1 tk hx2 hO st1 hT hsz hk => ?_
    obtain rfl : y = x2 := by
      have e2 : zs[i]? = some x2 := by simpa using hx2
      rw [hy] at e2
      exact Option.some.inj e2
    refine ⟨_, rfl, wpAny_letOwnedTupleGo_enum (s := { s with heap := h1, toks := tk + 1 }) hO fun h2 hE2 sb => ?_⟩
    have hT2 := (sb.2 _ (Nat.ne_of_gt lt1)).trans hT
    have ob : ObjOk X.prog X.w (upd H s.heap.objs.size (.tup [.int (i : Nat), x])) h2 s.heap.objs.size (.tup [.int (i : Nat), x]) :=
      ⟨by show 2 ≤ sizeLine; decide, [.int (i : Nat) tk, y], .cons ⟨_, rfl⟩ (.cons ry .nil), ⟨_, hT2, rfl, _, rfl⟩⟩
    have J := I.turnedNew (t' := tk + 1) (ch := [e, it]) (fun b o hb q => (sb.2 b (fun z => hb (z ▸ List.mem_cons_self))).trans (hk b o (fun z => hb (z ▸ List.mem_cons_self)) (fun z => hb (by simp [z])) q)) hf (Nat.le_refl _) ob
    refine ⟨.ref s.heap.objs.size, _, J, rfl, ⟨_, x, rfl, I.hok.fresh (Nat.le_refl _), rfl, fun ys hys => by rw [I.tuple_inj hys hxs]; exact hxi⟩, ⟨⟨y, ?_⟩, st1.1.at fun o q => (sb.2 it (Ne.symm n1)).trans q, n1, n2, n3⟩, fun b hb => ?_⟩
    · rw [show (((i + 1 : Nat) : Nat) : Int) = (i : Int) + 1 by omega]
      exact hE2
    · have hlt : b < s.heap.objs.size := by
        rcases List.mem_cons.mp hb with rfl | hb
        · exact lt1
        · obtain rfl := List.mem_singleton.mp hb
          exact lt2
      rw [upd_ne (Nat.ne_of_lt hlt)]
      exact (hf b hb).1
  done := by
    rintro X rfl rfl rfl hc i pins s σ H E I hf ⟨⟨w0, hE⟩, hI, n1, n2, n3⟩ ⟨xs, hxs, hle⟩
    obtain ⟨zs, rz, pz, lz⟩ := I.tuple hxs
    have pt : s.heap.IsTuple a zs.toArray := pz
    have hx : zs.toArray[i]? = none := by
      have := rz.length
      simp
      omega
    have De : Draws X.prog X.w X.A.in1 it [it, a] i (fun _ _ => False) (fun j h => j = i ∧ h.IsTupleIter it a i ∧ h.IsTuple a zs.toArray) :=
      { live := fun _ _ st => let ⟨o, ho, _⟩ := st.2.1; ⟨o, ho⟩
        frame := fun _ _ _ st kp => ⟨st.1, st.2.1.at fun o q => kp it (by simp) o q, st.2.2.at fun o q => kp a (by simp) o q⟩
        item := fun j _ _ _ hj st _ => absurd (st.1 ▸ hj) (Nat.lt_irrefl _)
        done := fun s2 Q2 E2 st hE2 => wpAny_nextOf_tuple_end (I.ok.hd hc) st.2.1 st.2.2 hx fun h2 y q1 q2 => hE2 h2 y q1 q2 }
    obtain ⟨f0, f1, f2, f3, f4, f5⟩ := hf it (by simp)
    exact wpAny_pyNext_enum_endD De hE ⟨rfl, hI, pt⟩ fun h2 eb => ⟨rfl, I.turned (t' := s.toks) (fun b o hb q => eb b o hb q) f0 f1 f3 f4 f5⟩
  self := fun A i s Q E st h => let ⟨⟨_, z⟩, _⟩ := st; wpAny_pyIter_enum z h
def iEnT (K : PySem.W.Frag) (ta : TA) : TI := fun σ H R => ta σ H fun vs H1 => ∃ a xs, vs = [.ref a] ∧ SqT K H1 a xs ∧ R (ItEnT K a) H1
theorem pi_enT {X : Cx} {e : Expr} {ta : TA} {p pos tpos : Pos} {elts : List Expr} {kk : Nat} (hg : Gl X "enumerate") (hm : X.mg "enumerate" = none) (ha : PA X [e] ta) (hs : starEach [e] X.env = [(false, eval e X.env)] := by rfl) :
    PI X (.Tuple elts kk tpos) (.Call (.Name "enumerate" p) [e] [] pos) (iEnT X.K ta) := by
  constructor
  intro pins s σ H R I h
  refine Call_ (ld_blt I hg hm boot_enumerate (PyProof.Rows.callWith_type1 (thn (ha.run pos pins s σ H _ I h) fun us s1 ⟨vs, H1, I1, r1, q1⟩ => ?_) hs rfl))
  obtain ⟨a, xs, rfl, hq, q⟩ := q1
  cases r1 with
  | cons r rr =>
    cases rr
    cases r
    obtain ⟨its, rv, pz, hz⟩ := I1.tuple hq
    have pt : s1.heap.IsTuple a its.toArray := pz
    have lt : a < s1.heap.objs.size := by
      obtain ⟨_, z, _⟩ := id pt
      exact Heap.lt_size z
    refine enum_one (begins_tuple a its.toArray) pt fun h' he hit hsz hk => wpAny_pyIter_enum he ?_
    have I2 : Inv X pins σ H1 { s1 with heap := h' } := I1.kept (t' := s1.toks) hk
    refine ⟨s1.heap.objs.size + 1, [s1.heap.objs.size + 1, s1.heap.objs.size], _, _, H1, rfl, I2, turn_enT a (s1.heap.objs.size + 1) s1.heap.objs.size, ⟨⟨.none, he⟩, ⟨_, hit, rfl, rfl⟩, Nat.succ_ne_self _, Nat.ne_of_gt (Nat.lt_succ_of_lt lt), Nat.ne_of_lt lt⟩, fun b hb => ?_, q⟩
    have hle : s1.heap.objs.size ≤ b := by
      rcases List.mem_cons.mp hb with rfl | hb
      · exact Nat.le_add_right _ _
      · obtain rfl := List.mem_singleton.mp hb
        exact Nat.le_refl _
    exact I1.fpOk hle (I1.hok.fresh hle)
theorem walk_enT {K : PySem.W.Frag} {a : Addr} {xs : List V} : Walk (ItEnT K a) xs.length (fun H => SqT K H a xs) (fun i H v H' => ∃ T x, v = .ref T ∧ H T = none ∧ H' = upd H T (.tup [.int (i : Nat), x]) ∧ xs[i]? = some x) := by
  refine ⟨fun i _ hi q => ⟨xs, xs[i], q, by simp [hi]⟩, fun _ q => ⟨xs, q, Nat.le_refl _⟩, fun i H v H' _ q y => ?_⟩
  obtain ⟨T, x, h1, h2, h3, h4⟩ := y
  exact ⟨T, x, h1, h2, h3, h4 xs q⟩
end Ct

set_option pp.maxSteps 1500
/-! Scripts: run, behind, losses. -/
namespace Ct
open PySem PySem.Spec PyProof.Rows L2 TL RZ
structure Plain3 (mg : Str → Option Value) : Prop where
  c_LONGEST_SCRIPT : ∃ t, mg "LONGEST_SCRIPT" = some (.int 40 t)
def tiesOf (o : Own) (x : Str) : Ties := (o.joinings.lookup x).getD []
open Classical in
noncomputable def freeF (o : Own) (ties : Ties) : List Str := if h : ∃ fl, FreeOf o ties fl then h.choose else []
theorem freeF_is {o : Own} {ties : Ties} {fl : List Str} (f : FreeOf o ties fl) : fl = freeF o ties := by
  have h : ∃ fl, FreeOf o ties fl := ⟨fl, f⟩
  unfold freeF
  rw [dif_pos h]
  exact free_once f h.choose_spec
/-- one step, a script's steps, all standings -/
noncomputable def stepR (o : Own) (st : List Rat) (x : Str) : List Rat := joinL o (tiesOf o x) (freeF o (tiesOf o x)) st
noncomputable def lastR (o : Own) (js : List Str) (st : List Rat) : List Rat := js.foldl (stepR o) st
noncomputable def runR (o : Own) (js : List Str) (st : List Rat) : List (List Rat) := (List.range (js.length + 1)).map fun m => lastR o (js.take m) st
/-- what a script comes across -/
def RunOk (o : Own) (js : List Str) (st : List Rat) : Prop := ∀ i x, js[i]? = some x → ∀ fl, FreeOf o (tiesOf o x) fl → JoinOk o (tiesOf o x) fl (lastR o (js.take i) st)
theorem last_next {o : Own} {js : List Str} {st : List Rat} {i : Nat} {x : Str} (h : js[i]? = some x) : lastR o (js.take (i + 1)) st = stepR o (lastR o (js.take i) st) x := by
  unfold lastR
  rw [take_next h, List.foldl_append]
  rfl
theorem step_len {o : Own} {st : List Rat} {x : Str} (h : st.length = o.parts.length) : (stepR o st x).length = o.parts.length := by
  unfold stepR joinL standL
  rw [List.length_zipWith]
  omega
theorem last_len {o : Own} : ∀ {js : List Str} {st : List Rat}, st.length = o.parts.length → (lastR o js st).length = o.parts.length
  | [], _, h => h
  | x :: js, st, h => last_len (js := js) (step_len (x := x) h)
theorem ties_in {o : Own} {x : Str} (h : x ∈ o.joinings.map (·.1)) : (x, tiesOf o x) ∈ o.joinings := by
  unfold tiesOf
  have g : ∀ (l : List (Str × Ties)), x ∈ l.map (·.1) → (x, (l.lookup x).getD []) ∈ l := by
    intro l
    induction l with
    | nil => exact fun h => nomatch h
    | cons e l ih =>
      intro h
      by_cases q : x = e.1
      · subst q
        rw [show List.lookup e.1 (e :: l) = some e.2 by simp [List.lookup]]
        exact List.mem_cons_self
      · have : List.lookup x (e :: l) = List.lookup x l := by
          have b : (x == e.1) = false := by simpa using q
          obtain ⟨e1, e2⟩ := e
          simp only [List.lookup]
          rw [b]
        rw [this]
        refine List.mem_cons_of_mem _ (ih ?_)
        rw [List.map_cons, List.mem_cons] at h
        rcases h with h | h
        · exact absurd h q
        · exact h
  exact g _ h
theorem last_of {α : Type} {R : V → α → Prop} {xs : List V} {ys : List α} {y : α} (h : Paired R xs ys) {n : Nat} (l : ys.length = n + 1) (e : ys[n]? = some y) : ∃ x, atI xs (-1) = some x ∧ R x y := by
  have lx := h.length
  obtain ⟨xa, xb, rfl⟩ : ∃ (xa : List V) (xb : V), xs = xa ++ [xb] := by
    rcases List.eq_nil_or_concat xs with z | ⟨xa, xb, e⟩
    · rw [z] at lx
      have : (0 : Nat) = n + 1 := by rw [← l, ← lx]; rfl
      omega
    · exact ⟨xa, xb, by rw [e, List.concat_eq_append]⟩
  rw [List.length_append, List.length_singleton] at lx
  have at_l : (xa ++ [xb])[n]? = some xb := by
    have : n = xa.length := by omega
    rw [this]
    simp
  obtain ⟨y', hy, r⟩ := Paired.at h at_l
  rw [e] at hy
  cases hy
  exact ⟨xb, atI_last xa xb, r⟩
theorem run_get {o : Own} {js : List Str} {st : List Rat} {m : Nat} (h : m ≤ js.length) : (runR o js st)[m]? = some (lastR o (js.take m) st) := by
  unfold runR
  rw [List.getElem?_map, List.getElem?_range (by omega)]
  rfl
theorem run_len (o : Own) (js : List Str) (st : List Rat) : (runR o js st).length = js.length + 1 := by
  unfold runR
  rw [List.length_map, List.length_range]
def StandsAt (K : PySem.W.Frag) (H : Hp) (v : V) (rs : List (List Rat)) : Prop := ∃ a xs, v = .ref a ∧ SqT K H a xs ∧ Paired (RatsAt K H) xs rs
theorem StandsAt.same {K : PySem.W.Frag} {H H' : Hp} (s : Same H H') {v : V} {rs : List (List Rat)} : StandsAt K H v rs → StandsAt K H' v rs := fun ⟨a, xs, e, h, p⟩ => ⟨a, xs, e, SqT.same s h, p.mono fun _ _ h => h.same s⟩
def spCheckScr (K : PySem.W.Frag) (C : Addr) : Sp := fun vs H Q _ => ∃ (v : V) (s : Addr) (o : Own) (js : List Str), vs = [v, .ref s] ∧ CircN K C H v o ∧ OwnOk o ∧ SqT K H s (js.map V.str) ∧ js.length ≤ 40 ∧ (∀ x ∈ js, x ∈ o.joinings.map (·.1)) ∧ ∀ H', Same H H' → Q .non H'
def spRun (K : PySem.W.Frag) (C : Addr) : Sp := fun vs H Q _ => ∃ (v y : V) (s : Addr) (o : Own) (js : List Str) (st : List Rat), vs = [v, .ref s, y] ∧ CircN K C H v o ∧ OwnOk o ∧ SqT K H s (js.map V.str) ∧ js.length ≤ 40 ∧ (∀ x ∈ js, x ∈ o.joinings.map (·.1)) ∧ RatsAt K H y st ∧ st.length = o.parts.length ∧ RunOk o js st ∧
  ∀ v' H', Same H H' → StandsAt K H' v' (runR o js st) → Q v' H'
def spBehind (K : PySem.W.Frag) (C : Addr) : Sp := fun vs H Q _ => ∃ (v y : V) (s : Addr) (o : Own) (js : List Str) (st : List Rat), vs = [v, .ref s, y] ∧ CircN K C H v o ∧ OwnOk o ∧ SqT K H s (js.map V.str) ∧ js.length ≤ 40 ∧ (∀ x ∈ js, x ∈ o.joinings.map (·.1)) ∧ RatsAt K H y st ∧ st.length = o.parts.length ∧ RunOk o js st ∧
  ∀ v' H', Same H H' → RatsAt K H' v' (lastR o js st) → Q v' H'
section
variable {P : Program} {w : World} {K : PySem.W.Frag} {mg : Str → Option Value} {base : Heap} {C : Addr}
end
end Ct

/-! What a script loses. -/
namespace Ct
open PySem PySem.Spec PyProof.Rows L2 TL RZ
theorem into_par {i j : Nat} {ta : TA} {D : Ends} {σ : L2.St} {H : Hp} (h : ta σ H fun vs H1 => ∃ v w, vs = [v, w] ∧ D.nx ((σ.set i (some v)).set j (some w)) H1) : tPar i j ta D σ H := h
theorem into_lst {t : TA} {σ : L2.St} {H : Hp} {Q : VK} (h : t σ H fun xs H1 => xs.length ≤ sizeLine ∧ ∀ p, H1 p = none → Q (.ref p) (upd H1 p (.lst xs))) : tLst t σ H Q := h
theorem into_tup {t : TA} {σ : L2.St} {H : Hp} {Q : VK} (h : t σ H fun xs H1 => xs.length ≤ sizeLine ∧ ∀ p, H1 p = none → Q (.ref p) (upd H1 p (.tup xs))) : tTup t σ H Q := h
theorem into_cons {te : TE} {t : TA} {σ : L2.St} {H : Hp} {Q : List V → Hp → Prop} (h : te σ H fun x H1 => t σ H1 fun xs H2 => Q (x :: xs) H2) : tCons te t σ H Q := h
theorem walk_zipU {K : PySem.W.Frag} {a b : Addr} {xs ys : List V} (hl : ys.length ≤ xs.length) : Walk (ItzT K a b) ys.length (fun H => SqT K H a xs ∧ SqT K H b ys) (YPair (fun i => xs[i]?) (fun i => ys[i]?)) := by
  refine ⟨fun i H hi q => ?_, fun H q => ⟨xs, ys, q.1, q.2, .inr (Nat.le_refl _)⟩, fun i H x H' hi q y => ?_⟩
  · exact ⟨xs, ys, _, _, q.1, q.2, List.getElem?_eq_getElem (by omega), List.getElem?_eq_getElem hi⟩
  · obtain ⟨T, u, v, e, hT, eH, f1, f2⟩ := y
    exact ⟨T, u, v, e, hT, eH, f1 xs q.1, f2 ys q.2⟩
section
variable {K : PySem.W.Frag}
theorem comp_twoU {g : TG} {te : TE} {vs : List Nat} {σ : L2.St} {H1 : Hp} {D a b : Addr} {xs ys : List V} {A B : Type} {as : List A} {bs : List B} {R : V → A → Prop} {S : V → B → Prop} {f : A → B → Rat} {Qd : Hp → Prop} (nD : H1 D = none)
    (hl : ys.length ≤ xs.length) (few : ys.length < 1000000) (ha : SqT K H1 a xs) (hb : SqT K H1 b ys) (pa : Paired R xs as) (pb : Paired S ys bs)
    (turn : ∀ x e y c T H (Z : VK), R x e → e ∈ as → S y c → c ∈ bs → (∃ i : Nat, as[i]? = some e ∧ bs[i]? = some c) → Same H1 H → SqT K H T [x, y] → (∀ v H4, Same H H4 → RatAt K H4 v (f e c) → Z v H4) → g (.ref T) (wipe σ vs) H fun σ2 H2 => wipe σ2 vs = wipe σ vs ∧ te σ2 H2 Z)
    (hd : ∀ H acc, Same H1 H → H D = some (.lst acc) → Paired (RatAt K H) acc (List.zipWith f as bs) → Qd H) :
    ∃ W : Nat → Nat → Hp → Prop, (∃ m, W 0 m (upd H1 D (.lst []))) ∧ ∀ i m H, W i m H →
      ((ItzT K a b).stop i H ∧ Qd H) ∨ ((ItzT K a b).go i H ∧ ∃ Nx : Hp → Prop, (∀ H', Nx H' → ∃ m', m' < m ∧ W (i + 1) m' H') ∧ ∀ x H', (ItzT K a b).yld i H x H' → g x (wipe σ vs) H' fun σ2 H2 => wipe σ2 vs = wipe σ vs ∧ tYes σ2 H2 fun b H3 =>
        if b = true then te σ2 H3 fun y H4 => ∃ acc, H4 D = some (.lst acc) ∧ acc.length < sizeLine ∧ Nx (upd H4 D (.lst (acc ++ [y]))) else Nx H3) := by
  have lz : (List.zipWith f as bs).length = ys.length := by
    rw [List.length_zipWith, ← pa.length, ← pb.length]
    omega
  refine lc_it (walk_zipU hl) (fun i H' => ∃ acc, H' D = some (.lst acc) ∧ Paired (RatAt K H') acc ((List.zipWith f as bs).take i) ∧ Same H1 H') ⟨[], upd_same, .nil, same_upd nD⟩ (fun i H' _ ⟨_, _, _, s'⟩ => ⟨SqT.same s' ha, SqT.same s' hb⟩) ?_ ?_
  · rintro i x H' H'' hi ⟨acc, hD, pac, s'⟩ ⟨T, x1, x2, rfl, nT, rfl, ex1, ex2⟩
    obtain ⟨e, ee, re⟩ := Paired.at pa ex1
    obtain ⟨c, ec, sc⟩ := Paired.at pb ex2
    have s2 := same_upd (o := .tup [x1, x2]) nT
    have hT : SqT K (upd H' T (.tup [x1, x2])) T [x1, x2] := SqT.of upd_same
    generalize upd H' T (.tup [x1, x2]) = H2 at *
    have step := turn x1 e x2 c T H2 (fun y H4 => ∃ acc, H4 D = some (.lst acc) ∧ acc.length < sizeLine ∧ ∃ acc', (upd H4 D (.lst (acc ++ [y]))) D = some (.lst acc') ∧ Paired (RatAt K (upd H4 D (.lst (acc ++ [y])))) acc' ((List.zipWith f as bs).take (i + 1)) ∧ Same H1 (upd H4 D (.lst (acc ++ [y])))) re (List.mem_of_getElem? ee) sc (List.mem_of_getElem? ec) ⟨i, ee, ec⟩ (s'.trans s2) hT ?_
    · exact step
    · intro v H4 s4 hv
      have hD4 := s4 _ _ (s2 _ _ hD)
      refine ⟨acc, hD4, ?_, acc ++ [v], upd_same, ?_, same_but ((s'.trans s2).trans s4) nD⟩
      · have l1 := pac.length
        have l2 := List.length_take_le' i (List.zipWith f as bs)
        have l3 := List.length_take_le i (List.zipWith f as bs)
        show acc.length < 16777216
        omega
      · have en : (List.zipWith f as bs)[i]? = some (f e c) := by rw [List.getElem?_zipWith, ee, ec]
        rw [take_next en]
        exact (pac.mono fun _ _ h => ((h.same s2).same s4).list hD4).snoc (hv.list hD4)
  · rintro H' ⟨acc, hD, pac, s'⟩
    rw [← lz, List.take_length] at pac
    exact hd H' acc s' hD pac
end
theorem six_one {n : Nat} (h : 1 ≤ n) : HT.sIx n 0 (some 1) = 1 := by
  unfold HT.sIx
  simp
  omega
def sqsL (o : Own) (xs ys : List (List Rat)) : List Rat := List.zipWith (fun x y => sqR o (diffL x y)) xs ys
def PairOk (o : Own) (x y : List Rat) : Prop := x.length = o.parts.length ∧ y.length = o.parts.length ∧ Fits4 x ∧ Fits4 y ∧ SqOk o (diffL x y)
def spSqs (K : PySem.W.Frag) (C : Addr) : Sp := fun vs H Q _ => ∃ (v u t : V) (o : Own) (xs ys : List (List Rat)), vs = [v, u, t] ∧ CircN K C H v o ∧ OwnOk o ∧ StandsAt K H u xs ∧ StandsAt K H t ys ∧ ys.length ≤ xs.length ∧ ys.length < 1000000 ∧ (∀ (i : Nat) (x y : List Rat), xs[i]? = some x → ys[i]? = some y → PairOk o x y) ∧
  ∀ v' H', Same H H' → RatsAt K H' v' (sqsL o xs ys) → Q v' H'
def spLosses (K : PySem.W.Frag) (C : Addr) : Sp := fun vs H Q _ => ∃ (v y : V) (s : Addr) (o : Own) (js : List Str) (st : List Rat), vs = [v, .ref s, y] ∧ CircN K C H v o ∧ OwnOk o ∧ SqT K H s (js.map V.str) ∧ js.length ≤ 40 ∧ (∀ x ∈ js, x ∈ o.joinings.map (·.1)) ∧ RatsAt K H y st ∧ st.length = o.parts.length ∧ RunOk o js st ∧
  (∀ i, i < js.length → PairOk o (lastR o (js.take i) st) (lastR o (js.take (i + 1)) st)) ∧ ∀ v' H', Same H H' → RatsAt K H' v' (sqsL o (runR o js st) ((runR o js st).drop 1)) → Q v' H'
section
variable {P : Program} {w : World} {K : PySem.W.Frag} {mg : Str → Option Value} {base : Heap} {C : Addr}
end
end Ct

/-! Nine joinings of a drawn circuit stay short. -/
namespace Ct
open PySem PySem.Spec PyProof.Rows L2 TL RZ
def cU : Nat := 8 * (120 * 28800 * 1658880000)
def cP : Nat := (upX 120 3) ^ 3
def cW : Nat := 2 + 480 * cU
theorem up_three (Y : Nat) : upY 120 Y 3 = cU * Y := by
  show 2 * (upX 120 2 * (2 * (upX 120 1 * (2 * (upX 120 0 * Y))))) = _
  have e0 : upX 120 0 = 120 := rfl
  have e1 : upX 120 1 = 28800 := by decide +kernel
  have e2 : upX 120 2 = 1658880000 := by decide +kernel
  rw [e0, e1, e2]
  unfold cU
  omega
/-- the state behind i joinings -/
def StAt (o : Own) (i : Nat) (st : List Rat) : Prop := st.length = o.parts.length ∧ ∃ k, 1 ≤ k ∧ k ≤ 6 * cP ^ i ∧ ∀ r ∈ st, Wn (30 * k) (690 * cW ^ i * k) r
/-- two standings by one denominator -/
def BothAt (o : Own) (i : Nat) (a b : List Rat) : Prop := ∃ k, 1 ≤ k ∧ k ≤ 6 * cP ^ (i + 1) ∧ (∀ r ∈ a, Wn (30 * k) (690 * cW ^ (i + 1) * k) r) ∧ ∀ r ∈ b, Wn (30 * k) (690 * cW ^ (i + 1) * k) r
theorem pow_le8 {a i : Nat} (h : 1 ≤ a) (hi : i ≤ 8) : a ^ i ≤ a ^ 8 := Nat.pow_le_pow_right h hi
theorem cP_pos : 1 ≤ cP := by decide +kernel
theorem cW_pos : 1 ≤ cW := by decide +kernel
theorem up_pow {m : Nat} (h : m ≤ 3) : (upX 120 m) ^ m ≤ cP := by
  have a : (upX 120 m) ^ m ≤ (upX 120 3) ^ m := Nat.pow_le_pow_left (upX_le (by decide) h) m
  exact Nat.le_trans a (Nat.pow_le_pow_right (upX_pos (by decide) 3) h)
section
variable {o : Own} {x : Str} {ties : Ties} {fl : List Str} (ok : OwnOk o) (dr : DrawnOk o) (four : o.parts.length ≤ 4) (hj : (x, ties) ∈ o.joinings) (fo : FreeOf o ties fl)
include ok dr four hj fo
theorem join_step {i : Nat} {st : List Rat} (hi : i ≤ 8) (h : StAt o i st) : JoinOk o ties fl st ∧ StAt o (i + 1) (joinL o ties fl st) ∧ BothAt o i st (joinL o ties fl st) := by
  obtain ⟨len, k, k1, kP, all⟩ := h
  have N := net_of ok dr hj fo
  have Z := sized_of (A := 690 * cW ^ i * k) ok dr hj fo len all
  have m3 := free_few ok dr hj fo
  have T4 : ties.length ≤ 4 := by
    have := (dr.ends _ hj).1
    rw [List.length_map] at this
    show ties.length ≤ 4
    have e : ((x, ties) : Str × Ties).2.length = ties.length := rfl
    omega
  have E := ends_at ok dr hj fo
  have w1 : 1 ≤ cW ^ i := Nat.pow_pos cW_pos
  have p1 : 1 ≤ cP ^ i := Nat.pow_pos cP_pos
  have kA : 540 * k ≤ 690 * cW ^ i * k := Nat.mul_le_mul_right k (by omega)
  have GG : 270 * k + 270 * k = 540 * k := by omega
  have kM : k ≤ (6 * cP ^ 8) := Nat.le_trans kP (Nat.mul_le_mul_left 6 (pow_le8 cP_pos hi))
  have AM : 690 * cW ^ i * k ≤ 690 * cW ^ 8 * (6 * cP ^ 8) := Nat.mul_le_mul (Nat.mul_le_mul_left 690 (pow_le8 cW_pos hi)) kM
  generalize hA : 690 * cW ^ i * k = A at *
  have hX : ties.length * 30 ≤ 120 := by omega
  have hY : ties.length * (30 * (A + (270 * k + 270 * k))) ≤ 120 * (A + (270 * k + 270 * k)) := by
    rw [← Nat.mul_assoc]
    exact Nat.mul_le_mul_right _ hX
  have y3 : upY 120 (120 * (A + (270 * k + 270 * k))) fl.length ≤ cU * (240 * A) := by
    refine Nat.le_trans (upY_le (by decide) m3) ?_
    rw [up_three]
    exact Nat.mul_le_mul_left cU (by omega)
  have x3 : upX 120 fl.length ≤ upX 120 3 := upX_le (by decide) m3
  have pm := up_pow m3
  have c1 : 180 * (6 * cP ^ 8) < 2 ^ 4400 := by decide +kernel
  have c2 : 240 * (690 * cW ^ 8 * (6 * cP ^ 8)) < 2 ^ 4400 := by decide +kernel
  have c3 : upX 120 3 * (30 * (6 * cP ^ 8)) < 2 ^ 4400 := by decide +kernel
  have c4 : cU * (240 * (690 * cW ^ 8 * (6 * cP ^ 8))) < 2 ^ 4400 := by decide +kernel
  have c5 : 30 * (6 * cP ^ 8) * cP < 2 ^ 4400 := by decide +kernel
  have c6 : 270 * (6 * cP ^ 8) + cU * (240 * (690 * cW ^ 8 * (6 * cP ^ 8))) * cP < 2 ^ 4400 := by decide +kernel
  have c7 : 270 * (6 * cP ^ 8) * cP < 2 ^ 4400 := by decide +kernel
  have b4 : cU * (240 * A) ≤ cU * (240 * (690 * cW ^ 8 * (6 * cP ^ 8))) := Nat.mul_le_mul_left cU (by omega)
  have B : Short ties.length fl.length 6 30 (30 * k) A (270 * k) 120 (120 * (A + (270 * k + 270 * k))) := by
    generalize 690 * cW ^ 8 * (6 * cP ^ 8) = MA at *
    generalize hcp : (6 * cP ^ 8) = CP at *
    refine ⟨by decide, by omega, by decide, hX, hY, by omega, by omega, by omega, by decide +kernel, by omega, ?_, by omega, ?_, by omega, ?_, ?_, ?_⟩
    · exact Nat.lt_of_le_of_lt hX (by decide +kernel)
    · exact Nat.lt_of_le_of_lt (Nat.mul_le_mul x3 (by omega)) c3
    · exact Nat.lt_of_le_of_lt (Nat.mul_le_mul (by omega) pm) c5
    · refine Nat.lt_of_le_of_lt (Nat.add_le_add (by omega) (Nat.mul_le_mul (Nat.le_trans y3 b4) pm)) c6
    · exact Nat.lt_of_le_of_lt (Nat.mul_le_mul (by omega) pm) c7
  obtain ⟨K, K1, K2, hK⟩ := behind_wn N Z (by decide) (by decide) hX hY len all
  have kK : k * K ≤ 6 * cP ^ (i + 1) := by
    rw [Nat.pow_succ, ← Nat.mul_assoc]
    exact Nat.mul_le_mul kP (Nat.le_trans K2 pm)
  have e : 690 * cW ^ (i + 1) * (k * K) = A * cW * K := by
    rw [← hA, Nat.pow_succ]
    grind
  have e2 : A * cW = 2 * A + 2 * (cU * (240 * A)) := by
    unfold cW
    grind
  have hb : ∀ r ∈ joinL o ties fl st, Wn (30 * (k * K)) (690 * cW ^ (i + 1) * (k * K)) r := by
    intro r hr
    have q := hK r hr
    rw [Nat.mul_assoc] at q
    refine q.mono ?_
    rw [e]
    refine Nat.mul_le_mul_right K ?_
    rw [e2]
    omega
  have ha : ∀ r ∈ st, Wn (30 * (k * K)) (690 * cW ^ (i + 1) * (k * K)) r := by
    intro r hr
    have q := (all r hr).times K
    rw [Nat.mul_assoc] at q
    refine q.mono ?_
    rw [e]
    refine Nat.mul_le_mul_right K ?_
    rw [e2]
    omega
  exact ⟨join_ok N Z B len (by omega) (by omega) E, ⟨join_len' N len, k * K, Nat.mul_pos k1 K1, kK, hb⟩, k * K, Nat.mul_pos k1 K1, kK, ha, hb⟩
end
theorem freeF_of {o : Own} (ok : OwnOk o) (dr : DrawnOk o) {x : Str} (h : x ∈ o.joinings.map (·.1)) : FreeOf o (tiesOf o x) (freeF o (tiesOf o x)) := by
  obtain ⟨fl, fo⟩ := free_is ok dr (ties_in h)
  rw [← freeF_is fo]
  exact fo
theorem start_at {o : Own} {st : List Rat} (len : st.length = o.parts.length) (h : ∀ r ∈ st, Wn 30 150 r) : StAt o 0 st := ⟨len, 1, Nat.le_refl _, by decide, fun r hr => (h r hr).mono (by decide)⟩
theorem start_six {o : Own} {st : List Rat} (len : st.length = o.parts.length) (h : ∀ r ∈ st, Wn 180 2700 r) : StAt o 0 st := ⟨len, 6, by decide, by decide, fun r hr => (h r hr).mono (by decide)⟩
section
variable {o : Own} (ok : OwnOk o) (dr : DrawnOk o) (four : o.parts.length ≤ 4) {js : List Str} {st : List Rat} (hx : ∀ x ∈ js, x ∈ o.joinings.map (·.1)) (eight : js.length ≤ 9) (h0 : StAt o 0 st)
include ok dr four hx eight h0
theorem state_at : ∀ i, i ≤ js.length → StAt o i (lastR o (js.take i) st)
  | 0, _ => h0
  | i + 1, hi => by
    have e : js[i]? = some js[i] := List.getElem?_eq_getElem hi
    have hm := hx _ (List.mem_of_getElem? e)
    rw [last_next e]
    exact (join_step ok dr four (ties_in hm) (freeF_of ok dr hm) (by omega) (state_at i (by omega))).2.1
theorem run_ok : RunOk o js st := by
  intro i x hi fl fo
  have lt := (List.getElem?_eq_some_iff.mp hi).1
  have hm := hx _ (List.mem_of_getElem? hi)
  exact (join_step ok dr four (ties_in hm) fo (by omega) (state_at ok dr four hx eight h0 i (by omega))).1
end
/-- the step between two states can be squared -/
theorem pair_ok {o : Own} (dr : DrawnOk o) (four : o.parts.length ≤ 4) {i : Nat} (hi : i ≤ 7) {a b : List Rat} (la : a.length = o.parts.length) (lb : b.length = o.parts.length) (h : BothAt o i a b) : PairOk o a b := by
  obtain ⟨k, k1, kP, wa, wb⟩ := h
  have kP : k ≤ (6 * cP ^ 8) := Nat.le_trans kP (Nat.mul_le_mul_left 6 (pow_le8 cP_pos (by omega)))
  have up : 690 * cW ^ (i + 1) * k ≤ 690 * cW ^ 8 * k := Nat.mul_le_mul_right k (Nat.mul_le_mul_left 690 (pow_le8 cW_pos (by omega)))
  have wa : ∀ r ∈ a, Wn (30 * k) (690 * cW ^ 8 * k) r := fun r hr => (wa r hr).mono up
  have wb : ∀ r ∈ b, Wn (30 * k) (690 * cW ^ 8 * k) r := fun r hr => (wb r hr).mono up
  generalize hA : 690 * cW ^ 8 * k = A at *
  have AM : A ≤ 690 * cW ^ 8 * (6 * cP ^ 8) := by
    rw [← hA]
    exact Nat.mul_le_mul_left _ kP
  have c1 : 30 * (6 * cP ^ 8) < 2 ^ 4400 := by decide +kernel
  have c2 : 690 * cW ^ 8 * (6 * cP ^ 8) < 2 ^ 4400 := by decide +kernel
  have c3 : 6 * (30 * (6 * cP ^ 8)) * (30 * (6 * cP ^ 8)) < 2 ^ 4400 := by decide +kernel
  have c4 : 8 * (30 * (690 * cW ^ 8 * (6 * cP ^ 8) + 690 * cW ^ 8 * (6 * cP ^ 8)) * (690 * cW ^ 8 * (6 * cP ^ 8) + 690 * cW ^ 8 * (6 * cP ^ 8))) < 2 ^ 4400 := by decide +kernel
  have c5 : 6 * (30 * (6 * cP ^ 8)) < 2 ^ 4400 := by decide +kernel
  have c6 : 30 * (690 * cW ^ 8 * (6 * cP ^ 8) + 690 * cW ^ 8 * (6 * cP ^ 8)) < 2 ^ 4400 := by decide +kernel
  have c7 : 690 * cW ^ 8 * (6 * cP ^ 8) + 690 * cW ^ 8 * (6 * cP ^ 8) < 2 ^ 4400 := by decide +kernel
  generalize 690 * cW ^ 8 * (6 * cP ^ 8) = MA at *
  generalize (6 * cP ^ 8) = CP at *
  have k0 : 0 < 30 * k := by omega
  have wd : ∀ r ∈ diffL a b, Wn (30 * k) (A + A) r := by
    intro r hr
    unfold diffL at hr
    obtain ⟨n, hn⟩ := List.mem_iff_getElem?.mp hr
    rw [List.getElem?_zipWith] at hn
    cases ea : a[n]? with
    | none => rw [ea] at hn; cases hn
    | some p =>
      cases eb : b[n]? with
      | none => rw [ea, eb] at hn; cases hn
      | some q =>
        rw [ea, eb] at hn
        cases hn
        exact (wa _ (List.mem_of_getElem? ea)).sub (wb _ (List.mem_of_getElem? eb))
  have wc : ∀ (n : Nat) (p : Rat), (chargeL o (diffL a b))[n]? = some p → Wn (6 * (30 * k)) (30 * (A + A)) p := by
    intro n p hn
    unfold chargeL at hn
    rw [List.getElem?_zipWith] at hn
    cases ea : o.parts[n]? with
    | none => rw [ea] at hn; cases hn
    | some e =>
      cases eb : (diffL a b)[n]? with
      | none => rw [ea, eb] at hn; cases hn
      | some q =>
        rw [ea, eb] at hn
        cases hn
        exact (sizes7_wn _ (dr.sizes e (List.mem_of_getElem? ea))).1.mul (wd _ (List.mem_of_getElem? eb))
  have m2 : 30 * (A + A) * (A + A) ≤ 30 * (MA + MA) * (MA + MA) := Nat.mul_le_mul (by omega) (by omega)
  have m3 : 6 * (30 * k) * (30 * k) ≤ 6 * (30 * CP) * (30 * CP) := Nat.mul_le_mul (by omega) (by omega)
  refine ⟨la, lb, fun r hr => (wa r hr).fit k0 (by omega) (by omega), fun r hr => (wb r hr).fit k0 (by omega) (by omega), fun r hr => (wd r hr).fit k0 (by omega) (by omega), fun r hr => ?_, ?_⟩
  · obtain ⟨n, hn⟩ := List.mem_iff_getElem?.mp hr
    exact (wc n r hn).fit (by omega) (by omega) (by omega)
  · have lp : (prodL (chargeL o (diffL a b)) (diffL a b)).length ≤ 4 := by
      unfold prodL chargeL
      rw [List.length_zipWith, List.length_zipWith]
      omega
    have wp : ∀ r ∈ prodL (chargeL o (diffL a b)) (diffL a b), Wn (6 * (30 * k) * (30 * k)) (30 * (A + A) * (A + A)) r := by
      intro r hr
      unfold prodL at hr
      obtain ⟨n, hn⟩ := List.mem_iff_getElem?.mp hr
      rw [List.getElem?_zipWith] at hn
      cases ea : (chargeL o (diffL a b))[n]? with
      | none => rw [ea] at hn; cases hn
      | some p =>
        cases eb : (diffL a b)[n]? with
        | none => rw [ea, eb] at hn; cases hn
        | some q =>
          rw [ea, eb] at hn
          cases hn
          exact (wc n p ea).mul (wd _ (List.mem_of_getElem? eb))
    have l4 := Nat.mul_le_mul_right (30 * (A + A) * (A + A)) lp
    have q := sum_ok (f := fun r : Rat => r) (D := 6 * (30 * k) * (30 * k)) wp (Nat.mul_pos (by omega) k0) (by omega) (by omega) (by omega)
    rwa [List.map_id'] at q
/-- each step of a script can be squared -/
theorem pairs_of {o : Own} (ok : OwnOk o) (dr : DrawnOk o) (four : o.parts.length ≤ 4) {js : List Str} {st : List Rat} (hx : ∀ x ∈ js, x ∈ o.joinings.map (·.1)) (eight : js.length ≤ 8) (h0 : StAt o 0 st) : ∀ i, i < js.length → PairOk o (lastR o (js.take i) st) (lastR o (js.take (i + 1)) st) := by
  intro i hi
  have e : js[i]? = some js[i] := List.getElem?_eq_getElem hi
  have hm := hx _ (List.mem_of_getElem? e)
  have s := state_at ok dr four hx (by omega) h0 i (by omega)
  rw [last_next e]
  exact pair_ok dr four (i := i) (by omega) (last_len h0.1) (step_len (last_len h0.1)) (join_step ok dr four (ties_in hm) (freeF_of ok dr hm) (by omega) s).2.2
end Ct

namespace Ct
open PySem PySem.Spec PyProof.Rows L2 TL
abbrev s_l_circuit_grounded : Stmt := top 57
abbrev N_l_circuit_grounded : List Str := ["own", "found", "name", "one"]
theorem sc_l_circuit_grounded : FnScope N_l_circuit_grounded ["own"] (defScope s_l_circuit_grounded) := ⟨rfl, rfl, rfl, by decide +kernel, rfl, by decide +kernel, by decide +kernel⟩
abbrev s_l_circuit_with : Stmt := top 58
abbrev N_l_circuit_with : List Str := ["own", "kind", "name", "number", "rows", "one", "old", "found"]
theorem sc_l_circuit_with : FnScope N_l_circuit_with ["own", "kind", "name", "number"] (defScope s_l_circuit_with) := ⟨rfl, rfl, rfl, by decide +kernel, rfl, by decide +kernel, by decide +kernel⟩
def Own.ground (o : Own) : Own := { o with sources := o.sources.map fun e => (e.1, 0, 1) }
def setFr (x : Str) (f : Int × Int) (l : List (Str × Int × Int)) : List (Str × Int × Int) := l.map fun e => (e.1, if e.1 = x then f else e.2)
def Own.setPart (o : Own) (x : Str) (f : Int × Int) : Own := { o with parts := setFr x f o.parts }
def Own.setSource (o : Own) (x : Str) (f : Int × Int) : Own := { o with sources := setFr x f o.sources }
def spGround (K : PySem.W.Frag) : Sp := fun vs H Q _ => ∃ (v : V) (o : Own), vs = [v] ∧ OwnAt K H v o ∧ OwnOk o ∧ ∀ v' H', Same H H' → OwnAt K H' v' o.ground → Q v' H'
def spWith (K : PySem.W.Frag) : Sp := fun vs H Q _ => ∃ (v num : V) (x : Str) (o : Own) (f : Int × Int) (part : Bool), vs = [v, .str (if part then "parts" else "sources"), .str x, num] ∧ OwnAt K H v o ∧ OwnOk o ∧ FrAt K H num f ∧
  ∀ v' H', Same H H' → OwnAt K H' v' (if part then o.setPart x f else o.setSource x f) → Q v' H'
theorem merge3E (s p j : V) : mergeK [] (kvs3 s p j) = kvs3 s p j := by
  unfold mergeK kvs3
  simp [putK, List.foldl, n_sp, n_js, n_jp, n_ps, n_sj, n_pj]
theorem put_sE (s p j v : V) : putK (kvs3 s p j) (.inr "sources") v = kvs3 v p j := by
  unfold kvs3
  simp [putK, n_sp, n_js, n_jp, n_ps, n_sj, n_pj]
theorem put_pE (s p j v : V) : putK (kvs3 s p j) (.inr "parts") v = kvs3 s v j := by
  unfold kvs3
  simp [putK, n_sp, n_js, n_jp, n_ps, n_sj, n_pj]
theorem dput_sE {H : Hp} {d : Addr} {s p j v : V} (h : H d = some (.dK (kvs3 s p j))) : DPut H d (.str "sources") v (upd H d (.dK (kvs3 v p j))) := by
  have q := DPut.k (k := Sum.inr "sources") (v := v) h (by show 3 < 16777216; decide)
  rw [put_sE] at q
  exact q
theorem dput_pE {H : Hp} {d : Addr} {s p j v : V} (h : H d = some (.dK (kvs3 s p j))) : DPut H d (.str "parts") v (upd H d (.dK (kvs3 s v j))) := by
  have q := DPut.k (k := Sum.inr "parts") (v := v) h (by show 3 < 16777216; decide)
  rw [put_pE] at q
  exact q
/-- a copy's keys and values, item by item -/
theorem items_sqt {K : PySem.W.Frag} {H : Hp} {ts : List Addr} {kvs : List (Key × V)} (h : Paired (fun (t : Addr) (q : Key × V) => H t = some (.tup [kV q.1, q.2])) ts kvs) : Paired (fun p kv => SqT K H p [kV kv.1, kv.2]) ts kvs := h.mono fun _ _ z => SqT.of z
section
variable {P : Program} {w : World} {K : PySem.W.Frag} {mg : Str → Option Value} {base : Heap}
theorem k_circuit_grounded (D : Lies K mg "_law_circuit_grounded" s_l_circuit_grounded) (T : Plain mg) : Keeps P w K mg base 1 "_law_circuit_grounded" ["own"] (spGround K) := by
  refine D.keeps sc_l_circuit_grounded (fun _ _ _ _ _ _ us hl => match us, hl with | [_], _ => rfl) (fun vs H Q E h => ?_) (fun f cdv A outer s H vs Q E hr h => ?_)
  · obtain ⟨v, o, rfl, _⟩ := h
    rfl
  · obtain ⟨v, o, rfl, ⟨d, vS, vP, vJ, rfl, hd, ⟨aS, xS, rfl, hS, pS⟩, qP, qJ⟩, ok, k⟩ := h
    refine ⟨_, (pss_cons (ps_set (i := 1) sc_l_circuit_grounded.nd rfl (Or.inl rfl) (pe_callTy (call_dictP rfl) (by rfl) T.n_dict b_dict (pa_cons (LiI.pe_listItems rfl (pv 0) rfl T.n_list b_list) pa_nil)))
      (pss_cons (ps_dput (hu_of hr) (pv 1) pe_str (pe_lc (own := [("name", 2), ("one", 3)]) (g := gTup K 2 (gCons (gName 2) (gCons (gName 3) gNil))) (tt := tYes) rfl sc_l_circuit_grounded.nd (pi_list (pe_dget (hu_of hr) (pv 0) pe_str (fun _ _ => rfl))) (blkOk_by (N := N_l_circuit_grounded) (sc := defScope s_l_circuit_grounded) (by decide +kernel)) (fun _ _ _ _ _ => pg_tup rfl (pgs_cons (pg_name (i := 2) sc_l_circuit_grounded.nd rfl (Or.inl rfl)) (pgs_cons (pg_name (i := 3) sc_l_circuit_grounded.nd rfl (Or.inl rfl)) pgs_nil))) (fun _ _ _ _ _ => pts_nil) (fun _ _ _ _ _ => by exact (pe_tup (pa_cons (pv 2) (pa_cons (pe_tup (pa_cons pe_int (pa_cons pe_int pa_nil))) pa_nil))))) rfl)
      (pss_one (ps_ret (pv 1))))), ?_⟩
    refine ⟨_, rfl, d, _, rfl, hd, fun H1 p ts s1 np nts pts hp hts => ⟨p, ts, _, rfl, SqL.of hp, items_sqt hts, fun q nq => ?_⟩⟩
    rw [merge3E]
    have s2 : Same H (upd H1 q (.dK (kvs3 (.ref aS) vP vJ))) := Same.trans s1 (same_upd nq)
    refine into_name ?_
    dsimp only
    refine into_dput (comp_pure (f := fun e : Str × Int × Int => (e.1, (0 : Int), (1 : Int))) (R := EntAt K H) (R' := fun H' => EntAt K H') (fun R r => ⟨_, rfl, d, _, rfl, get_s (s2 _ _ hd), r⟩) (Same.seq s2 hS) pS ?_ (fun s _ _ h => h.same s) (fun _ hD _ _ h => h.list hD) (fun x e H0 Z r he s0 hz => ?_) (fun H2 D acc hD s3 hL hp2 => ?_))
    · rw [pS.length]
      exact Nat.lt_of_le_of_lt ok.s_few (by decide)
    · obtain ⟨t, u, rfl, ht, u', rfl, hu⟩ := r
      refine ⟨t, _, rfl, SqT.same (s2.trans s0) ht, rfl, _, _, rfl, _, _, rfl, ⟨rfl, rfl, ?_⟩⟩
      refine ⟨_, rfl, by show 2 ≤ sizeLine; decide, fun a1 n1 => ⟨by show 2 ≤ sizeLine; decide, fun a2 n2 => hz _ _ ((same_upd n1).trans (same_upd n2)) ⟨a2, _, rfl, SqT.of upd_same, a1, rfl, SqT.of ?_⟩⟩⟩
      rw [upd_ne (ne_of_none upd_same n2)]
      exact upd_same
    · refine ⟨_, rfl, q, _, rfl, dput_sE (s3 _ _ upd_same), _, rfl, ?_⟩
      have s4 : Same H (upd H2 q (.dK (kvs3 (.ref D) vP vJ))) := fun b z h => by
        rw [upd_ne (ne_of_none (s1 _ _ h) nq)]
        exact s3 _ _ (s2 _ _ h)
      have s5 : ∀ {b : Addr} {z : HO}, H2 b = some z → b ≠ q → (upd H2 q (.dK (kvs3 (.ref D) vP vJ))) b = some z := fun h n => (upd_ne n).trans h
      refine k _ _ s4 ⟨q, _, _, _, rfl, upd_same, ⟨D, acc, rfl, SqL.of (s5 hL fun z => ?_), ?_⟩, qP.same s4 fun _ _ h => h.same s4, qJ.same s4 fun _ _ h => h.same s4⟩
      · rw [z, s3 _ _ upd_same] at hL
        cases hL
      · refine hp2.mono fun v c h => ?_
        exact h.dict (s3 _ _ upd_same)
theorem k_circuit_with (D : Lies K mg "_law_circuit_with" s_l_circuit_with) (T : Plain mg) : Keeps P w K mg base 1 "_law_circuit_with" ["own", "kind", "name", "number"] (spWith K) := by
  refine D.keeps sc_l_circuit_with (fun _ _ _ _ _ _ us hl => match us, hl with | [_, _, _, _], _ => rfl) (fun vs H Q E h => ?_) (fun f cdv A outer s H vs Q E hr h => ?_)
  · obtain ⟨v, num, x, o, f, part, rfl, _⟩ := h
    rfl
  · obtain ⟨v, num, x, o, f0, part, rfl, ⟨d, vS, vP, vJ, rfl, hd, qS, qP, qJ⟩, ok, hn, k⟩ := h
    obtain ⟨aL, xL, es, hL, pL, hlen, hget, hput, hres⟩ : ∃ (aL : Addr) (xL : List V) (es : List (Str × Int × Int)), SqL K H aL xL ∧ Paired (EntAt K H) xL es ∧ es.length ≤ 8 ∧
        (∀ H', Same H H' → DGet H' d (.str (if part then "parts" else "sources")) (some (.ref aL))) ∧
        (∀ H' q D, H' q = some (.dK (kvs3 vS vP vJ)) → ∃ H2, DPut H' q (.str (if part then "parts" else "sources")) (.ref D) H2 ∧ H2 = upd H' q (.dK (if part then kvs3 vS (.ref D) vJ else kvs3 (.ref D) vP vJ))) ∧
        (∀ H2 q D acc, Same H H2 → H2 q = some (.dK (if part then kvs3 vS (.ref D) vJ else kvs3 (.ref D) vP vJ)) → SqL K H2 D acc → Paired (EntAt K H2) acc (setFr x f0 es) → OwnAt K H2 (.ref q) (if part then o.setPart x f0 else o.setSource x f0)) := by
      cases part with
      | true =>
        obtain ⟨aP, xP, rfl, hP, pP⟩ := id qP
        exact ⟨aP, xP, o.parts, hP, pP, ok.p_few, fun H' s' => get_p (s' _ _ hd), fun H' q D h => ⟨_, dput_pE h, rfl⟩, fun H2 q D acc s2 h hD hp => ⟨q, _, _, _, rfl, h, qS.same s2 fun _ _ h => h.same s2, ⟨D, acc, rfl, hD, hp⟩, qJ.same s2 fun _ _ h => h.same s2⟩⟩
      | false =>
        obtain ⟨aS, xS, rfl, hS, pS⟩ := id qS
        exact ⟨aS, xS, o.sources, hS, pS, Nat.le_trans ok.s_few (by decide), fun H' s' => get_s (s' _ _ hd), fun H' q D h => ⟨_, dput_sE h, rfl⟩, fun H2 q D acc s2 h hD hp => ⟨q, _, _, _, rfl, h, ⟨D, acc, rfl, hD, hp⟩, qP.same s2 fun _ _ h => h.same s2, qJ.same s2 fun _ _ h => h.same s2⟩⟩
    refine ⟨_, (pss_cons (ps_setLc (i := 4) (own := [("one", 5), ("old", 6)]) (g := gTup K 2 (gCons (gName 5) (gCons (gName 6) gNil))) (tt := tYes) rfl sc_l_circuit_with.nd rfl rfl (sw_true rfl rfl rfl (by decide +kernel)) (pi_list (pe_dget (hu_of hr) (pv 0) (pv 1) (fun _ _ => rfl))) (blkOk_by (N := N_l_circuit_with) (sc := defScope s_l_circuit_with) (by decide +kernel)) (fun _ _ _ _ _ => pg_tup rfl (pgs_cons (pg_name (i := 5) sc_l_circuit_with.nd rfl (Or.inl rfl)) (pgs_cons (pg_name (i := 6) sc_l_circuit_with.nd rfl (Or.inl rfl)) pgs_nil))) (fun _ _ _ _ _ => pts_nil) (fun _ _ _ _ _ => by exact (pe_tup (pa_cons (pv 5) (pa_cons (pe_ifExp (pt_cmpR op_eq (pv 5) (pv 2) (nomark _)) (pv 3) (pv 6)) pa_nil)))))
      (pss_cons (ps_set (i := 7) sc_l_circuit_with.nd rfl (Or.inl rfl) (pe_callTy (call_dictP rfl) (by rfl) T.n_dict b_dict (pa_cons (LiI.pe_listItems rfl (pv 0) rfl T.n_list b_list) pa_nil)))
      (pss_cons (ps_dput (hu_of hr) (pv 7) (pv 1) (pv 4) rfl)
      (pss_one (ps_ret (pv 7)))))), ?_⟩
    refine into_set (comp_pure (f := fun e : Str × Int × Int => (e.1, if e.1 = x then f0 else e.2)) (R := EntAt K H) (R' := fun H' => EntAt K H') (fun R r => ⟨_, rfl, _, rfl, d, _, rfl, hget _ (Same.refl _), r⟩) hL pL ?_ (fun s _ _ h => h.same s) (fun _ hD _ _ h => h.list hD) (fun x1 e H0 Z r he s0 hz => ?_) (fun H2 D acc hD s3 hL2 hp2 => ?_))
    · rw [pL.length]
      exact Nat.lt_of_le_of_lt hlen (by decide)
    · obtain ⟨t, u, rfl, ht, u', rfl, hu⟩ := r
      refine ⟨t, _, rfl, SqT.same s0 ht, rfl, _, _, rfl, _, _, rfl, ⟨rfl, rfl, ?_⟩⟩
      refine ⟨_, rfl, _, rfl, _, rfl, rfl, _, rfl, ?_⟩
      refine ite2 (fun h0 => ?_) (fun h0 => ?_)
      · have e0 : e.1 = x := V.str.inj (of_decide_eq_true h0)
        refine ⟨_, rfl, by show 2 ≤ sizeLine; decide, fun a1 n1 => hz _ _ (same_upd n1) ⟨a1, num, rfl, SqT.of upd_same, ?_⟩⟩
        rw [if_pos e0]
        exact (hn.same s0).same (same_upd n1)
      · have e0 : ¬ e.1 = x := fun z => h0 (decide_eq_true (by rw [z]))
        refine ⟨_, rfl, by show 2 ≤ sizeLine; decide, fun a1 n1 => hz _ _ (same_upd n1) ⟨a1, .ref u', rfl, SqT.of upd_same, ?_⟩⟩
        rw [if_neg e0]
        exact (FrAt.same s0 ⟨u', rfl, hu⟩).same (same_upd n1)
    · refine ⟨_, rfl, d, _, rfl, s3 _ _ hd, fun H4 p ts s4 np nts pts hp hts => ⟨p, ts, _, rfl, SqL.of hp, items_sqt hts, fun q nq => ?_⟩⟩
      rw [merge3E]
      obtain ⟨H6, dp, e6⟩ := hput (upd H4 q (.dK (kvs3 vS vP vJ))) q D upd_same
      refine ⟨_, rfl, _, rfl, _, rfl, q, H6, rfl, dp, _, rfl, ?_⟩
      subst e6
      have s5 : Same H2 (upd (upd H4 q (.dK (kvs3 vS vP vJ))) q (.dK (if part then kvs3 vS (.ref D) vJ else kvs3 (.ref D) vP vJ))) := fun b z h => by
        have nb : b ≠ q := ne_of_none (s4 _ _ h) nq
        rw [upd_ne nb, upd_ne nb]
        exact s4 _ _ h
      exact k _ _ (s3.trans s5) (hres _ q D acc (s3.trans s5) upd_same (SqL.of (s5 _ _ hL2)) (hp2.mono fun v c h => h.same s5))
end
end Ct

/-! The law's own standings and scripts. -/
namespace Ct
open PySem PySem.Spec PyProof.Rows L2 TL RZ
def spNamesO (K : PySem.W.Frag) : Sp := fun vs H Q _ => ∃ (v : V) (o : Own) (b : Bool), vs = [v, .str (if b then "parts" else "joinings")] ∧ OwnAt K H v o ∧ OwnOk o ∧
  ∀ l H', Same H H' → H l = none → H' l = some (.lst ((if b then o.parts.map (·.1) else o.joinings.map (·.1)).map V.str)) → Q (.ref l) H'
def spStanding (K : PySem.W.Frag) : Sp := fun vs H Q _ => ∃ (p : Addr) (v : V) (G : Hp) (n : Nat) (o : Own), vs = [.ref p, v] ∧ Beside p G H ∧ PotAt p H n ∧ n + 20 ≤ 1000000 ∧ OwnAt K G v o ∧ OwnOk o ∧
  ∀ (v' : V) (st : List Rat) (G' H' : Hp), Same G G' → Beside p G' H' → PotAt p H' (n + 20) → RatsAt K G' v' st → st.length = o.parts.length → (∀ r ∈ st, Wn 30 150 r) → Q v' H'
def spScript (K : PySem.W.Frag) : Sp := fun vs H Q _ => ∃ (p : Addr) (v : V) (G : Hp) (n m : Nat) (o : Own), vs = [.ref p, v, .int m] ∧ Beside p G H ∧ PotAt p H n ∧ n + 20 ≤ 1000000 ∧ m ≤ 20 ∧ OwnAt K G v o ∧ OwnOk o ∧
  ∀ (s : Addr) (js : List Str) (G' H' : Hp), Same G G' → Beside p G' H' → PotAt p H' (n + 20) → SqT K G' s (js.map V.str) → js.length = m → (∀ x ∈ js, x ∈ o.joinings.map (·.1)) → Q (.ref s) H'
theorem beside_hide (p : Addr) (H : Hp) : Beside p (hide p H) H := ⟨hide_at, hide_same⟩
theorem PotAt.same' {p : Addr} {H H' : Hp} {n : Nat} (s : Same H H') (h : PotAt p H n) : PotAt p H' n := by
  obtain ⟨x, y, z, e, r⟩ := h
  exact ⟨x, y, z, s _ _ e, r⟩
theorem comp_list {K : PySem.W.Frag} {tl : TE} {g : TG} {tt : TT} {te : TE} {vs : List Nat} {σ : L2.St} {H : Hp} {Q : VK} (h : tl σ H fun x H1 => tLc (iList K fun _ _ R => R x H1) g tt te vs σ H1 Q) : tLc (iList K tl) g tt te vs σ H Q := h
theorem rats_of {K : PySem.W.Frag} {H : Hp} : ∀ {xs : List V} {fs : List (Int × Int)}, Paired (FrAt K H) xs fs → (∀ f ∈ fs, FrOk f) → Paired (RatAt K H) xs (fs.map ratF)
  | _, _, .nil, _ => .nil
  | _, _, .cons r t, h => .cons (FrAt.rat (h _ List.mem_cons_self) r) (rats_of t fun f hf => h f (List.mem_cons_of_mem _ hf))
theorem drawn5_ok {f : Int × Int} (h : drawn (-5) 5 f) : FrOk f := by
  obtain ⟨b, d, hb, d0, d1, rfl⟩ := h
  refine ratio_ok (by omega) (small_nat ?_ ?_) (small_nat (by omega) (by omega))
  all_goals rcases hb with rfl | rfl | rfl | rfl <;> omega
section
variable {P : Program} {w : World} {K : PySem.W.Frag} {mg : Str → Option Value} {base : Heap}
end
end Ct

/-! The law's own scene; a script with each name twice; standings added. -/
namespace Ct
open PySem PySem.Spec PyProof.Rows L2 TL RZ
def spScene (K : PySem.W.Frag) : Sp := fun vs H Q _ => ∃ (p : Addr) (G : Hp) (n : Nat), vs = [.ref p] ∧ Beside p G H ∧ PotAt p H n ∧ n + 500 ≤ 1000000 ∧
  ∀ (t s : Addr) (v y : V) (o : Own) (js : List Str) (st : List Rat) (G' H' : Hp), Same G G' → Beside p G' H' → PotAt p H' (n + 500) → SqT K G' t [v, .ref s, y] → OwnAt K G' v o → OwnOk o → DrawnOk o → o.parts.length ≤ 4 →
    SqT K G' s (js.map V.str) → js.length ≤ 8 → (∀ x ∈ js, x ∈ o.joinings.map (·.1)) → RatsAt K G' y st → st.length = o.parts.length → (∀ r ∈ st, Wn 30 150 r) → Q (.ref t) H'
def twiceL (js : List Str) : List Str := js.flatMap fun x => [x, x]
def spDoubled (K : PySem.W.Frag) : Sp := fun vs H Q _ => ∃ (s : Addr) (js : List Str), vs = [.ref s] ∧ SqT K H s (js.map V.str) ∧ js.length ≤ 40 ∧ ∀ q H', Same H H' → SqT K H' q ((twiceL js).map V.str) → Q (.ref q) H'
def intsL (l : List Int) : List V := l.map V.int
theorem intsL_at {l : List Int} {i : Nat} {v : V} (h : (intsL l)[i]? = some v) : ∃ j ∈ l, v = .int j := by
  unfold intsL at h
  rw [List.getElem?_map] at h
  cases e : l[i]? with
  | none => rw [e] at h; cases h
  | some x => rw [e] at h; exact ⟨x, List.mem_of_getElem? e, (Option.some.inj h).symm⟩
theorem of_new {K : PySem.W.Frag} {p : Addr} {G H : Hp} {n : Nat} {Q : VK} (l : List Int) (bs : Beside p G H) (ht : PotAt p H n) (hn : n + 1 ≤ 1000000) (l0 : 0 < l.length) (l1 : l.length < 1000000)
    (k : ∀ j ∈ l, ∀ G' H', Same G G' → Beside p G' H' → PotAt p H' (n + 1) → Q (.int j) H') : (intsL l).length ≤ sizeLine ∧ ∀ a, H a = none → spOf K [.ref p, .ref a] (upd H a (.lst (intsL l))) Q E0 := by
  have e : (intsL l).length = l.length := List.length_map ..
  refine ⟨by rw [e]; show l.length ≤ 16777216; omega, fun a na => ?_⟩
  obtain ⟨b1, s1, g1⟩ := bs.new (o := .lst (intsL l)) ht.some na
  refine ⟨p, a, _, n, intsL l, rfl, b1, ht.new na, hn, SqL.of upd_same, by omega, by omega, fun i v G' H' hv s' b' t' => ?_⟩
  obtain ⟨j, hj, rfl⟩ := intsL_at hv
  exact k j hj G' H' (s1.trans s') b' t'
section
variable {P : Program} {w : World} {K : PySem.W.Frag} {mg : Str → Option Value} {base : Heap}
end
end Ct

/-! Standings of the law's own, taken and added. -/
namespace Ct
open PySem PySem.Spec PyProof.Rows L2 TL RZ
/-- one standing, so many times another added -/
def addL (a b : List Rat) (k : Rat) : List Rat := List.zipWith (fun x y => x + k * y) a b
def spLMore (K : PySem.W.Frag) : Sp := fun vs H Q _ => ∃ (u v t : V) (a b : List Rat) (k : Rat), vs = [u, v, t] ∧ RatsAt K H u a ∧ RatsAt K H v b ∧ RatAt K H t k ∧ a.length = b.length ∧ a.length ≤ 100 ∧ Fits4 a ∧ Fits4 b ∧ FitR 4400 k ∧ (∀ y ∈ b, FitR 4400 (k * y)) ∧ ∀ v' H', Same H H' → RatsAt K H' v' (addL a b k) → Q v' H'
section
variable {P : Program} {w : World} {K : PySem.W.Frag} {mg : Str → Option Value} {base : Heap}
end
end Ct

/-! The law's own equality: a recursion over what is told. -/
namespace Ct
open PySem PySem.Spec PyProof.Rows L2 TL RZ
theorem pe_nope {X : Cx} {e : Expr} : PE X e (fun _ _ _ => False) := ⟨fun _ _ _ _ _ _ h => h.elim⟩
/-- tuples of whole numbers, so deep -/
def IntsD : Nat → PyData → Prop
  | 0, x => ∃ i, x = .int i
  | d + 1, x => ∃ xs, x = .tuple xs ∧ xs.length < 1000000 ∧ ∀ y ∈ xs, IntsD d y
theorem dpAll_pair {K : PySem.W.Frag} {H : Hp} : ∀ {vs : List V} {ds : List PyData}, DpAll K H vs ds → Paired (Dp K H) vs ds
  | _, _, .nil => .nil
  | _, _, .cons h t => .cons h (dpAll_pair t)
mutual
theorem dp_same {K : PySem.W.Frag} {H H' : Hp} (s : Same H H') : ∀ {v : V} {d : PyData}, Dp K H v d → Dp K H' v d
  | _, _, .non => .non
  | _, _, .bl b => .bl b
  | _, _, .int i => .int i
  | _, _, .str x => .str x
  | _, _, .lst h t => .lst (Same.seq s h) (dpAll_same s t)
  | _, _, .tup h t => .tup (SqT.same s h) (dpAll_same s t)
theorem dpAll_same {K : PySem.W.Frag} {H H' : Hp} (s : Same H H') : ∀ {vs : List V} {ds : List PyData}, DpAll K H vs ds → DpAll K H' vs ds
  | _, _, .nil => .nil
  | _, _, .cons h t => .cons (dp_same s h) (dpAll_same s t)
end
def spIs (K : PySem.W.Frag) (d : Nat) : Sp := fun vs H Q _ => ∃ (v u : V) (x : PyData), vs = [v, u] ∧ Dp K H v x ∧ Dp K H u x ∧ IntsD d x ∧ ∀ H', Same H H' → Q (.bl true) H'
section
variable {P : Program} {w : World} {K : PySem.W.Frag} {mg : Str → Option Value} {base : Heap}
end
end Ct

/-! Scripts one behind the other, each name twice, starts in a straight line. -/
namespace Ct
open PySem PySem.Spec PyProof.Rows L2 TL RZ
theorem last_app (o : Own) (a b : List Str) (st : List Rat) : lastR o (a ++ b) st = lastR o b (lastR o a st) := by
  unfold lastR
  exact List.foldl_append
theorem twice_len : ∀ js : List Str, (twiceL js).length = 2 * js.length
  | [] => rfl
  | x :: js => by
    show (x :: x :: twiceL js).length = 2 * (js.length + 1)
    rw [List.length_cons, List.length_cons, twice_len js]
    omega
theorem twice_even : ∀ (js : List Str) (i : Nat), (twiceL js).take (2 * i) = twiceL (js.take i)
  | [], i => by
    show ([] : List Str).take _ = twiceL (([] : List Str).take i)
    rw [List.take_nil, List.take_nil]
    rfl
  | x :: js, 0 => rfl
  | x :: js, i + 1 => by
    show (x :: x :: twiceL js).take (2 * i + 1 + 1) = x :: x :: twiceL (js.take i)
    rw [List.take_succ_cons, List.take_succ_cons, twice_even js i]
theorem twice_at : ∀ (js : List Str) (i : Nat), (twiceL js)[2 * i]? = js[i]? ∧ (twiceL js)[2 * i + 1]? = js[i]?
  | [], i => ⟨rfl, rfl⟩
  | x :: js, 0 => ⟨rfl, rfl⟩
  | x :: js, i + 1 => twice_at js i
theorem twice_mem {js : List Str} {x : Str} (h : x ∈ twiceL js) : x ∈ js := by
  obtain ⟨y, hy, h⟩ := List.mem_flatMap.mp h
  simp only [List.mem_cons, List.not_mem_nil, or_false] at h
  rcases h with rfl | rfl <;> exact hy
section
variable {o : Own} (ok : OwnOk o) (dr : DrawnOk o)
include ok dr
theorem step_again {x : Str} (hx : x ∈ o.joinings.map (·.1)) {st : List Rat} (len : st.length = o.parts.length) : stepR o (stepR o st x) x = stepR o st x :=
  join_again (net_of ok dr (ties_in hx) (freeF_of ok dr hx)) len
theorem last_twice : ∀ {js : List Str} {st : List Rat}, (∀ x ∈ js, x ∈ o.joinings.map (·.1)) → st.length = o.parts.length → lastR o (twiceL js) st = lastR o js st
  | [], _, _, _ => rfl
  | x :: js, st, hx, len => by
    show lastR o (twiceL js) (stepR o (stepR o st x) x) = lastR o js (stepR o st x)
    rw [step_again ok dr (hx x List.mem_cons_self) len]
    exact last_twice (fun y hy => hx y (List.mem_cons_of_mem _ hy)) (step_len len)
/-- behind an even and behind an odd number of steps -/
theorem twice_state {js : List Str} {st : List Rat} (hx : ∀ x ∈ js, x ∈ o.joinings.map (·.1)) (len : st.length = o.parts.length) (i : Nat) : lastR o ((twiceL js).take (2 * i)) st = lastR o (js.take i) st := by
  rw [twice_even]
  exact last_twice ok dr (fun x h => hx x (List.mem_of_mem_take h)) len
theorem twice_odd {js : List Str} {st : List Rat} (hx : ∀ x ∈ js, x ∈ o.joinings.map (·.1)) (len : st.length = o.parts.length) {i : Nat} {x : Str} (h : js[i]? = some x) : lastR o ((twiceL js).take (2 * i + 1)) st = lastR o (js.take (i + 1)) st := by
  rw [last_next ((twice_at js i).1.trans h), twice_state ok dr hx len, last_next h]
theorem run_twice (four : o.parts.length ≤ 4) {js : List Str} {st : List Rat} (hx : ∀ x ∈ js, x ∈ o.joinings.map (·.1)) (eight : js.length ≤ 8) (h0 : StAt o 0 st) : RunOk o (twiceL js) st := by
  intro i x hi fl fo
  have hm := hx x (twice_mem (List.mem_of_getElem? hi))
  have len := h0.1
  rcases Nat.mod_two_eq_zero_or_one i with e | e
  · have e2 : i = 2 * (i / 2) := by omega
    rw [e2] at hi ⊢
    rw [twice_state ok dr hx len]
    have ji := (twice_at js (i / 2)).1.symm.trans hi
    have lt := (List.getElem?_eq_some_iff.mp ji).1
    exact (join_step ok dr four (ties_in hm) fo (by omega) (state_at ok dr four hx (by omega) h0 (i / 2) (by omega))).1
  · have e2 : i = 2 * (i / 2) + 1 := by omega
    rw [e2] at hi ⊢
    have ji := (twice_at js (i / 2)).2.symm.trans hi
    have lt := (List.getElem?_eq_some_iff.mp ji).1
    rw [twice_odd ok dr hx len ji]
    exact (join_step ok dr four (ties_in hm) fo (by omega) (state_at ok dr four hx (by omega) h0 (i / 2 + 1) (by omega))).1
theorem step_mix {x : Str} (hx : x ∈ o.joinings.map (·.1)) {a b : List Rat} {k : Rat} (ha : a.length = o.parts.length) (hb : b.length = o.parts.length) : stepR o (mixL a b k) x = mixL (stepR o a x) (stepR o b x) k :=
  join_mix (net_of ok dr (ties_in hx) (freeF_of ok dr hx)) ha hb
theorem last_mix : ∀ {js : List Str} {a b : List Rat} {k : Rat}, (∀ x ∈ js, x ∈ o.joinings.map (·.1)) → a.length = o.parts.length → b.length = o.parts.length → lastR o js (mixL a b k) = mixL (lastR o js a) (lastR o js b) k
  | [], _, _, _, _, _, _ => rfl
  | x :: js, a, b, k, hx, ha, hb => by
    show lastR o js (stepR o (mixL a b k) x) = mixL (lastR o js (stepR o a x)) (lastR o js (stepR o b x)) k
    rw [step_mix ok dr (hx x List.mem_cons_self) ha hb]
    exact last_mix (fun y hy => hx y (List.mem_cons_of_mem _ hy)) (step_len ha) (step_len hb)
end
theorem zip_self (o : Own) : ∀ a : List Rat, diffL a a = a.map fun _ => 0
  | [] => rfl
  | x :: a => by
    show (x - x) :: diffL a a = 0 :: a.map fun _ => (0 : Rat)
    rw [zip_self o a]
    congr 1
    grind
/-- nothing is lost between a standing and itself -/
theorem none_lost (o : Own) (a : List Rat) : sqR o (diffL a a) = 0 := by
  have h : ∀ (l : List Rat), (∀ r ∈ l, r = 0) → sumL l = 0 := by
    intro l hl
    have := sum_sm (fun r : Rat => r) l
    rw [List.map_id'] at this
    rw [this]
    exact sm_zero hl
  unfold sqR
  refine h _ fun r hr => ?_
  unfold prodL at hr
  obtain ⟨n, hn⟩ := List.mem_iff_getElem?.mp hr
  rw [List.getElem?_zipWith] at hn
  cases ea : (chargeL o (diffL a a))[n]? with
  | none => rw [ea] at hn; cases hn
  | some p =>
    cases eb : (diffL a a)[n]? with
    | none => rw [ea, eb] at hn; cases hn
    | some q =>
      rw [ea, eb] at hn
      cases hn
      have q0 : q = 0 := by
        rw [zip_self o a, List.getElem?_map] at eb
        cases ec : a[n]? with
        | none => rw [ec] at eb; cases eb
        | some z => rw [ec] at eb; exact (Option.some.inj eb).symm
      rw [q0]
      exact Rat.mul_zero _
end Ct

/-! t[b::2] of a tuple, b 0 or 1. -/
namespace Ct
open PySem PySem.Spec PyProof.Rows L2 TL
def evL {α : Type} : List α → List α
  | [] => []
  | [x] => [x]
  | x :: _ :: r => x :: evL r
theorem ev_pick {α : Type} : ∀ (l : List α), (List.range ((l.length + 1) / 2)).filterMap (fun m => l[2 * m]?) = evL l
  | [] => by simp [evL]
  | [x] => by
    have e : (([x] : List α).length + 1) / 2 = 1 := by simp
    rw [e]
    simp [evL, List.range_succ]
  | x :: y :: r => by
    have e : ((x :: y :: r).length + 1) / 2 = (r.length + 1) / 2 + 1 := by
      rw [List.length_cons, List.length_cons]
      omega
    rw [e, List.range_succ_eq_map, List.filterMap_cons]
    show x :: _ = x :: evL r
    rw [← ev_pick r, List.filterMap_map]
    rfl
theorem ev_len {α : Type} : ∀ l : List α, (evL l).length ≤ l.length
  | [] => Nat.le_refl _
  | [_] => Nat.le_refl _
  | x :: y :: r => by
    have := ev_len r
    show (evL r).length + 1 ≤ r.length + 1 + 1
    omega
theorem ev_vals : ∀ {xs : List V} {us : List Value}, Vals xs us → Vals (evL xs) (evL us)
  | _, _, .nil => .nil
  | _, _, .cons h .nil => .cons h .nil
  | _, _, .cons h (.cons _ t) => .cons h (ev_vals t)
theorem applied_two {prog : Program} {w : World} {A : Around} {E : Value → Shared → Prop} {s : Shared} {sl : Addr} {vl vu vs : Value} {lo : Option Int} {n : Nat} {Q : Int × Int × Nat → Shared → Prop} (hs : s.heap.IsSliceOf sl vl vu vs) (pl : IsPart vl lo) (pu : IsPart vu none) (ps : IsPart vs (some 2))
    (h : Q (((HT.sIx n 0 lo : Nat) : Int), 2, (n - HT.sIx n 0 lo + 1) / 2) s) : wpAny (model prog w) A (Builtin.Slice.sliceApplied (.ref sl) (pure (n : Int))) Q E s := by
  obtain ⟨os, hos, hcs, hds⟩ := id hs
  unfold Builtin.Slice.sliceApplied Builtin.Slice.sliceFields
  refine wpAny_bind (wpAny_bind (wpAny_field hos hds (x := vl) rfl (wpAny_bind (wpAny_field hos hds (x := vu) rfl (wpAny_bind (wpAny_field hos hds (x := vs) rfl (wpAny_pure ?_)))))))
  refine wpAny_bind (HT.slicePart_ ps ?_)
  show wpAny _ _ (if ((2 : Int) == 0) = true then _ else _) _ _ s
  rw [if_neg (by decide)]
  refine wpAny_bind (HT.slicePart_ pl (wpAny_bind (HT.slicePart_ pu (wpAny_bind (wpAny_pure ?_)))))
  have ad : Builtin.Slice.sliceAdjust lo none 2 (n : Int) = (((HT.sIx n 0 lo : Nat) : Int), (n : Int)) := by
    unfold Builtin.Slice.sliceAdjust
    have h2 : ¬ ((2 : Int) < 0) := by decide
    simp only [h2, if_false]
    refine Prod.ext ?_ rfl
    cases lo with
    | none => rfl
    | some v => exact HT.clip_eq v n 0
  have le : HT.sIx n 0 lo ≤ n := HT.sIx_le n 0 (Nat.zero_le _) lo
  have pc : Builtin.Slice.slicePlaces ((HT.sIx n 0 lo : Nat) : Int) (n : Int) 2 = (n - HT.sIx n 0 lo + 1) / 2 := by
    unfold Builtin.Slice.slicePlaces
    have h2 : (2 : Int) > 0 := by decide
    simp only [h2, if_true]
    split <;> omega
  show wpAny _ _ (match Builtin.Slice.sliceAdjust lo none 2 (n : Int) with | (lo, hi) => pure (lo, (2 : Int), Builtin.Slice.slicePlaces lo hi 2)) _ _ s
  rw [ad]
  show wpAny _ _ (pure (((HT.sIx n 0 lo : Nat) : Int), (2 : Int), Builtin.Slice.slicePlaces ((HT.sIx n 0 lo : Nat) : Int) (n : Int) 2)) _ _ s
  rw [pc]
  exact wpAny_pure h
theorem pick_two (xs : Array Value) (i : Nat) : ((List.range ((xs.size - i + 1) / 2)).filterMap fun (m : Nat) => xs[((i : Int) + (m : Int) * 2).toNat]?).toArray = (evL (xs.toList.drop i)).toArray := by
  have e : (fun (m : Nat) => xs[((i : Int) + (m : Int) * 2).toNat]?) = fun m => (xs.toList.drop i)[2 * m]? := by
    funext m
    have : ((i : Int) + (m : Int) * 2).toNat = i + 2 * m := by omega
    rw [this, List.getElem?_drop, Array.getElem?_toList]
  rw [e, ← ev_pick, List.length_drop, Array.length_toList]
theorem get_two {prog : Program} {w : World} {A : Around} {E : Value → Shared → Prop} {s : Shared} {t sl : Addr} {items : Array Value} {vl vu vs : Value} {lo : Option Int} {Q : Value → Shared → Prop} (ht : IsTup s.heap t items) (hs : s.heap.IsSliceOf sl vl vu vs) (pl : IsPart vl lo) (pu : IsPart vu none) (ps : IsPart vs (some 2))
    (h : Q (.ref s.heap.objs.size) { s with heap := s.heap.push { cls := .type "tuple", data := .seq (evL (items.toList.drop (HT.sIx items.size 0 lo))).toArray } }) (hsz : items.size ≤ sizeLine) : wpAny (model prog w) A (getItem (.ref t) (.ref sl)) Q E s := by
  have fits : sizeOk (.seq (evL (items.toList.drop (HT.sIx items.size 0 lo))).toArray) := by
    show (evL (items.toList.drop (HT.sIx items.size 0 lo))).length ≤ sizeLine
    have := ev_len (items.toList.drop (HT.sIx items.size 0 lo))
    rw [List.length_drop] at this
    have q : items.toList.length = items.size := Array.length_toList
    omega
  obtain ⟨os, hos, hcs, hds⟩ := id hs
  have isSl : s.TypeIs (.ref sl) "slice" := ⟨os, hos, hcs⟩
  unfold getItem
  try with_reducible refine wpAny_holding ?_
  first | refine wpAny_bind (wpAny_pure ?_) | skip
  refine wpAny_bind (wpAny_sequenceKey ht.typeIs (by decide) ?_)
  refine wpAny_bind (wpAny_callSpecial?_slot (name := Str.ofString "__getitem__") ht.typeIs PyProof.Rows.slot_tuple_getitem (wpAny_call_entry PyProof.Rows.slot_tuple_getitem ht.typeIs entry_tuple_getitem ?_ (args_tuple_getitem _ _)))
  show wpAny _ _ (Builtin.Tuple.tupleItemsOf (.ref t) >>= _) _ _ s
  refine wpAny_bind (tupleItemsOf_ ht ?_)
  refine wpAny_bind (wpAny_typeOf isSl ?_)
  rw [if_pos (by decide)]
  refine wpAny_bind (applied_two hs pl pu ps ?_)
  have no : ¬ ((((HT.sIx items.size 0 lo : Nat) : Int) == 0 && (2 : Int) == 1 && ((items.size - HT.sIx items.size 0 lo + 1) / 2) == items.size) = true) := by
    intro q
    rw [Bool.and_eq_true, Bool.and_eq_true] at q
    exact absurd q.1.2 (by decide)
  show wpAny _ _ (if (((HT.sIx items.size 0 lo : Nat) : Int) == 0 && (2 : Int) == 1 && ((items.size - HT.sIx items.size 0 lo + 1) / 2) == items.size) = true then _ else _) _ _ s
  rw [if_neg no, pick_two]
  first
    | exact wpAny_bind (m := Builtin.Tuple.tupleExact _) (wpAny_newObj_type (wpAny_pure ⟨_, rfl, wpAny_pure h⟩) fits)
    | exact wpAny_bind (m := Builtin.Tuple.tupleExact _) (wpAny_newObj_type (wpAny_bind (wpAny_pure (wpAny_pure ⟨_, rfl, wpAny_pure h⟩))) fits)
    | exact wpAny_bind (wpAny_bind (m := Builtin.Tuple.tupleExact _) (wpAny_newObj_type (wpAny_pure (wpAny_pure ⟨_, rfl, wpAny_pure h⟩)) fits))
    | exact wpAny_bind (wpAny_bind (m := Builtin.Tuple.tupleExact _) (wpAny_newObj_type (wpAny_pure ⟨_, rfl, wpAny_pure h⟩) fits))
/-- t[lo::2] -/
def tTwo (K : PySem.W.Frag) (te : TE) (tl : TO) : TE := fun σ H Q => te σ H fun x H1 => tl σ H1 fun lo H2 => ∃ a xs, x = .ref a ∧ SqT K H2 a xs ∧ ∀ p, H2 p = none → Q (.ref p) (upd H2 p (.tup (evL (xs.drop (HT.sIx xs.length 0 lo)))))
theorem pe_two {X : Cx} {e : Expr} {lo : Option Expr} {te : TE} {tl : TO} {k : Nat} {p1 p2 pos : Pos} (he : PE X e te) (hl : PO X lo tl) : PE X (.Subscript e (.Slice lo none (some (.Constant (.int 2) k p1)) p2) pos) (tTwo X.K te tl) := by
  refine ⟨fun pins s σ H Q I h => ?_⟩
  refine Subscript_ (thn (he.run pins s σ H _ I h) fun v s1 ⟨x, H1, I1, r1, q1⟩ => ?_)
  refine wpAny_Slice (thn (hl.run pins s1 σ H1 _ I1 q1) fun vl s2 ⟨l, H2, I2, pl, q2⟩ => ?_)
  obtain ⟨a, xs, ex, hx, q⟩ := q2
  subst ex
  cases r1
  refine thn (po_none.run pins s2 σ H2 (fun o H3 => o = none ∧ H3 = H2) I2 ⟨rfl, rfl⟩) fun vu s3 ⟨u, H3, I3, pu, eu, e3⟩ => ?_
  subst eu e3
  have hst : PO X (some (.Constant (.int 2) k p1)) (tPart (tC (.int 2))) := po_some pe_int
  refine thn (hst.run pins s3 σ H3 (fun o H4 => o = some 2 ∧ H4 = H3) I3 ⟨2, rfl, rfl, rfl⟩) fun vs s4 ⟨o, H4, I4, ps, eo, e4⟩ => ?_
  subst eo e4
  have I5 : Inv X pins σ H4 { s4 with heap := s4.heap.push { cls := .type "slice", data := .fields #[vl, vu, vs] } } := I4.kept (t' := s4.toks) fun b ob q => Heap.get?_push_of_some _ q
  obtain ⟨its, r, ht, hz⟩ := I5.tuple hx
  have hlen : its.toArray.size = xs.length := by rw [List.size_toArray]; exact r.length.symm
  show wpAny (model X.prog X.w) X.A (subscriptTail e (.Slice lo none (some (.Constant (.int 2) k p1)) p2) (.ref a) (.ref s4.heap.objs.size)) (EP X pins σ Q) X.xe { s4 with heap := s4.heap.push { cls := .type "slice", data := .fields #[vl, vu, vs] } }
  refine tail_any (ops := [.ref a, .ref s4.heap.objs.size]) ht.typeIs (PyProof.Rows.slot_tuple_getitem.lookup) ?_ (by with_unfolding_all rfl)
  refine get_two ht (Heap.IsSliceOf.new _ vl vu vs) pl pu ps ?_ (by rw [hlen]; exact hz)
  rw [hlen]
  refine ⟨.ref _, _, I5.laid (t' := s4.toks) (o := .tup (evL (xs.drop (HT.sIx xs.length 0 l)))) (fun b ob q => Heap.get?_push_of_some _ q) (Nat.le_refl _) ?_, rfl, q _ (I5.hok.fresh (Nat.le_refl _))⟩
  have := ev_len (xs.drop (HT.sIx xs.length 0 l))
  rw [List.length_drop] at this
  exact ⟨by show (evL _).length ≤ sizeLine; omega, _, ev_vals (r.drop (HT.sIx xs.length 0 l)), IsTup.new _ _⟩
end Ct

/-! A script in two parts; each second standing of a doubled one; straight lines. -/
namespace Ct
open PySem PySem.Spec PyProof.Rows L2 TL RZ
/-- each two neighbours -/
def adjL {α β : Type} (f : α → α → β) (l : List α) : List β := List.zipWith f l (l.drop 1)
theorem adj_get {α β : Type} (f : α → α → β) (l : List α) (i : Nat) : (adjL f l)[i]? = (match l[i]?, l[i + 1]? with | some x, some y => some (f x y) | _, _ => none) := by
  unfold adjL
  rw [List.getElem?_zipWith, List.getElem?_drop, Nat.add_comm 1 i]
  cases l[i]? <;> cases l[i + 1]? <;> rfl
theorem adj_take {α β : Type} (f : α → α → β) (l : List α) (n : Nat) : adjL f (l.take (n + 1)) = (adjL f l).take n := by
  refine List.ext_getElem? fun i => ?_
  rw [adj_get]
  by_cases h : i < n
  · rw [List.getElem?_take_of_lt (by omega), List.getElem?_take_of_lt (by omega), List.getElem?_take_of_lt h, adj_get]
  · rw [List.getElem?_eq_none (l := (adjL f l).take n) (by rw [List.length_take]; omega), List.getElem?_eq_none (l := l.take (n + 1)) (i := i + 1) (by rw [List.length_take]; omega)]
    cases (l.take (n + 1))[i]? <;> rfl
theorem adj_drop {α β : Type} (f : α → α → β) (l : List α) (n : Nat) : adjL f (l.drop n) = (adjL f l).drop n := by
  refine List.ext_getElem? fun i => ?_
  rw [adj_get, List.getElem?_drop, List.getElem?_drop, List.getElem?_drop, adj_get]
  rfl
theorem sqs_adj (o : Own) (l : List (List Rat)) : sqsL o l (l.drop 1) = adjL (fun x y => sqR o (diffL x y)) l := rfl
section
variable {o : Own} {js : List Str} {st : List Rat} {n : Nat}
theorem run_take (h : n ≤ js.length) : runR o (js.take n) st = (runR o js st).take (n + 1) := by
  refine List.ext_getElem? fun m => ?_
  by_cases q : m ≤ n
  · rw [run_get (by rw [List.length_take]; omega), List.getElem?_take_of_lt (by omega), run_get (by omega), List.take_take, Nat.min_eq_left q]
  · rw [List.getElem?_eq_none (by rw [run_len, List.length_take]; omega), List.getElem?_eq_none (by rw [List.length_take]; omega)]
theorem take_drop_last (m : Nat) : lastR o ((js.drop n).take m) (lastR o (js.take n) st) = lastR o (js.take (n + m)) st := by
  rw [← last_app, ← List.take_add]
theorem run_drop (h : n ≤ js.length) : runR o (js.drop n) (lastR o (js.take n) st) = (runR o js st).drop n := by
  refine List.ext_getElem? fun m => ?_
  by_cases q : n + m ≤ js.length
  · rw [run_get (by rw [List.length_drop]; omega), List.getElem?_drop, run_get q, take_drop_last]
  · rw [List.getElem?_eq_none (by rw [run_len, List.length_drop]; omega), List.getElem?_eq_none (by rw [List.length_drop, run_len]; omega)]
theorem ok_take (ro : RunOk o js st) : RunOk o (js.take n) st := by
  intro i x hi fl fo
  have lt : i < n := by
    have := (List.getElem?_eq_some_iff.mp hi).1
    rw [List.length_take] at this
    omega
  rw [List.getElem?_take_of_lt lt] at hi
  rw [List.take_take, Nat.min_eq_left (Nat.le_of_lt lt)]
  exact ro i x hi fl fo
theorem ok_drop (ro : RunOk o js st) : RunOk o (js.drop n) (lastR o (js.take n) st) := by
  intro i x hi fl fo
  rw [List.getElem?_drop] at hi
  rw [take_drop_last]
  exact ro (n + i) x hi fl fo
def PairsOk (o : Own) (js : List Str) (st : List Rat) : Prop := ∀ i, i < js.length → PairOk o (lastR o (js.take i) st) (lastR o (js.take (i + 1)) st)
theorem pairs_take (po : PairsOk o js st) : PairsOk o (js.take n) st := by
  intro i hi
  rw [List.length_take] at hi
  rw [List.take_take, List.take_take, Nat.min_eq_left (by omega), Nat.min_eq_left (by omega)]
  exact po i (by omega)
theorem pairs_drop (po : PairsOk o js st) : PairsOk o (js.drop n) (lastR o (js.take n) st) := by
  intro i hi
  rw [List.length_drop] at hi
  rw [take_drop_last, take_drop_last]
  exact po (n + i) (by omega)
/-- what both parts lose -/
theorem lose_parts (h : n ≤ js.length) : sqsL o (runR o (js.take n) st) ((runR o (js.take n) st).drop 1) ++ sqsL o (runR o (js.drop n) (lastR o (js.take n) st)) ((runR o (js.drop n) (lastR o (js.take n) st)).drop 1) = sqsL o (runR o js st) ((runR o js st).drop 1) := by
  rw [sqs_adj, sqs_adj, sqs_adj, run_take h, run_drop h, adj_take, adj_drop, List.take_append_drop]
end
theorem ev_get {α : Type} : ∀ (l : List α) (m : Nat), (evL l)[m]? = l[2 * m]?
  | [], m => by simp [evL]
  | [x], 0 => rfl
  | [x], m + 1 => by
    show ([x] : List α)[m + 1]? = ([x] : List α)[2 * (m + 1)]?
    rw [List.getElem?_eq_none (by simp), List.getElem?_eq_none (by simp; omega)]
  | x :: y :: r, 0 => rfl
  | x :: y :: r, m + 1 => by
    show (x :: evL r)[m + 1]? = (x :: y :: r)[2 * (m + 1)]?
    rw [List.getElem?_cons_succ, ev_get r m, show 2 * (m + 1) = 2 * m + 1 + 1 by omega, List.getElem?_cons_succ, List.getElem?_cons_succ]
section
variable {o : Own} (ok : OwnOk o) (dr : DrawnOk o) {js : List Str} {st : List Rat} (hx : ∀ x ∈ js, x ∈ o.joinings.map (·.1)) (len : st.length = o.parts.length)
include ok dr hx len
theorem ev_twice : evL (runR o (twiceL js) st) = runR o js st := by
  refine List.ext_getElem? fun m => ?_
  rw [ev_get]
  by_cases q : m ≤ js.length
  · rw [run_get (by rw [twice_len]; omega), run_get q, twice_state ok dr hx len]
  · rw [List.getElem?_eq_none (by rw [run_len, twice_len]; omega), List.getElem?_eq_none (by rw [run_len]; omega)]
theorem odd_twice : evL ((sqsL o (runR o (twiceL js) st) ((runR o (twiceL js) st).drop 1)).drop 1) = List.replicate js.length 0 := by
  refine List.ext_getElem? fun m => ?_
  rw [ev_get, List.getElem?_drop, sqs_adj, adj_get]
  by_cases q : m < js.length
  · have e : js[m]? = some js[m] := List.getElem?_eq_getElem q
    rw [run_get (by rw [twice_len]; omega), run_get (by rw [twice_len]; omega), List.getElem?_replicate_of_lt q]
    rw [show 1 + 2 * m = 2 * m + 1 by omega, twice_odd ok dr hx len e, show 2 * m + 1 + 1 = 2 * (m + 1) by omega, twice_state ok dr hx len]
    show some (sqR o _) = some 0
    rw [none_lost]
  · rw [List.getElem?_eq_none (l := runR o (twiceL js) st) (i := 1 + 2 * m + 1) (by rw [run_len, twice_len]; omega), List.getElem?_eq_none (l := List.replicate js.length 0) (by rw [List.length_replicate]; omega)]
    cases (runR o (twiceL js) st)[1 + 2 * m]? <;> rfl
end
theorem fits_zero (n : Nat) : Fits4 (List.replicate n 0) := fun r hr => by
  rw [List.eq_of_mem_replicate hr]
  exact ⟨by decide +kernel, by decide +kernel⟩
theorem charge_zero (o : Own) (n : Nat) : ∃ m, chargeL o (List.replicate n 0) = List.replicate m 0 := by
  refine ⟨min o.parts.length n, ?_⟩
  unfold chargeL
  refine List.ext_getElem? fun i => ?_
  rw [List.getElem?_zipWith]
  by_cases q : i < n
  · rw [List.getElem?_replicate_of_lt q]
    cases e : o.parts[i]? with
    | none =>
      have := List.getElem?_eq_none_iff.mp e
      rw [List.getElem?_eq_none (by rw [List.length_replicate]; omega)]
    | some p =>
      have := (List.getElem?_eq_some_iff.mp e).1
      rw [List.getElem?_replicate_of_lt (by omega)]
      show some (ratF p.2 * 0) = _
      rw [Rat.mul_zero]
  · rw [List.getElem?_eq_none (l := List.replicate n 0) (by rw [List.length_replicate]; omega), List.getElem?_eq_none (l := List.replicate (min _ _) 0) (by rw [List.length_replicate]; omega)]
    cases o.parts[i]? <;> rfl
theorem prod_zero (n m : Nat) : prodL (List.replicate n 0) (List.replicate m 0) = List.replicate (min n m) 0 := by
  unfold prodL
  rw [List.zipWith_replicate]
  rw [Rat.mul_zero]
theorem sum_zero (n : Nat) : sumL (List.replicate n 0) = 0 := by
  induction n with
  | zero => rfl
  | succ n ih =>
    have := sum_sm (fun r : Rat => r) (List.replicate (n + 1) 0)
    rw [List.map_id'] at this
    rw [this]
    exact sm_zero fun r hr => List.eq_of_mem_replicate hr
theorem sq_zero (o : Own) (a : List Rat) : SqOk o (diffL a a) := by
  have e : diffL a a = List.replicate a.length 0 := by
    rw [zip_self o a]
    exact List.map_const' ..
  rw [e]
  obtain ⟨m, hm⟩ := charge_zero o a.length
  refine ⟨fits_zero _, by rw [hm]; exact fits_zero m, ?_⟩
  rw [hm, prod_zero]
  refine ⟨fits_zero _, fun i => ?_⟩
  rw [List.take_replicate, sum_zero]
  exact ⟨by decide +kernel, by decide +kernel⟩
/-- the doubled script's steps -/
theorem pairs_twice {o : Own} (ok : OwnOk o) (dr : DrawnOk o) {js : List Str} {st : List Rat} (hx : ∀ x ∈ js, x ∈ o.joinings.map (·.1)) (len : st.length = o.parts.length) (po : PairsOk o js st) : PairsOk o (twiceL js) st := by
  intro i hi
  rw [twice_len] at hi
  rcases Nat.mod_two_eq_zero_or_one i with e | e
  · have e2 : i = 2 * (i / 2) := by omega
    have q : i / 2 < js.length := by omega
    have ej : js[i / 2]? = some js[i / 2] := List.getElem?_eq_getElem q
    rw [e2, twice_state ok dr hx len, twice_odd ok dr hx len ej]
    exact po _ q
  · have e2 : i = 2 * (i / 2) + 1 := by omega
    have q : i / 2 < js.length := by omega
    have ej : js[i / 2]? = some js[i / 2] := List.getElem?_eq_getElem q
    have e3 : 2 * (i / 2) + 1 + 1 = 2 * (i / 2 + 1) := by omega
    rw [e2, twice_odd ok dr hx len ej, e3, twice_state ok dr hx len]
    have p := po _ q
    exact ⟨p.2.1, p.2.1, p.2.2.2.1, p.2.2.2.1, sq_zero o _⟩
theorem add_mix (a b : List Rat) (k : Rat) (h : a.length = b.length) : addL a (diffL b a) k = mixL a b k := by
  unfold addL diffL mixL
  refine List.ext_getElem? fun i => ?_
  rw [List.getElem?_zipWith, List.getElem?_zipWith, List.getElem?_zipWith]
  cases a[i]? <;> cases b[i]? <;> rfl
/-- between two starts -/
theorem mix_start {a b : List Rat} {k : Rat} (ha : ∀ r ∈ a, Wn 30 150 r) (hb : ∀ r ∈ b, Wn 30 150 r) (hk : k = 1 / 2 ∨ k = 1 / 3 ∨ k = 2 ∨ k = -1) : ∀ r ∈ mixL a b k, Wn 180 2700 r := by
  intro r hr
  unfold mixL at hr
  obtain ⟨n, hn⟩ := List.mem_iff_getElem?.mp hr
  rw [List.getElem?_zipWith] at hn
  cases ea : a[n]? with
  | none => rw [ea] at hn; cases hn
  | some p =>
    cases eb : b[n]? with
    | none => rw [ea, eb] at hn; cases hn
    | some q =>
      rw [ea, eb] at hn
      cases hn
      obtain ⟨x, ex, lx⟩ := ha _ (List.mem_of_getElem? ea)
      obtain ⟨y, ey, ly⟩ := hb _ (List.mem_of_getElem? eb)
      have e180 : ((180 : Nat) : Rat) = 6 * ((30 : Nat) : Rat) := by decide +kernel
      rcases hk with rfl | rfl | rfl | rfl
      · refine ⟨3 * x + 3 * y, ?_, by omega⟩
        rw [e180, Rat.intCast_add, Rat.intCast_mul, Rat.intCast_mul, ← ex, ← ey]
        grind
      · refine ⟨4 * x + 2 * y, ?_, by omega⟩
        rw [e180, Rat.intCast_add, Rat.intCast_mul, Rat.intCast_mul, ← ex, ← ey]
        grind
      · refine ⟨12 * y - 6 * x, ?_, by omega⟩
        rw [e180, Rat.intCast_sub, Rat.intCast_mul, Rat.intCast_mul, ← ex, ← ey]
        grind
      · refine ⟨12 * x - 6 * y, ?_, by omega⟩
        rw [e180, Rat.intCast_sub, Rat.intCast_mul, Rat.intCast_mul, ← ex, ← ey]
        grind
end Ct

/-! What is taken between two standings stays short. -/
namespace Ct
open PySem PySem.Spec PyProof.Rows L2 TL RZ
theorem wn_two {D1 M1 D2 M2 : Nat} {r s : Rat} (h1 : Wn D1 M1 r) (h2 : Wn D2 M2 s) : Wn (D1 * D2) (M1 * D2 + M2 * D1) (r - s) := by
  have a := h1.times D2
  have b := h2.times D1
  rw [Nat.mul_comm D2 D1] at b
  exact a.sub b
theorem StAt.wn {o : Own} {i : Nat} {a : List Rat} (hi : i ≤ 8) (h : StAt o i a) : ∃ D, 1 ≤ D ∧ D ≤ 30 * (6 * cP ^ 8) ∧ ∀ r ∈ a, Wn D (690 * cW ^ 8 * (6 * cP ^ 8)) r := by
  obtain ⟨_, k, k1, kP, all⟩ := h
  have kP : k ≤ 6 * cP ^ 8 := Nat.le_trans kP (Nat.mul_le_mul_left 6 (pow_le8 cP_pos hi))
  refine ⟨30 * k, by omega, by omega, fun r hr => (all r hr).mono (Nat.mul_le_mul (Nat.mul_le_mul_left 690 (pow_le8 cW_pos hi)) kP)⟩
theorem far_fit {o : Own} {i j : Nat} (hi : i ≤ 8) (hj : j ≤ 8) {a b : List Rat} {k : Rat} (ha : StAt o i a) (hb : StAt o j b) (hk : Wn 6 12 k) : Fits4 a ∧ Fits4 (diffL b a) ∧ ∀ y ∈ diffL b a, FitR 4400 (k * y) := by
  obtain ⟨D1, d1, u1, w1⟩ := ha.wn hi
  obtain ⟨D2, d2, u2, w2⟩ := hb.wn hj
  have c1 : 30 * (6 * cP ^ 8) < 2 ^ 4400 := by decide +kernel
  have c2 : 690 * cW ^ 8 * (6 * cP ^ 8) < 2 ^ 4400 := by decide +kernel
  have c3 : 6 * (30 * (6 * cP ^ 8) * (30 * (6 * cP ^ 8))) < 2 ^ 4400 := by decide +kernel
  have c4 : 12 * (690 * cW ^ 8 * (6 * cP ^ 8) * (30 * (6 * cP ^ 8)) + 690 * cW ^ 8 * (6 * cP ^ 8) * (30 * (6 * cP ^ 8))) < 2 ^ 4400 := by decide +kernel
  generalize 690 * cW ^ 8 * (6 * cP ^ 8) = M at *
  generalize 30 * (6 * cP ^ 8) = DD at *
  have p1 : D2 * D1 ≤ DD * DD := Nat.mul_le_mul u2 u1
  have p0 : 0 < D2 * D1 := Nat.mul_pos (by omega) (by omega)
  have q1 : M * D1 ≤ M * DD := Nat.mul_le_mul_left M u1
  have q2 : M * D2 ≤ M * DD := Nat.mul_le_mul_left M u2
  have wd : ∀ r ∈ diffL b a, Wn (D2 * D1) (M * D1 + M * D2) r := by
    intro r hr
    unfold diffL at hr
    obtain ⟨n, hn⟩ := List.mem_iff_getElem?.mp hr
    rw [List.getElem?_zipWith] at hn
    cases ea : b[n]? with
    | none => rw [ea] at hn; cases hn
    | some p =>
      cases eb : a[n]? with
      | none => rw [ea, eb] at hn; cases hn
      | some q =>
        rw [ea, eb] at hn
        cases hn
        exact wn_two (w2 _ (List.mem_of_getElem? ea)) (w1 _ (List.mem_of_getElem? eb))
  refine ⟨fun r hr => (w1 r hr).fit (by omega) (by omega) c2, fun r hr => (wd r hr).fit p0 (by omega) (by omega), fun r hr => (hk.mul (wd r hr)).fit (by omega) (by omega) (by omega)⟩
theorem by_wn {k : Rat} (hk : k = 1 / 2 ∨ k = 1 / 3 ∨ k = 2 ∨ k = -1) : Wn 6 12 k ∧ FitR 4400 k := by
  rcases hk with rfl | rfl | rfl | rfl
  · exact ⟨⟨3, by decide +kernel, by decide⟩, ⟨by decide +kernel, by decide +kernel⟩⟩
  · exact ⟨⟨2, by decide +kernel, by decide⟩, ⟨by decide +kernel, by decide +kernel⟩⟩
  · exact ⟨⟨12, by decide +kernel, by decide⟩, ⟨by decide +kernel, by decide +kernel⟩⟩
  · exact ⟨⟨-6, by decide +kernel, by decide⟩, ⟨by decide +kernel, by decide +kernel⟩⟩
theorem by_is {f : Int × Int} (h : f ∈ ([(1, 2), (1, 3), (2, 1), (-1, 1)] : List (Int × Int))) : (ratF f = 1 / 2 ∨ ratF f = 1 / 3 ∨ ratF f = 2 ∨ ratF f = -1) ∧ FrOk f := by
  simp only [List.mem_cons, List.not_mem_nil, or_false] at h
  rcases h with rfl | rfl | rfl | rfl
  · exact ⟨.inl (by decide +kernel), ⟨by decide, by decide, by decide +kernel, by decide +kernel⟩⟩
  · exact ⟨.inr (.inl (by decide +kernel)), ⟨by decide, by decide, by decide +kernel, by decide +kernel⟩⟩
  · exact ⟨.inr (.inr (.inl (by decide +kernel))), ⟨by decide, by decide, by decide +kernel, by decide +kernel⟩⟩
  · exact ⟨.inr (.inr (.inr (by decide +kernel))), ⟨by decide, by decide, by decide +kernel, by decide +kernel⟩⟩
end Ct

/-! Scripts turned about, sources at 0; sums of two states stay short. -/
namespace Ct
open PySem PySem.Spec PyProof.Rows L2 TL RZ
section
variable {o : Own} (ok : OwnOk o) (dr : DrawnOk o) (f : Flat o)
include ok dr f
theorem side_step {x : Str} (hx : x ∈ o.joinings.map (·.1)) {a b : List Rat} (la : a.length = o.parts.length) (lb : b.length = o.parts.length) : dotR o (stepR o a x) b = dotR o a (stepR o b x) :=
  flat_side (net_of ok dr (ties_in hx) (freeF_of ok dr hx)) f la lb
theorem side_last : ∀ {js : List Str} {a b : List Rat}, (∀ x ∈ js, x ∈ o.joinings.map (·.1)) → a.length = o.parts.length → b.length = o.parts.length → dotR o (lastR o js a) b = dotR o a (lastR o js.reverse b)
  | [], _, _, _, _, _ => rfl
  | x :: js, a, b, hx, la, lb => by
    have hm := hx x List.mem_cons_self
    have hr : ∀ y ∈ js, y ∈ o.joinings.map (·.1) := fun y hy => hx y (List.mem_cons_of_mem _ hy)
    show dotR o (lastR o js (stepR o a x)) b = _
    rw [side_last hr (step_len la) lb, side_step ok dr f hm la (last_len lb), List.reverse_cons]
    have : lastR o (js.reverse ++ [x]) b = stepR o (lastR o js.reverse b) x := by
      unfold lastR
      rw [List.foldl_append]
      rfl
    rw [this]
theorem side_back {js : List Str} {a b : List Rat} (hx : ∀ x ∈ js, x ∈ o.joinings.map (·.1)) (la : a.length = o.parts.length) (lb : b.length = o.parts.length) : dotR o b (lastR o js.reverse a) = dotR o a (lastR o js b) := by
  have hr : ∀ x ∈ js.reverse, x ∈ o.joinings.map (·.1) := fun x h => hx x (List.mem_reverse.mp h)
  rw [dot_comm ok.p_once lb (last_len la), side_last ok dr f hr la lb, List.reverse_reverse]
theorem side_whole {js : List Str} {a : List Rat} (hx : ∀ x ∈ js, x ∈ o.joinings.map (·.1)) (la : a.length = o.parts.length) (ne : js ≠ []) : dotR o a (lastR o (js ++ js.reverse.drop 1) a) = sqR o (lastR o js a) := by
  obtain ⟨hs, x, rfl⟩ : ∃ hs x, js = hs ++ [x] := ⟨js.dropLast, js.getLast ne, (List.dropLast_concat_getLast ne).symm⟩
  have hm := hx x (List.mem_append_right _ List.mem_cons_self)
  have ll := last_len (o := o) (js := hs) la
  have e1 : lastR o (hs ++ [x]) a = stepR o (lastR o hs a) x := by
    unfold lastR
    rw [List.foldl_append]
    rfl
  have again : stepR o (lastR o (hs ++ [x]) a) x = lastR o (hs ++ [x]) a := by
    rw [e1]
    exact join_again (net_of ok dr (ties_in hm) (freeF_of ok dr hm)) ll
  have e2 : lastR o ((hs ++ [x]) ++ (hs ++ [x]).reverse.drop 1) a = lastR o (hs ++ [x]).reverse (lastR o (hs ++ [x]) a) := by
    rw [List.reverse_append]
    show lastR o ((hs ++ [x]) ++ hs.reverse) a = lastR o (x :: hs.reverse) (lastR o (hs ++ [x]) a)
    have : lastR o ((hs ++ [x]) ++ hs.reverse) a = lastR o hs.reverse (lastR o (hs ++ [x]) a) := by
      unfold lastR
      exact List.foldl_append
    rw [this]
    show _ = lastR o hs.reverse (stepR o (lastR o (hs ++ [x]) a) x)
    rw [again]
  rw [e2, ← side_last ok dr f hx la (last_len la)]
  rfl
end
/-! ### how great such sums are -/
theorem zip_mem {α β : Type} {f : α → β → Rat} {l : List α} {m : List β} {r : Rat} (h : r ∈ List.zipWith f l m) : ∃ x ∈ l, ∃ y ∈ m, r = f x y := by
  obtain ⟨n, hn⟩ := List.mem_iff_getElem?.mp h
  rw [List.getElem?_zipWith] at hn
  cases ea : l[n]? with
  | none => rw [ea] at hn; cases hn
  | some p =>
    cases eb : m[n]? with
    | none => rw [ea, eb] at hn; cases hn
    | some q =>
      rw [ea, eb] at hn
      exact ⟨p, List.mem_of_getElem? ea, q, List.mem_of_getElem? eb, (Option.some.inj hn).symm⟩
theorem sum_fit {D M : Nat} {l : List Rat} (h : ∀ r ∈ l, Wn D M r) (few : l.length ≤ 8) (D0 : 0 < D) (hD : D < 2 ^ 4400) (hM : 8 * M < 2 ^ 4400) : SumOk l := by
  have q := sum_ok (f := fun r : Rat => r) (l := l) h D0 hD (by omega) (Nat.lt_of_le_of_lt (Nat.mul_le_mul_right M few) hM)
  rwa [List.map_id'] at q
theorem two_fit {o : Own} (ok : OwnOk o) (dr : DrawnOk o) {i j : Nat} (hi : i ≤ 8) (hj : j ≤ 8) {a b : List Rat} (ha : StAt o i a) (hb : StAt o j b) :
    Fits4 a ∧ Fits4 b ∧ Fits4 (chargeL o a) ∧ SumOk (prodL (chargeL o a) b) ∧ Fits4 (prodL a b) ∧ SumOk (List.zipWith (fun (e : Str × Int × Int) r => ratF e.2 * r) o.parts (prodL a b)) := by
  obtain ⟨D1, d1, u1, w1⟩ := ha.wn hi
  obtain ⟨D2, d2, u2, w2⟩ := hb.wn hj
  have c1 : 30 * (6 * cP ^ 8) < 2 ^ 4400 := by decide +kernel
  have c2 : 690 * cW ^ 8 * (6 * cP ^ 8) < 2 ^ 4400 := by decide +kernel
  have c3 : 6 * (30 * (6 * cP ^ 8) * (30 * (6 * cP ^ 8))) < 2 ^ 4400 := by decide +kernel
  have c4 : 8 * (30 * (690 * cW ^ 8 * (6 * cP ^ 8) * (690 * cW ^ 8 * (6 * cP ^ 8)))) < 2 ^ 4400 := by decide +kernel
  have c5 : 6 * (30 * (6 * cP ^ 8)) < 2 ^ 4400 := by decide +kernel
  have c6 : 30 * (690 * cW ^ 8 * (6 * cP ^ 8)) < 2 ^ 4400 := by decide +kernel
  generalize 690 * cW ^ 8 * (6 * cP ^ 8) = M at *
  generalize 30 * (6 * cP ^ 8) = DD at *
  have p1 : D1 * D2 ≤ DD * DD := Nat.mul_le_mul u1 u2
  have p0 : 0 < D1 * D2 := Nat.mul_pos (by omega) (by omega)
  have pf := ok.p_few
  have ws : ∀ e ∈ o.parts, Wn 6 30 (ratF e.2) := fun e he => (sizes7_wn _ (dr.sizes e he)).1
  have wc : ∀ r ∈ chargeL o a, Wn (6 * D1) (30 * M) r := fun r hr => by
    obtain ⟨e, he, y, hy, rfl⟩ := zip_mem hr
    exact (ws e he).mul (w1 y hy)
  have wp : ∀ r ∈ prodL a b, Wn (D1 * D2) (M * M) r := fun r hr => by
    obtain ⟨x, hx, y, hy, rfl⟩ := zip_mem hr
    exact (w1 x hx).mul (w2 y hy)
  have a1 : 6 * D1 * D2 = 6 * (D1 * D2) := Nat.mul_assoc ..
  have a2 : 30 * M * M = 30 * (M * M) := Nat.mul_assoc ..
  refine ⟨fun r hr => (w1 r hr).fit (by omega) (by omega) c2, fun r hr => (w2 r hr).fit (by omega) (by omega) c2, fun r hr => (wc r hr).fit (by omega) (by omega) (by omega), ?_, fun r hr => (wp r hr).fit p0 (by omega) (by omega), ?_⟩
  · refine sum_fit (D := 6 * D1 * D2) (M := 30 * M * M) (fun r hr => ?_) ?_ (by omega) (by omega) (by omega)
    · obtain ⟨x, hx, y, hy, rfl⟩ := zip_mem hr
      exact (wc x hx).mul (w2 y hy)
    · unfold prodL chargeL
      rw [List.length_zipWith, List.length_zipWith]
      omega
  · refine sum_fit (D := 6 * (D1 * D2)) (M := 30 * (M * M)) (fun r hr => ?_) ?_ (by omega) (by omega) (by omega)
    · obtain ⟨e, he, y, hy, rfl⟩ := zip_mem hr
      exact (ws e he).mul (wp y hy)
    · rw [List.length_zipWith]
      omega
/-! ### a drawn circuit, its sources at 0 -/
theorem fr_zero : FrOk (0, 1) := ⟨by decide, by decide, by decide +kernel, by decide +kernel⟩
theorem ground_ok {o : Own} (ok : OwnOk o) : OwnOk o.ground where
  s_few := by show (o.sources.map _).length ≤ 4; rw [List.length_map]; exact ok.s_few
  p_some := ok.p_some
  p_few := ok.p_few
  j_some := ok.j_some
  j_few := ok.j_few
  src := fun e he => by
    obtain ⟨z, hz, rfl⟩ := List.mem_map.mp (show e ∈ o.sources.map _ from he)
    exact ⟨(ok.src z hz).1, fr_zero⟩
  prt := ok.prt
  s_once := by
    show ((o.sources.map fun e => (e.1, (0 : Int), (1 : Int))).map (·.1)).Nodup
    rw [List.map_map]
    exact ok.s_once
  p_once := ok.p_once
  j_once := ok.j_once
  joi := ok.joi
theorem ground_flat (o : Own) : Flat o.ground := by
  intro e he
  obtain ⟨z, _, rfl⟩ := List.mem_map.mp he
  show ratF (0, 1) = 0
  decide +kernel
theorem ground_drawn {o : Own} (dr : DrawnOk o) : DrawnOk o.ground := by
  have names : o.ground.sources.map (·.1) = o.sources.map (·.1) := by
    show (o.sources.map fun e => (e.1, ((0 : Int), (1 : Int)))).map (·.1) = _
    rw [List.map_map]
    rfl
  refine ⟨dr.sizes, fun e he => ?_, fun j hj => ?_⟩
  · obtain ⟨z, _, rfl⟩ := List.mem_map.mp he
    exact ⟨1, 9, .inl rfl, by decide, by decide, by show ((0 : Int), (1 : Int)) = ratio (-9 * 1 + 9) 1; decide⟩
  · rw [names]
    exact dr.ends j hj
end Ct

namespace Ct
open PySem PySem.Spec PyProof.Rows L2 TL RZ
abbrev s_with_lines : Stmt := top 36
abbrev N_with_lines : List Str := ["circuit", "place", "new", "lines"]
theorem sc_with_lines : FnScope N_with_lines ["circuit", "place", "new"] (defScope s_with_lines) := ⟨rfl, rfl, rfl, by decide +kernel, rfl, by decide +kernel, by decide +kernel⟩
abbrev s_check_part : Stmt := top 26
abbrev N_check_part : List Str := ["circuit", "value"]
theorem sc_check_part : FnScope N_check_part ["circuit", "value"] (defScope s_check_part) := ⟨rfl, rfl, rfl, by decide +kernel, rfl, by decide +kernel, by decide +kernel⟩
abbrev s_check_source : Stmt := top 27
abbrev N_check_source : List Str := ["circuit", "value"]
theorem sc_check_source : FnScope N_check_source ["circuit", "value"] (defScope s_check_source) := ⟨rfl, rfl, rfl, by decide +kernel, rfl, by decide +kernel, by decide +kernel⟩
def spWithLines (K : PySem.W.Frag) (C : Addr) : Sp := fun vs H Q _ => ∃ (v : V) (o o' : Own) (n : Nat) (b : Addr) (news : List Str), vs = [v, .int n, .ref b] ∧ CircN K C H v o ∧ OwnOk o ∧ OwnOk o' ∧ H b = some (.lst (txts news)) ∧
  n ≤ (rowsOf o).length ∧ news.length ≤ 100 ∧ (rowsOf o).take n ++ news ++ (rowsOf o).drop (n + news.length) = rowsOf o' ∧ ∀ v' H', Same H H' → CircN K C H' v' o' → Q v' H'
def spCheckPart (K : PySem.W.Frag) (C : Addr) : Sp := fun vs H Q _ => ∃ (v : V) (o : Own) (x : Str), vs = [v, .str x] ∧ CircN K C H v o ∧ OwnOk o ∧ x ∈ o.parts.map (·.1) ∧ ∀ H', Same H H' → Q .non H'
def spCheckSource (K : PySem.W.Frag) (C : Addr) : Sp := fun vs H Q _ => ∃ (v : V) (o : Own) (x : Str), vs = [v, .str x] ∧ CircN K C H v o ∧ OwnOk o ∧ x ∈ o.sources.map (·.1) ∧ ∀ H', Same H H' → Q .non H'
/-- numbers of few digits -/
def Few18 (f : Int × Int) : Prop := f.1.natAbs < 10 ^ 18 ∧ f.2.natAbs < 10 ^ 18
def spWithSize (K : PySem.W.Frag) (C : Addr) : Sp := fun vs H Q _ => ∃ (v u : V) (o : Own) (x : Str) (f : Int × Int), vs = [v, .str x, u] ∧ CircN K C H v o ∧ OwnOk o ∧ x ∈ o.parts.map (·.1) ∧ FrAt K H u f ∧ FrOk f ∧ Few18 f ∧ 0 < f.1 ∧
  ∀ v' H', Same H H' → CircN K C H' v' (o.setPart x f) → Q v' H'
def spWithSource (K : PySem.W.Frag) (C : Addr) : Sp := fun vs H Q _ => ∃ (v u : V) (o : Own) (x : Str) (f : Int × Int), vs = [v, .str x, u] ∧ CircN K C H v o ∧ OwnOk o ∧ x ∈ o.sources.map (·.1) ∧ FrAt K H u f ∧ FrOk f ∧ Few18 f ∧
  ∀ v' H', Same H H' → CircN K C H' v' (o.setSource x f) → Q v' H'
def spGrounded (K : PySem.W.Frag) (C : Addr) : Sp := fun vs H Q _ => ∃ (v : V) (o : Own), vs = [v] ∧ CircN K C H v o ∧ OwnOk o ∧ ∀ v' H', Same H H' → CircN K C H' v' o.ground → Q v' H'
/-! ### the edits keep what the document asks -/
theorem set_names (x : Str) (f : Int × Int) (l : List (Str × Int × Int)) : (setFr x f l).map (·.1) = l.map (·.1) := by
  unfold setFr
  rw [List.map_map]
  rfl
theorem setPart_ok {o : Own} {x : Str} {f : Int × Int} (ok : OwnOk o) (hf : FrOk f) (h0 : 0 < f.1) : OwnOk (o.setPart x f) where
  s_few := ok.s_few
  p_some := by show 1 ≤ (setFr x f o.parts).length; unfold setFr; rw [List.length_map]; exact ok.p_some
  p_few := by show (setFr x f o.parts).length ≤ 8; unfold setFr; rw [List.length_map]; exact ok.p_few
  j_some := ok.j_some
  j_few := ok.j_few
  src := ok.src
  prt := fun e he => by
    obtain ⟨z, hz, rfl⟩ := List.mem_map.mp (show e ∈ o.parts.map _ from he)
    have q := ok.prt z hz
    refine ⟨q.1, ?_⟩
    show FrOk (if z.1 = x then f else z.2) ∧ 0 < (if z.1 = x then f else z.2).1
    split
    · exact ⟨hf, h0⟩
    · exact q.2
  s_once := ok.s_once
  p_once := by show ((setFr x f o.parts).map (·.1)).Nodup; rw [set_names]; exact ok.p_once
  j_once := ok.j_once
  joi := fun j hj => by show JoiOk ((setFr x f o.parts).map (·.1)) j; rw [set_names]; exact ok.joi j hj
theorem setSource_ok {o : Own} {x : Str} {f : Int × Int} (ok : OwnOk o) (hf : FrOk f) : OwnOk (o.setSource x f) where
  s_few := by show (setFr x f o.sources).length ≤ 4; unfold setFr; rw [List.length_map]; exact ok.s_few
  p_some := ok.p_some
  p_few := ok.p_few
  j_some := ok.j_some
  j_few := ok.j_few
  src := fun e he => by
    obtain ⟨z, hz, rfl⟩ := List.mem_map.mp (show e ∈ o.sources.map _ from he)
    have q := ok.src z hz
    refine ⟨q.1, ?_⟩
    show FrOk (if z.1 = x then f else z.2)
    split
    · exact hf
    · exact q.2
  prt := ok.prt
  s_once := by show ((setFr x f o.sources).map (·.1)).Nodup; rw [set_names]; exact ok.s_once
  p_once := ok.p_once
  j_once := ok.j_once
  joi := ok.joi
/-! ### one line exchanged -/
theorem name_at {l : List (Str × Int × Int)} {x : Str} (h : x ∈ l.map (·.1)) : ∃ (j : Nat) (e : Str × Int × Int), l[j]? = some e ∧ e.1 = x := by
  obtain ⟨e, he, rfl⟩ := List.mem_map.mp h
  obtain ⟨j, hj⟩ := List.getElem?_of_mem he
  exact ⟨j, e, hj, rfl⟩
theorem set_one {x : Str} {f : Int × Int} {β : Type} (g : Str × Int × Int → β) : ∀ {l : List (Str × Int × Int)} {j : Nat} {e : Str × Int × Int}, (l.map (·.1)).Nodup → l[j]? = some e → e.1 = x →
    (setFr x f l).map g = (l.map g).take j ++ g (x, f) :: (l.map g).drop (j + 1)
  | [], _, _, _, h, _ => by simp at h
  | z :: r, 0, e, nd, h, hx => by
    simp at h
    subst h
    have hr : setFr x f r = r := by
      unfold setFr
      refine List.map_congr_left (g := id) (fun y hy => ?_) |>.trans (List.map_id r)
      have hn : y.1 ≠ x := fun q => (List.nodup_cons.mp nd).1 (by
        show z.1 ∈ r.map (·.1)
        rw [hx, ← q]
        exact List.mem_map_of_mem hy)
      show (y.1, if y.1 = x then f else y.2) = y
      rw [if_neg hn]
    show g (z.1, if z.1 = x then f else z.2) :: (setFr x f r).map g = _
    rw [if_pos hx, hr, hx]
    rfl
  | z :: r, j + 1, e, nd, h, hx => by
    have hj : r[j]? = some e := by simpa using h
    have hn : z.1 ≠ x := fun q => (List.nodup_cons.mp nd).1 (by
      show z.1 ∈ r.map (·.1)
      rw [q, ← hx]
      exact List.mem_map_of_mem (List.mem_of_getElem? hj))
    show g (z.1, if z.1 = x then f else z.2) :: (setFr x f r).map g = _
    rw [if_neg hn, set_one g (List.nodup_cons.mp nd).2 hj hx]
    rfl
theorem mid_take {α : Type} (A B R : List α) (j : Nat) (hj : j < B.length) (y : α) : (A ++ (B ++ R)).take (A.length + j) ++ [y] ++ (A ++ (B ++ R)).drop (A.length + j + 1) = A ++ ((B.take j ++ y :: B.drop (j + 1)) ++ R) := by
  rw [List.take_append, List.take_of_length_le (by omega), show A.length + j - A.length = j by omega, List.take_append_of_le_length (by omega), show A.length + j + 1 = A.length + (j + 1) by omega, List.drop_append, List.drop_of_length_le (by omega), show A.length + (j + 1) - A.length = j + 1 by omega, List.drop_append_of_le_length (by omega)]
  simp
theorem rows_part {o : Own} {x : Str} {f : Int × Int} {j : Nat} {e : Str × Int × Int} (ok : OwnOk o) (h : o.parts[j]? = some e) (hx : e.1 = x) :
    (rowsOf o).take (1 + o.sources.length + j) ++ [entLine "part " (x, f)] ++ (rowsOf o).drop (1 + o.sources.length + j + 1) = rowsOf (o.setPart x f) := by
  have hj := (List.getElem?_eq_some_iff.mp h).1
  have q := mid_take (("circuit" : Str) :: o.sources.map (entLine "source ")) (o.parts.map (entLine "part ")) (o.joinings.flatMap joiRows) j (by rw [List.length_map]; exact hj) (entLine "part " (x, f))
  rw [← set_one (entLine "part ") ok.p_once h hx] at q
  have el : (("circuit" : Str) :: o.sources.map (entLine "source ")).length = 1 + o.sources.length := by rw [List.length_cons, List.length_map]; omega
  rw [el] at q
  have e1 : rowsOf o = (("circuit" : Str) :: o.sources.map (entLine "source ")) ++ (o.parts.map (entLine "part ") ++ o.joinings.flatMap joiRows) := by
    unfold rowsOf
    rw [List.append_assoc]
    rfl
  have e2 : rowsOf (o.setPart x f) = (("circuit" : Str) :: o.sources.map (entLine "source ")) ++ ((setFr x f o.parts).map (entLine "part ") ++ o.joinings.flatMap joiRows) := by
    unfold rowsOf
    rw [List.append_assoc]
    rfl
  rw [e1, e2]
  exact q
theorem rows_source {o : Own} {x : Str} {f : Int × Int} {j : Nat} {e : Str × Int × Int} (ok : OwnOk o) (h : o.sources[j]? = some e) (hx : e.1 = x) :
    (rowsOf o).take (1 + j) ++ [entLine "source " (x, f)] ++ (rowsOf o).drop (1 + j + 1) = rowsOf (o.setSource x f) := by
  have hj := (List.getElem?_eq_some_iff.mp h).1
  have q := mid_take [("circuit" : Str)] (o.sources.map (entLine "source ")) (o.parts.map (entLine "part ") ++ o.joinings.flatMap joiRows) j (by rw [List.length_map]; exact hj) (entLine "source " (x, f))
  rw [← set_one (entLine "source ") ok.s_once h hx] at q
  have e1 : rowsOf o = [("circuit" : Str)] ++ (o.sources.map (entLine "source ") ++ (o.parts.map (entLine "part ") ++ o.joinings.flatMap joiRows)) := by
    unfold rowsOf
    rw [List.append_assoc]
    rfl
  have e2 : rowsOf (o.setSource x f) = [("circuit" : Str)] ++ ((setFr x f o.sources).map (entLine "source ") ++ (o.parts.map (entLine "part ") ++ o.joinings.flatMap joiRows)) := by
    unfold rowsOf
    rw [List.append_assoc]
    rfl
  rw [e1, e2]
  exact q
theorem rows_ground (o : Own) : (rowsOf o).take 1 ++ (o.sources.map (·.1)).map (fun x => entLine "source " (x, 0, 1)) ++ (rowsOf o).drop (1 + ((o.sources.map (·.1)).map fun x => entLine "source " (x, 0, 1)).length) = rowsOf o.ground := by
  rw [List.length_map, List.length_map]
  have e1 : rowsOf o = [("circuit" : Str)] ++ (o.sources.map (entLine "source ") ++ (o.parts.map (entLine "part ") ++ o.joinings.flatMap joiRows)) := by
    unfold rowsOf
    rw [List.append_assoc]
    rfl
  have e2 : rowsOf o.ground = [("circuit" : Str)] ++ ((o.sources.map (·.1)).map (fun x => entLine "source " (x, 0, 1)) ++ (o.parts.map (entLine "part ") ++ o.joinings.flatMap joiRows)) := by
    unfold rowsOf Own.ground
    rw [List.append_assoc, List.map_map, List.map_map]
    rfl
  rw [e1, e2, List.drop_append, List.drop_of_length_le (by simp), show 1 + o.sources.length - [("circuit" : Str)].length = o.sources.length by simp, List.drop_append, List.drop_of_length_le (by rw [List.length_map]; omega)]
  rw [List.length_map]
  simp
section
variable {P : Program} {w : World} {K : PySem.W.Frag} {mg : Str → Option Value} {base : Heap} {C : Addr}
theorem cut_lo {xs : List Str} {n : Nat} (h : n ≤ xs.length) : cutV (txts xs) none (some (n : Int)) = txts (xs.take n) := by
  unfold cutV txts
  rw [HT.sIx_nat]
  show ((xs.map V.str).drop 0).take (min n (xs.map V.str).length - 0) = _
  rw [List.drop_zero, List.length_map, Nat.min_eq_left h, Nat.sub_zero, List.map_take]
theorem cut_hi {xs : List Str} {n : Nat} : cutV (txts xs) (some (n : Int)) none = txts (xs.drop n) := by
  unfold cutV txts
  rw [HT.sIx_nat]
  show ((xs.map V.str).drop (min n (xs.map V.str).length)).take ((xs.map V.str).length - min n (xs.map V.str).length) = _
  rw [List.take_of_length_le (by rw [List.length_drop]; omega), List.map_drop]
  by_cases h : n ≤ (xs.map V.str).length
  · rw [Nat.min_eq_left h]
  · rw [Nat.min_eq_right (by omega), List.drop_of_length_le (Nat.le_refl _), List.drop_of_length_le (by omega)]
theorem CircN.txt {H : Hp} {v : V} {o : Own} (h : CircN K C H v o) : ∃ c dx fs, v = .ref c ∧ H c = some (.ins C dx fs) ∧ fs.lookup ("text" : Str) = some (.str (textOf o)) := by
  obtain ⟨c, dx, fs, _, _, _, _, _, _, a, b, d, _⟩ := h
  exact ⟨c, dx, fs, a, b, d⟩
theorem k_with_lines (D : Lies K mg "_with_lines" s_with_lines) (T : Plain mg) (Z : ClassT K mg C) (G_Circuit : Makes P w K mg base 7 "Circuit" C ["self", "text"] (spInitN K C)) : Keeps P w K mg base 9 "_with_lines" ["circuit", "place", "new"] (spWithLines K C) := by
  refine D.keeps sc_with_lines (fun _ _ _ _ _ _ us hl => match us, hl with | [_, _, _], _ => rfl) (fun vs H Q E h => ?_) (fun f cdv A outer s0 H vs Q E hr h => ?_)
  · obtain ⟨v, o, o', n, b, news, rfl, _⟩ := h
    rfl
  · obtain ⟨v, o, o', n, b, news, rfl, hc, ok, ok', hb, hn, hl, hrows, k⟩ := h
    obtain ⟨c, dx, fs, rfl, hc1, hc2⟩ := hc.txt
    have few := rows_few ok
    refine ⟨_, (pss_cons (ps_set (i := 3) sc_with_lines.nd rfl (Or.inl rfl) (pe_split (pe_fld (pv 0) rfl) pe_str))
      (pss_one (ps_ret (pe_new G_Circuit (hr.mono (by decide)) rfl (pa_cons (pe_joinK (K := K) rfl pe_str (pe_op op_cat (pe_op op_cat (pe_slice sl_list (pv 3) po_none (po_some (pv 1))) (pv 2)) (pe_slice sl_list (pv 3) (po_some (pe_op op_add (pv 1) (pe_callB call_len_seq (by rfl) T.n_len b_len (pa_cons (pv 2) pa_nil)))) po_none))) pa_nil))))), ?_⟩
    refine ⟨_, rfl, c, C, dx, fs, _, rfl, hc1, Z.cl, Z.nT, hc2, ⟨_, rfl⟩, _, _, rfl, rfl, by rw [nl_len]; rfl, text_len ok, fun q nq => ?_⟩
    rw [text_split ok]
    have s1 := same_upd (o := .lst ((rowsOf o).map V.str)) nq
    have q1 : (upd H q (.lst ((rowsOf o).map V.str))) q = some (.lst (txts (rowsOf o))) := upd_same
    generalize upd H q (.lst ((rowsOf o).map V.str)) = H1 at *
    refine ⟨⟨_, rfl⟩, _, rfl, _, rfl, _, rfl, q, _, rfl, SqL.of q1, fun l1 n1 => ?_⟩
    rw [cut_lo hn]
    have s2 := same_upd (o := .lst (txts ((rowsOf o).take n))) n1
    have q2 : (upd H1 l1 (.lst (txts ((rowsOf o).take n)))) l1 = some (.lst (txts ((rowsOf o).take n))) := upd_same
    generalize upd H1 l1 (.lst (txts ((rowsOf o).take n))) = H2 at *
    have b2 := s2 _ _ (s1 _ _ hb)
    refine ⟨_, rfl, l1, b, _, _, rfl, rfl, q2, b2, ?_, fun l2 n2 => ?_⟩
    · unfold txts
      rw [List.length_map, List.length_map, List.length_take]
      show _ ≤ 16777216
      omega
    have e3 : txts ((rowsOf o).take n) ++ txts news = txts ((rowsOf o).take n ++ news) := by
      unfold txts
      rw [List.map_append]
    rw [e3]
    have s3 := same_upd (o := .lst (txts ((rowsOf o).take n ++ news))) n2
    have q3 : (upd H2 l2 (.lst (txts ((rowsOf o).take n ++ news)))) l2 = some (.lst (txts ((rowsOf o).take n ++ news))) := upd_same
    generalize upd H2 l2 (.lst (txts ((rowsOf o).take n ++ news))) = H3 at *
    refine ⟨_, rfl, _, rfl, _, rfl, b, _, rfl, .inl (SqL.of (s3 _ _ b2)), _, _, rfl, rfl, _, rfl, q, _, rfl, SqL.of (s3 _ _ (s2 _ _ q1)), fun l3 n3 => ?_⟩
    have e4 : ((n : Int) + (((txts news).length : Nat) : Int)) = ((n + news.length : Nat) : Int) := by
      unfold txts
      rw [List.length_map]
      omega
    rw [e4, cut_hi]
    have s4 := same_upd (o := .lst (txts ((rowsOf o).drop (n + news.length)))) n3
    have q4 : (upd H3 l3 (.lst (txts ((rowsOf o).drop (n + news.length))))) l3 = some (.lst (txts ((rowsOf o).drop (n + news.length)))) := upd_same
    generalize upd H3 l3 (.lst (txts ((rowsOf o).drop (n + news.length)))) = H4 at *
    refine ⟨l2, l3, _, _, rfl, rfl, s4 _ _ q3, q4, ?_, fun l4 n4 => ?_⟩
    · unfold txts
      rw [List.length_map, List.length_map, List.length_append, List.length_take, List.length_drop]
      show _ ≤ 16777216
      omega
    have e5 : txts ((rowsOf o).take n ++ news) ++ txts ((rowsOf o).drop (n + news.length)) = txts (rowsOf o') := by
      unfold txts
      rw [← List.map_append, hrows]
    rw [e5]
    have s5 := same_upd (o := .lst (txts (rowsOf o'))) n4
    have sall := s1.trans (s2.trans (s3.trans (s4.trans s5)))
    refine ⟨_, l4, rowsOf o', rfl, rfl, .inl (SqL.of upd_same), rows_join ok', fun x dx2 nx ndx nxd => ?_⟩
    have s6 : Same (upd H4 l4 (.lst (txts (rowsOf o')))) (upd (upd (upd H4 l4 (.lst (txts (rowsOf o')))) dx2 (.own x)) x (.ins C dx2 [])) := fun a z e => by
      rw [upd_ne (ne_of_none e nx), upd_ne (ne_of_none e ndx)]
      exact e
    exact ⟨_, x, dx2, o', rfl, s6, nx, upd_same, ok', fun H' s' hc' => ⟨rfl, k _ H' (sall.trans s') hc'⟩⟩
theorem k_check_part (D : Lies K mg "check_part" s_check_part) (T : Plain mg) (Z : ClassT K mg C) (G_names_of : Keeps P w K mg base 1 "names_of" ["told"] (spNamesT K)) : Keeps P w K mg base 2 "check_part" ["circuit", "value"] (spCheckPart K C) := by
  refine D.keeps sc_check_part (fun _ _ _ _ _ _ us hl => match us, hl with | [_, _], _ => rfl) (fun vs H Q E h => ?_) (fun f cdv A outer s0 H vs Q E hr h => ?_)
  · obtain ⟨v, o, x, rfl, _⟩ := h
    rfl
  · obtain ⟨v, o, x, rfl, hc, ok, hx, k⟩ := h
    obtain ⟨c, dx, fs, ts, us, rfl, hc1, hc2, hq, hp⟩ := hc.prt
    refine ⟨_, (pss_one (ps_if (pt_cmpR op_notIn_seq (pv 1) (pe_go G_names_of (hr.mono (by decide)) rfl (pa_cons (pe_fld (pv 0) rfl) pa_nil)) (by rfl))
        (pss_one (ps_never))
        pss_nil)), ?_⟩
    refine ⟨_, rfl, _, rfl, c, C, dx, fs, _, rfl, hc1, Z.cl, Z.nP, hc2, ts, us, o.parts.map (·.1), rfl, hq.sq, heads hp fun v c h => HeadAt.ent h, by rw [List.length_map]; have := ok.p_few; omega, fun l H1 s1 _ hl => ?_⟩
    refine ⟨l, _, rfl, .inl (SqL.of hl), rfl, strs_flat _, false, congrArg V.bl ?_, iteF (k H1 s1)⟩
    rw [if_pos rfl, in_strs, decide_eq_true hx]
    rfl
theorem k_check_source (D : Lies K mg "check_source" s_check_source) (T : Plain mg) (Z : ClassT K mg C) (G_names_of : Keeps P w K mg base 1 "names_of" ["told"] (spNamesT K)) : Keeps P w K mg base 2 "check_source" ["circuit", "value"] (spCheckSource K C) := by
  refine D.keeps sc_check_source (fun _ _ _ _ _ _ us hl => match us, hl with | [_, _], _ => rfl) (fun vs H Q E h => ?_) (fun f cdv A outer s0 H vs Q E hr h => ?_)
  · obtain ⟨v, o, x, rfl, _⟩ := h
    rfl
  · obtain ⟨v, o, x, rfl, hc, ok, hx, k⟩ := h
    obtain ⟨c, dx, fs, ts, us, rfl, hc1, hc2, hq, hp⟩ := hc.src
    refine ⟨_, (pss_one (ps_if (pt_cmpR op_notIn_seq (pv 1) (pe_go G_names_of (hr.mono (by decide)) rfl (pa_cons (pe_fld (pv 0) rfl) pa_nil)) (by rfl))
        (pss_one (ps_never))
        pss_nil)), ?_⟩
    refine ⟨_, rfl, _, rfl, c, C, dx, fs, _, rfl, hc1, Z.cl, Z.nS, hc2, ts, us, o.sources.map (·.1), rfl, hq, heads hp fun v c h => HeadAt.ent h, by rw [List.length_map]; have := ok.s_few; omega, fun l H1 s1 _ hl => ?_⟩
    refine ⟨l, _, rfl, .inl (SqL.of hl), rfl, strs_flat _, false, congrArg V.bl ?_, iteF (k H1 s1)⟩
    rw [if_pos rfl, in_strs, decide_eq_true hx]
    rfl
end
theorem wsrc_len : ("source " : Str).length = 7 := src_len
theorem zero_len : (" 0" : Str).length = 2 := by decide +kernel
theorem prt_line (x : Str) (f : Int × Int) : Str.empty ++ "part " ++ x ++ " " ++ fracText f = entLine "part " (x, f) := by
  rw [emp_app]
  rfl
theorem src_line (x : Str) (f : Int × Int) : Str.empty ++ "source " ++ x ++ " " ++ fracText f = entLine "source " (x, f) := by
  rw [emp_app]
  rfl
theorem src_zero (x : Str) : Str.empty ++ "source " ++ x ++ " 0" = entLine "source " (x, 0, 1) := by
  rw [emp_app]
  unfold entLine
  have e : fracText (0, 1) = "0" := by
    show numText 0 = "0"
    exact ext_tl (by decide +kernel)
  show _ = "source " ++ x ++ " " ++ fracText (0, 1)
  rw [e]
  refine ext_tl ?_
  simp only [tl_append, List.append_assoc]
  rfl
/-- where the name stands, first and only there -/
theorem first_nm {l : List (Str × Int × Int)} {x : Str} {j : Nat} {e : Str × Int × Int} (nd : (l.map (·.1)).Nodup) (h : l[j]? = some e) (hx : e.1 = x) :
    ((l.map (·.1)).map V.str)[j]? = some (V.str x) ∧ ∀ (m : Nat) (z : V), m < j → ((l.map (·.1)).map V.str)[m]? = some z → eqV z (V.str x) = false := by
  have hj : (l.map (·.1))[j]? = some x := by rw [List.getElem?_map, h, ← hx]; rfl
  refine ⟨by rw [List.getElem?_map, hj]; rfl, fun m z hm hz => ?_⟩
  rw [List.getElem?_map] at hz
  cases e2 : (l.map (·.1))[m]? with
  | none => rw [e2] at hz; cases hz
  | some y =>
    rw [e2] at hz
    obtain rfl := Option.some.inj hz
    show (y == x) = false
    refine beq_eq_false_iff_ne.mpr fun q => ?_
    subst q
    have h1 := (List.getElem?_eq_some_iff.mp e2)
    have h2 := (List.getElem?_eq_some_iff.mp hj)
    obtain ⟨a1, b1⟩ := h1
    obtain ⟨a2, b2⟩ := h2
    exact (List.pairwise_iff_getElem.mp nd) m j a1 a2 hm (b1.trans b2.symm)
abbrev s_grounded : Stmt := top 35
abbrev N_grounded : List Str := ["circuit", "source"]
theorem sc_grounded : FnScope N_grounded ["circuit"] (defScope s_grounded) := ⟨rfl, rfl, rfl, by decide +kernel, rfl, by decide +kernel, by decide +kernel⟩
theorem into_argC {v : V} {t : TA} {σ : L2.St} {H : Hp} {Q : List V → Hp → Prop} (h : t σ H fun us H1 => Q (v :: us) H1) : tCons (tC v) t σ H Q := h
section
variable {P : Program} {w : World} {K : PySem.W.Frag} {mg : Str → Option Value} {base : Heap} {C : Addr}
theorem k_grounded (D : Lies K mg "grounded" s_grounded) (T : Plain mg) (Z : ClassT K mg C) (G_names_of : Keeps P w K mg base 1 "names_of" ["told"] (spNamesT K)) (G_with_lines : Keeps P w K mg base 9 "_with_lines" ["circuit", "place", "new"] (spWithLines K C)) :
    Keeps P w K mg base 10 "grounded" ["circuit"] (spGrounded K C) := by
  refine D.keeps sc_grounded (fun _ _ _ _ _ _ us hl => match us, hl with | [_], _ => rfl) (fun vs H Q E h => ?_) (fun f cdv A outer s0 H vs Q E hr h => ?_)
  · obtain ⟨v, o, rfl, _⟩ := h
    rfl
  · obtain ⟨v, o, rfl, hc, ok, k⟩ := h
    obtain ⟨c, dx, fs, ts, us, rfl, a1, a2, a3, a4⟩ := hc.src
    refine ⟨_, (pss_one (ps_ret (pe_go G_with_lines (hr.mono (by decide)) rfl (pa_cons (pv 0) (pa_cons pe_int (pa_cons (pe_lc (own := [("source", 1)]) (g := gName 1) (tt := tYes) rfl sc_grounded.nd (pi_list (pe_go G_names_of (hr.mono (by decide)) rfl (pa_cons (pe_fld (pv 0) rfl) pa_nil))) (blkOk_by (N := N_grounded) (sc := defScope s_grounded) (by decide +kernel)) (fun _ _ _ _ _ => pg_name (i := 1) sc_grounded.nd rfl (Or.inl rfl)) (fun _ _ _ _ _ => pts_nil) (fun _ _ _ _ _ => by exact (pe_joined (PJ.cons pe_str (PJ.cons (pe_fmt (pv 1)) (PJ.cons pe_str PJ.nil)))))) pa_nil)))))), ?_⟩
    refine ⟨_, rfl, into_argC (into_args1 (comp_call (es := o.sources.map (·.1)) (f := fun x : Str => entLine "source " (x, 0, 1)) (R' := fun _ => StrV) (fun R r => ⟨_, rfl, c, C, dx, fs, _, rfl, a1, Z.cl, Z.nS, a2, ts, us, o.sources.map (·.1), rfl, a3, heads a4 fun v c h => HeadAt.ent h, by rw [List.length_map]; have := ok.s_few; omega, fun l H1 s1 nl hl => r l H1 s1 nl hl⟩)
      (by rw [List.length_map]; have := ok.s_few; omega) (fun _ _ _ h => h) (fun _ _ _ _ h => h) (fun x y H1 W hx hy s1 hw => ?_) (fun H1 D1 acc nD s1 hD hp => ?_)))⟩
    · obtain rfl : x = .str y := hx
      obtain ⟨e, he, rfl⟩ := List.mem_map.mp hy
      have lx := (ok.src e he).1.2.1
      have z1 : (Str.empty ++ ("source " : Str)).length = 7 := by rw [emp_app]; exact src_len
      refine ⟨rfl, _, rfl, ?_, _, rfl, .inl ⟨_, rfl, Nat.le_trans lx (by decide), _, rfl, ?_, _, rfl, ?_, ?_⟩⟩
      · show _ ≤ 16777216
        omega
      · rw [len_app]
        show _ ≤ 16777216
        omega
      · rw [len_app, len_app, zero_len]
        show _ ≤ 16777216
        omega
      · exact hw _ _ (Same.refl _) (congrArg V.str (src_zero e.1))
    · have ea := strs_are hp
      subst ea
      refine ⟨.ref c, o, o.ground, 1, D1, (o.sources.map fun e : Str × Int × Int => e.1).map fun x : Str => entLine "source " (x, (0 : Int), (1 : Int)), rfl, hc.same s1, ok, ground_ok ok, hD, ?_, ?_, rows_ground o, fun v' H' s' hc' => k v' H' (s1.trans s') hc'⟩
      · unfold rowsOf
        rw [List.length_cons]
        omega
      · rw [List.length_map, List.length_map]
        have := ok.s_few
        omega
end
end Ct

/-! sep.join(reversed(xs)), xs a list of texts. -/
namespace JR
open PySem PySem.Spec PyProof.Rows L2 RT
section
variable {prog : Program} {w : World} {A : Around} {E : Value → Shared → Prop} {s : Shared}
theorem join_rev {it l : Addr} {items : Array Value} {x : Str} {t : Tok} {Q : Value → Shared → Prop} (hh : A.handled = none) (hit : s.heap.IsRevIter it l ((items.size : Int) - 1)) (hl : s.heap.IsList l items) (hne : l ≠ it) (hn : items.size ≤ sizeLine) (hstr : ∀ v ∈ items.toList, ∃ y u, v = Value.str y u)
    (hq : ∀ (h' : Heap) (tk : Nat) (acc : Array Value) (ps : List (Str × Tok)), (∀ b o, b ≠ it → s.heap.get? b = some o → h'.get? b = some o) → ItemsOf (fun i v => items[items.size - 1 - i]? = some v) acc items.size → strValues ps = acc.toList →
      JoinOk x (ps.map (·.1)) = true ∧ ∀ t' k, Q (.str (Txt.join x (ps.map (·.1))) t') { s with heap := h', toks := k }) :
    wpAny (model prog w) A (call (.builtin "str.join") [.str x t, .ref it]) Q E s := by
  refine wpAny_call (codeAny_call_builtin F.slot_str_join.plain F.entry_str_join (F.slot_str_join.check _ _ _ _ _ _ _ _ (typeIs_str _ _ _) (F.args_str_join_2 _ _) ?_))
  rw [join_tree_other]
  have hT : s.TypeIs (.ref it) "list_reverseiterator" := hit.typeIs
  refine wpAny_bind (wpAny_typeOf hT ?_)
  show wpAny _ A.in1 ((pyIter (.ref it)).tryCatch _ >>= fun it => collect it >>= fun items => joinTail x items) _ _ s
  refine wpAny_bind (wpAny_tryCatch (wpAny_pyIter_revIter hit ?_))
  refine wpAny_bind (collect_rev (A := A.in1) hh hit hl hne hn fun h' tk acc hk hacc => ?_)
  obtain ⟨ps, hps⟩ := exists_strValues acc.toList fun v hv => by
    obtain ⟨j, hj, rfl⟩ := Array.mem_iff_getElem.mp (Array.mem_toList_iff.mp hv)
    have e := hacc.2 j _ (Array.getElem?_eq_getElem hj)
    exact hstr _ (Array.mem_toList_iff.mpr (Array.mem_of_getElem? e))
  rw [← hps]
  obtain ⟨hok, hpost⟩ := hq h' tk acc ps hk hacc hps
  unfold JoinOk at hok
  rw [Bool.not_eq_true'] at hok
  have g : Gives (joinTail x (strValues ps)) (joinMade x ps) := by
    have g0 := gives_joinTail x ps hok
    cases ps with
    | nil => exact g0
    | cons p r => cases r with
      | nil => exact g0
      | cons q r' => exact g0
  exact g prog w A (wants Q E) _ (post_join ps ⟨joinFit_length hok, hpost⟩)
end
section
variable {X : Cx} {o e : Expr} {to te : TE}
def tJoinRev (K : PySem.W.Frag) (to te : TE) : TE := fun σ H Q => to σ H fun x H1 => ∃ a : Str, x = .str a ∧ te σ H1 fun y H2 => ∃ (p : Addr) (ys : List Str), y = .ref p ∧ SqL K H2 p (ys.map V.str) ∧ (ys.map (·.length)).sum + ys.length * a.length ≤ 16777216 ∧ Q (.str (Txt.join a ys.reverse)) H2
theorem rev_sum (ys : List Str) : (ys.reverse.map (·.length)).sum = (ys.map (·.length)).sum := by
  rw [List.map_reverse, List.sum_reverse]
theorem pe_joinRev {apos p2 pos pos2 : Pos} (hc : X.calm = true) (ho : PE X o to) (hg2 : Gl X "reversed") (hm2 : X.mg "reversed" = none) (he : PE X e te)
    (hs2 : starEach [e] X.env = (false, eval e X.env) :: starEach [] X.env := by rfl) (hs : starEach [.Call (.Name "reversed" p2) [e] [] pos2] X.env = [(false, eval (.Call (.Name "reversed" p2) [e] [] pos2) X.env)] := by rfl)
    (hbase : attributeBase o "join" X.env (eval o X.env) = eval o X.env := by rfl) (hline : (apos.endLine == pos.line) = true := by rfl) :
    PE X (.Call (.Attribute o "join" apos) [.Call (.Name "reversed" p2) [e] [] pos2] [] pos) (tJoinRev X.K to te) := by
  refine ⟨fun pins s σ H Q I h => ?_⟩
  refine PySem.Call_method1 hbase hs hline (thn (ho.run pins s σ H _ I h) fun v s1 ⟨x, H1, I1, r1, q1⟩ => ?_)
  obtain ⟨a, rfl, q1⟩ := q1
  obtain ⟨t, rfl⟩ := _root_.id r1
  refine ⟨"str", _, F.plainAttrs_str, F.slot_str_join, F.type_str_join, typeIs_str _ _ _, (fun _ e => nomatch e), Calls.callWith_builtin rfl (Calls.evalArgs_plain (Calls.spliced_cons ?_))⟩
  refine Call_ (ld_blt I1 hg2 hm2 PyProof.Rows.boot_reversed (PyProof.Rows.callWith_type1 (args_cons (thn (he.run pins s1 σ H1 _ I1 q1) fun u s2 ⟨y, H2, I2, r2, q2⟩ => args_nil ?_) hs2) hs2 rfl))
  obtain ⟨p, ys, ev, hq, few, q⟩ := q2
  subst ev
  obtain rfl : u = Value.ref p := r2
  obtain ⟨its, rv, p', hz⟩ := I2.list hq
  refine call_reversed_list p'.isList (Calls.spliced_nil ?_)
  have k0 : ∀ b o, s2.heap.get? b = some o → (s2.heap.push (revObj p ((its.toArray.size : Int) - 1))).get? b = some o := fun b o e => Heap.get?_push_of_some _ e
  have I3 : Inv X pins σ H2 { s2 with heap := s2.heap.push (revObj p ((its.toArray.size : Int) - 1)) } := I2.kept (t' := s2.toks) k0
  obtain ⟨f0, f1, f2, f3, f4, f5⟩ := I2.fpOk (H' := H2) (b := s2.heap.objs.size) (Nat.le_refl _) (I2.hok.fresh (Nat.le_refl _))
  have hl := p'.isList
  obtain ⟨ol, hol, _⟩ := id hl
  have hne : p ≠ s2.heap.objs.size := Nat.ne_of_lt (Heap.lt_size hol)
  have hn : its.toArray.size ≤ sizeLine := by rw [List.size_toArray, ← rv.length]; exact hz
  refine join_rev (s := { s2 with heap := s2.heap.push (revObj p ((its.toArray.size : Int) - 1)) }) (I2.ok.hd hc) ⟨_, Heap.get?_push_size _ rfl, rfl, rfl⟩ (hl.push _) hne hn (fun v hv => ?_) fun h' tk acc ps hk hi hps => ?_
  · rw [List.toList_toArray] at hv
    obtain ⟨j, hj⟩ := List.mem_iff_getElem?.mp hv
    have lj := (List.getElem?_eq_some_iff.mp hj).1
    obtain ⟨v', g1, g2⟩ := rv.get (i := j) (List.getElem?_eq_getElem (by rw [rv.length]; exact lj))
    rw [hj] at g1
    cases g1
    rw [List.getElem_map] at g2
    obtain ⟨t', e'⟩ := g2
    exact ⟨_, t', e'⟩
  · have vr := vals_rev rv hi
    rw [← hps, ← List.map_reverse] at vr
    have e : ps.map (·.1) = ys.reverse := by
      have key : ∀ (l : List Str) (ps : List (Str × Tok)), Vals (l.map V.str) (strValues ps) → ps.map (·.1) = l := by
        intro l
        induction l with
        | nil =>
          intro ps h
          cases ps with
          | nil => rfl
          | cons a b => cases h
        | cons z l ih =>
          intro ps h
          cases ps with
          | nil => cases h
          | cons a b =>
            cases h with
            | cons h1 h2 =>
              obtain ⟨t', e'⟩ := h1
              have e'' : Value.str a.1 a.2 = Value.str z t' := e'
              injection e'' with e1 _
              rw [List.map_cons, e1, ih b h2]
      exact key _ _ vr
    rw [e]
    refine ⟨?_, fun t' k => ⟨.str _, H2, (I3.turned (t' := k) (fun b o hb e => hk b o hb e) f0 f1 f3 f4 f5), ⟨t', rfl⟩, q⟩⟩
    exact joinOk_of (by rw [rev_sum, List.length_reverse]; exact few)
end
end JR

/-! Fractions' texts, of numbers of few digits. -/
namespace Ct
open PySem PySem.Spec PyProof.Rows L2 TL RZ
structure PlainV (mg : Str → Option Value) : Prop where
  n_reversed : mg "reversed" = none
abbrev s_integer_text : Stmt := top 18
abbrev N_integer_text : List Str := ["number", "high", "pieces", "low", "sign"]
theorem sc_integer_text : FnScope N_integer_text ["number"] (defScope s_integer_text) := ⟨rfl, rfl, rfl, by decide +kernel, rfl, by decide +kernel, by decide +kernel⟩
abbrev s_fraction_text : Stmt := top 15
abbrev N_fraction_text : List Str := ["number", "top", "bottom"]
theorem sc_fraction_text : FnScope N_fraction_text ["number"] (defScope s_fraction_text) := ⟨rfl, rfl, rfl, by decide +kernel, rfl, by decide +kernel, by decide +kernel⟩
def spIntText : Sp := fun vs H Q _ => ∃ n : Int, vs = [.int n] ∧ n.natAbs < 10 ^ 18 ∧ ∀ H', Same H H' → Q (.str (numText n)) H'
def spTextS (K : PySem.W.Frag) : Sp := fun vs H Q _ => ∃ (t : Addr) (f : Int × Int), vs = [.ref t] ∧ SqT K H t [.int f.1, .int f.2] ∧ Few18 f ∧ ∀ H', Same H H' → Q (.str (fracText f)) H'
theorem sign_text (n : Int) : (if n < 0 then ("-" : Str) else ("" : Str)) ++ numText ((n.natAbs : Nat) : Int) = numText n := by
  refine ext_tl ?_
  have z : ¬ (((n.natAbs : Nat) : Int) < 0) := by omega
  rw [tl_append, tl_numText, tl_numText, if_neg z, Int.natAbs_natCast]
  by_cases h : n < 0
  · rw [if_pos h, if_pos h]
    rfl
  · rw [if_neg h, if_neg h]
    rfl
theorem few_18 {n : Nat} (h : n < 10 ^ 18) : n < 2 ^ 1000 := Nat.lt_trans h (by decide +kernel)
theorem into_anyZ' {te : TE} {σ : L2.St} {H : Hp} {Q : VK} {F : V → Hp → Prop} (h1 : ∀ Z : VK, (∀ v H', F v H' → Z v H') → te σ H Z) (h2 : ∀ v H', F v H' → Q v H') : te σ H Q := h1 Q h2
section
variable {P : Program} {w : World} {K : PySem.W.Frag} {mg : Str → Option Value} {base : Heap}
theorem k_integer_text (D : Lies K mg "_integer_text" s_integer_text) (T : Plain mg) (TV : PlainV mg) : Keeps P w K mg base 1 "_integer_text" ["number"] spIntText := by
  refine D.keeps sc_integer_text (fun _ _ _ _ _ _ us hl => match us, hl with | [_], _ => rfl) (fun vs H Q E h => ?_) (fun f cdv A outer s H vs Q E hr h => ?_)
  · obtain ⟨n, rfl, _⟩ := h
    rfl
  · obtain ⟨n, rfl, few, k⟩ := h
    refine ⟨_, (pss_cons (ps_par (i := 1) (j := 2) (by rfl) sc_integer_text.nd rfl rfl (by decide) rfl rfl (pa_cons (pe_callB call_abs (by rfl) T.n_abs b_abs (pa_cons (pv 0) pa_nil)) (pa_cons (pe_lst pa_nil) pa_nil)) (by rfl))
      (pss_cons (ps_while PassesOwn.never (pt_cmpR op_ge (pv 1) (pe_ci T.c_SHIFT rfl) (nomark _))
        (pss_cons (ps_never)
        (pss_one (ps_never))))
      (pss_cons (ps_set (i := 4) sc_integer_text.nd rfl (Or.inl rfl) (pe_ifExp (pt_cmpR op_lt (pv 0) pe_int (nomark _)) pe_str pe_str))
      (pss_one (ps_ret (pe_op op_add_str (pe_op op_add_str (pv 4) (pe_callTy call_str_int (by rfl) T.n_str b_str (pa_cons (pv 1) pa_nil))) (JR.pe_joinRev rfl pe_str (by rfl) TV.n_reversed (pv 2)))))))), ?_⟩
    refine into_seq (into_par (into_cons ?_))
    refine into_cb (into_args1 ⟨_, rfl, n, rfl, ?_⟩)
    have ea : (if n < 0 then -n else n) = ((n.natAbs : Nat) : Int) := by split <;> omega
    rw [ea]
    refine into_args1 ⟨by show 0 ≤ sizeLine; decide, fun F nF => ⟨_, _, rfl, ?_⟩⟩
    have s1 := same_upd (o := .lst []) nF
    have hF : (upd H F (.lst [])) F = some (.lst []) := upd_same
    generalize upd H F (.lst []) = H1 at *
    refine into_seq ⟨fun m σ' H' => σ' = [some (.int n), some (.int ((n.natAbs : Nat) : Int)), some (.ref F), none, none] ∧ H' = H1, ⟨0, rfl, rfl⟩, ?_⟩
    rintro m σ' H' ⟨rfl, rfl⟩
    refine ⟨_, rfl, _, _, rfl, rfl, _, rfl, no_if (decide_eq_false (by omega)) ?_⟩
    dsimp only
    refine into_set ?_
    refine into_anyZ' (F := fun x H2 => x = V.str (if n < 0 then "-" else "") ∧ H2 = H') (fun Z fin => ?_) (fun x H2 ⟨ex, eh⟩ => ?_)
    · refine ⟨_, rfl, _, _, rfl, rfl, _, rfl, ?_⟩
      by_cases h : n < 0
      · refine if_true_of' (decide_eq_true h) (fin _ _ ⟨?_, rfl⟩)
        rw [if_pos h]
      · refine no_if (decide_eq_false h) (fin _ _ ⟨?_, rfl⟩)
        rw [if_neg h]
    subst ex eh
    refine into_name ?_
    have few2 : (((n.natAbs : Nat) : Int)).natAbs < 2 ^ 1000 := by rw [Int.natAbs_natCast]; exact few_18 few
    have len := num_len few2
    have ls : (if n < 0 then ("-" : Str) else "").length ≤ 1 := by
      split
      · show ("-" : Str).length ≤ 1
        decide +kernel
      · show ("" : Str).length ≤ 1
        decide +kernel
    refine into_ret (into_op (into_op ⟨_, rfl, into_cb (into_args1 ⟨_, rfl, _, rfl, log_of few2, ?_⟩)⟩))
    refine ⟨_, _, rfl, rfl, ?_, ?_⟩
    · show _ + (numText _).length ≤ 16777216
      omega
    refine ⟨_, rfl, _, rfl, F, [], rfl, SqL.of hF, by show 0 + 0 * _ ≤ _; omega, ?_⟩
    refine ⟨_, _, rfl, rfl, ?_, ?_⟩
    · rw [len_app]
      show _ + (numText _).length + (Txt.join "" []).length ≤ 16777216
      have z : (Txt.join "" []).length = 0 := by decide +kernel
      omega
    have e : ((if n < 0 then ("-" : Str) else "") ++ Str.ofString (toString (((n.natAbs : Nat) : Int)))) ++ Txt.join "" ([] : List Str).reverse = numText n := by
      rw [show Str.ofString (toString (((n.natAbs : Nat) : Int))) = numText ((n.natAbs : Nat) : Int) from rfl, sign_text]
      refine ext_tl ?_
      rw [tl_append]
      have z : tl (Txt.join "" ([] : List Str).reverse) = [] := by decide +kernel
      rw [z, List.append_nil]
    rw [e]
    exact k _ s1
theorem k_fraction_textS (D : Lies K mg "fraction_text" s_fraction_text) (T : Plain mg) (G_integer_text : Keeps P w K mg base 1 "_integer_text" ["number"] spIntText) : Keeps P w K mg base 2 "fraction_text" ["number"] (spTextS K) := by
  refine D.keeps sc_fraction_text (fun _ _ _ _ _ _ us hl => match us, hl with | [_], _ => rfl) (fun vs H Q E h => ?_) (fun f cdv A outer s H vs Q E hr h => ?_)
  · obtain ⟨t, f, rfl, _⟩ := h
    rfl
  · obtain ⟨t, ⟨a, b⟩, rfl, ht, ⟨ha, hb⟩, k⟩ := h
    refine ⟨_, (pss_cons (ps_asg (pv 0) (pg_tup rfl (pgs_cons (pg_name (i := 1) sc_fraction_text.nd rfl (Or.inl rfl)) (pgs_cons (pg_name (i := 2) sc_fraction_text.nd rfl (Or.inl rfl)) pgs_nil))))
      (pss_cons (ps_if (pt_cmpR op_eq (pv 2) pe_int (nomark _))
        (pss_one (ps_ret (pe_go G_integer_text (hr.mono (by decide)) rfl (pa_cons (pv 1) pa_nil))))
        pss_nil)
      (pss_one (ps_ret (pe_joined (PJ.cons (pe_fmt (pe_go G_integer_text (hr.mono (by decide)) rfl (pa_cons (pv 1) pa_nil))) (PJ.cons pe_str (PJ.cons (pe_fmt (pe_go G_integer_text (hr.mono (by decide)) rfl (pa_cons (pv 2) pa_nil))) PJ.nil)))))))), ?_⟩
    refine ⟨_, rfl, t, _, rfl, ht, rfl, _, _, rfl, _, _, rfl, ⟨rfl, ?_⟩⟩
    refine ⟨_, rfl, rfl, _, rfl, ite2 (fun h0 => ?_) (fun h0 => ?_)⟩
    · have e : b = 1 := V.int.inj (of_decide_eq_true h0)
      refine into_ret (into_call (into_args1 ⟨_, rfl, a, rfl, ha, fun H' s' => ?_⟩))
      have k := k H' s'
      rw [show fracText (a, b) = numText a by unfold fracText; rw [if_pos e]] at k
      exact k
    · have e : ¬ b = 1 := fun z => h0 (decide_eq_true (by rw [z]))
      have na : (numText a).length ≤ 1921 := num_len (few_18 ha)
      have nb : (numText b).length ≤ 1921 := num_len (few_18 hb)
      have ns : ("/" : Str).length = 1 := by decide +kernel
      have e1 : (Str.empty ++ numText a).length ≤ 1921 := by rw [emp_app]; exact na
      rw [show fracText (a, b) = numText a ++ "/" ++ numText b by unfold fracText; rw [if_neg e]] at k
      refine into_next ?_
      dsimp only
      refine into_ret ?_
      refine ⟨_, rfl, a, rfl, ha, fun H1 s1 => .inl ⟨_, rfl, Nat.le_trans na (by decide), _, rfl, Nat.le_trans e1 (by decide), _, rfl, ?_, _, rfl, b, rfl, hb, fun H2 s2 => .inl ⟨_, rfl, Nat.le_trans nb (by decide), _, rfl, ?_, ?_⟩⟩⟩
      · show (Str.empty ++ numText a ++ "/").length ≤ 16777216
        rw [len_app]
        omega
      · show (Str.empty ++ numText a ++ "/" ++ numText b).length ≤ 16777216
        rw [len_app, len_app]
        omega
      · show Q (.str (Str.empty ++ numText a ++ "/" ++ numText b)) H2
        rw [emp_app]
        exact k _ (s1.trans s2)
end
end Ct

namespace Ct
open PySem PySem.Spec PyProof.Rows L2 TL RZ
abbrev s_with_size : Stmt := top 33
abbrev N_with_size : List Str := ["circuit", "part", "size", "place"]
theorem sc_with_size : FnScope N_with_size ["circuit", "part", "size"] (defScope s_with_size) := ⟨rfl, rfl, rfl, by decide +kernel, rfl, by decide +kernel, by decide +kernel⟩
abbrev s_with_source : Stmt := top 34
abbrev N_with_source : List Str := ["circuit", "source", "voltage", "place"]
theorem sc_with_source : FnScope N_with_source ["circuit", "source", "voltage"] (defScope s_with_source) := ⟨rfl, rfl, rfl, by decide +kernel, rfl, by decide +kernel, by decide +kernel⟩
section
variable {P : Program} {w : World} {K : PySem.W.Frag} {mg : Str → Option Value} {base : Heap} {C : Addr}
theorem k_with_size (D : Lies K mg "with_size" s_with_size) (T : Plain mg) (Z : ClassT K mg C) (G_check_part : Keeps P w K mg base 2 "check_part" ["circuit", "value"] (spCheckPart K C)) (G_is_above_nought : Keeps P w K mg base 3 "is_above_nought" ["value"] (spIsSize K))
    (G_names_of : Keeps P w K mg base 1 "names_of" ["told"] (spNamesT K)) (G_fraction_text : Keeps P w K mg base 2 "fraction_text" ["number"] (spTextS K)) (G_with_lines : Keeps P w K mg base 9 "_with_lines" ["circuit", "place", "new"] (spWithLines K C)) :
    Keeps P w K mg base 10 "with_size" ["circuit", "part", "size"] (spWithSize K C) := by
  refine D.keeps sc_with_size (fun _ _ _ _ _ _ us hl => match us, hl with | [_, _, _], _ => rfl) (fun vs H Q E h => ?_) (fun f cdv A outer s0 H vs Q E hr h => ?_)
  · obtain ⟨v, u, o, x, f, rfl, _⟩ := h
    rfl
  · obtain ⟨v, u, o, x, fr, rfl, hc, ok, hx, ⟨t, rfl, ht⟩, hf, few, h0, k⟩ := h
    obtain ⟨j, e, hj, ex⟩ := name_at hx
    have nx : Name x := ex ▸ (ok.prt e (List.mem_of_getElem? hj)).1
    refine ⟨_, (pss_cons (ps_expr (pe_go G_check_part (hr.mono (by decide)) rfl (pa_cons (pv 0) (pa_cons (pv 1) pa_nil))))
      (pss_cons (ps_if (pt_not (pt_val (pe_go G_is_above_nought (hr.mono (by decide)) rfl (pa_cons (pv 2) pa_nil))))
        (pss_one (ps_never))
        pss_nil)
      (pss_cons (ps_set (i := 3) sc_with_size.nd rfl (Or.inl rfl) (pe_op op_add (pe_op op_add pe_int (pe_callB call_len_seq (by rfl) T.n_len b_len (pa_cons (pe_fld (pv 0) rfl) pa_nil))) (pe_bm PySem.F.plainAttrs_list PySem.F.slot_list_index PySem.F.type_list_index mt_index (pe_go G_names_of (hr.mono (by decide)) rfl (pa_cons (pe_fld (pv 0) rfl) pa_nil)) (pa_cons (pv 1) pa_nil))))
      (pss_one (ps_ret (pe_go G_with_lines (hr.mono (by decide)) rfl (pa_cons (pv 0) (pa_cons (pv 3) (pa_cons (pe_lst (pa_cons (pe_joined (PJ.cons pe_str (PJ.cons (pe_fmt (pv 1)) (PJ.cons pe_str (PJ.cons (pe_fmt (pe_go G_fraction_text (hr.mono (by decide)) rfl (pa_cons (pv 2) pa_nil))) PJ.nil))))) pa_nil)) pa_nil))))))))), ?_⟩
    refine ⟨_, rfl, _, rfl, v, o, x, rfl, hc, ok, hx, fun H1 s1 => ?_⟩
    refine ⟨_, rfl, t, fr, rfl, SqT.same s1 ht, hf.1, hf.2.1, h0, true, rfl, iteF ?_⟩
    have hc1 := hc.same s1
    obtain ⟨c, dx, fs, ts, us, rfl, a1, a2, a3, a4⟩ := hc1.src
    obtain ⟨c', dx', fs', tp, vs, e1, b1, b2, b3, b4⟩ := hc1.prt
    obtain rfl := V.ref.inj e1
    have l4 := a4.length
    refine ⟨_, rfl, c, C, dx, fs, _, rfl, a1, Z.cl, Z.nS, a2, ts, us, rfl, .inr a3, _, _, rfl, rfl, ?_⟩
    refine ⟨_, rfl, c, C, dx', fs', _, rfl, b1, Z.cl, Z.nP, b2, tp, vs, o.parts.map (·.1), rfl, b3.sq, heads b4 fun v c h => HeadAt.ent h, by rw [List.length_map]; have := ok.p_few; omega, fun l H2 s2 _ hl => ?_⟩
    obtain ⟨q1, q2⟩ := first_nm ok.p_once hj ex
    refine ⟨.inl ⟨rfl, _, SqL.of hl⟩, _, rfl, l, _, _, j, _, rfl, rfl, SqL.of hl, rfl, strs_flat _, q1, by show (x == x) = true; simp, q2, _, _, rfl, rfl, ?_⟩
    have lf := frac_len hf.2.2.1 hf.2.2.2
    have lx := nx.2.1
    have z1 : (Str.empty ++ ("part " : Str)).length = 5 := by rw [emp_app]; exact prt_len
    refine ⟨_, rfl, _, rfl, ⟨_, rfl, ?_, _, rfl, .inl ⟨_, rfl, Nat.le_trans lx (by decide), _, rfl, ?_, _, rfl, ?_, _, rfl, t, fr, rfl, SqT.same (s1.trans s2) ht, few, fun H3 s3 => .inl ⟨_, rfl, Nat.le_trans lf (by decide), _, rfl, ?_, ?_⟩⟩⟩⟩
    · show _ ≤ 16777216
      omega
    · rw [len_app]
      show _ ≤ 16777216
      omega
    · rw [len_app, len_app, sp_len]
      show _ ≤ 16777216
      omega
    · rw [len_app, len_app, len_app, sp_len]
      show _ ≤ 16777216
      omega
    rw [prt_line]
    refine ⟨by show 1 ≤ sizeLine; decide, fun b nb => ?_⟩
    have s4 := same_upd (o := .lst [V.str (entLine "part " (x, fr))]) nb
    have ep : (1 : Int) + ((us.length : Nat) : Int) + ((j : Nat) : Int) = ((1 + o.sources.length + j : Nat) : Int) := by omega
    have lr := (List.getElem?_eq_some_iff.mp hj).1
    refine ⟨.ref c, o, o.setPart x fr, 1 + o.sources.length + j, b, [entLine "part " (x, fr)], (by show [V.ref c, V.int ((1 : Int) + ((us.length : Nat) : Int) + ((j : Nat) : Int)), V.ref b] = _; rw [ep]), hc.same (s1.trans (s2.trans (s3.trans s4))), ok, setPart_ok ok hf h0, upd_same, ?_, by show 1 ≤ 100; decide, rows_part ok hj ex, fun v' H' s' hc' => k v' H' (s1.trans (s2.trans (s3.trans (s4.trans s')))) hc'⟩
    unfold rowsOf
    rw [List.length_cons, List.length_append, List.length_append, List.length_map, List.length_map]
    omega
theorem k_with_source (D : Lies K mg "with_source" s_with_source) (T : Plain mg) (Z : ClassT K mg C) (G_check_source : Keeps P w K mg base 2 "check_source" ["circuit", "value"] (spCheckSource K C)) (G_is_fraction : Keeps P w K mg base 2 "is_fraction" ["value"] (spIsFr K))
    (G_names_of : Keeps P w K mg base 1 "names_of" ["told"] (spNamesT K)) (G_fraction_text : Keeps P w K mg base 2 "fraction_text" ["number"] (spTextS K)) (G_with_lines : Keeps P w K mg base 9 "_with_lines" ["circuit", "place", "new"] (spWithLines K C)) :
    Keeps P w K mg base 10 "with_source" ["circuit", "source", "voltage"] (spWithSource K C) := by
  refine D.keeps sc_with_source (fun _ _ _ _ _ _ us hl => match us, hl with | [_, _, _], _ => rfl) (fun vs H Q E h => ?_) (fun f cdv A outer s0 H vs Q E hr h => ?_)
  · obtain ⟨v, u, o, x, f, rfl, _⟩ := h
    rfl
  · obtain ⟨v, u, o, x, fr, rfl, hc, ok, hx, ⟨t, rfl, ht⟩, hf, few, k⟩ := h
    obtain ⟨j, e, hj, ex⟩ := name_at hx
    have nx : Name x := ex ▸ (ok.src e (List.mem_of_getElem? hj)).1
    refine ⟨_, (pss_cons (ps_expr (pe_go G_check_source (hr.mono (by decide)) rfl (pa_cons (pv 0) (pa_cons (pv 1) pa_nil))))
      (pss_cons (ps_if (pt_not (pt_val (pe_go G_is_fraction (hr.mono (by decide)) rfl (pa_cons (pv 2) pa_nil))))
        (pss_one (ps_never))
        pss_nil)
      (pss_cons (ps_set (i := 3) sc_with_source.nd rfl (Or.inl rfl) (pe_op op_add pe_int (pe_bm PySem.F.plainAttrs_list PySem.F.slot_list_index PySem.F.type_list_index mt_index (pe_go G_names_of (hr.mono (by decide)) rfl (pa_cons (pe_fld (pv 0) rfl) pa_nil)) (pa_cons (pv 1) pa_nil))))
      (pss_one (ps_ret (pe_go G_with_lines (hr.mono (by decide)) rfl (pa_cons (pv 0) (pa_cons (pv 3) (pa_cons (pe_lst (pa_cons (pe_joined (PJ.cons pe_str (PJ.cons (pe_fmt (pv 1)) (PJ.cons pe_str (PJ.cons (pe_fmt (pe_go G_fraction_text (hr.mono (by decide)) rfl (pa_cons (pv 2) pa_nil))) PJ.nil))))) pa_nil)) pa_nil))))))))), ?_⟩
    refine ⟨_, rfl, _, rfl, v, o, x, rfl, hc, ok, hx, fun H1 s1 => ?_⟩
    refine ⟨_, rfl, t, fr, rfl, SqT.same s1 ht, hf.1, hf.2.1, true, rfl, iteF ?_⟩
    have hc1 := hc.same s1
    obtain ⟨c, dx, fs, ts, us, rfl, a1, a2, a3, a4⟩ := hc1.src
    refine ⟨_, rfl, c, C, dx, fs, _, rfl, a1, Z.cl, Z.nS, a2, ts, us, o.sources.map (·.1), rfl, a3, heads a4 fun v c h => HeadAt.ent h, by rw [List.length_map]; have := ok.s_few; omega, fun l H2 s2 _ hl => ?_⟩
    obtain ⟨q1, q2⟩ := first_nm ok.s_once hj ex
    refine ⟨.inl ⟨rfl, _, SqL.of hl⟩, _, rfl, l, _, _, j, _, rfl, rfl, SqL.of hl, rfl, strs_flat _, q1, by show (x == x) = true; simp, q2, _, _, rfl, rfl, ?_⟩
    have lf := frac_len hf.2.2.1 hf.2.2.2
    have lx := nx.2.1
    have z1 : (Str.empty ++ ("source " : Str)).length = 7 := by rw [emp_app]; exact src_len
    refine ⟨_, rfl, _, rfl, ⟨_, rfl, ?_, _, rfl, .inl ⟨_, rfl, Nat.le_trans lx (by decide), _, rfl, ?_, _, rfl, ?_, _, rfl, t, fr, rfl, SqT.same (s1.trans s2) ht, few, fun H3 s3 => .inl ⟨_, rfl, Nat.le_trans lf (by decide), _, rfl, ?_, ?_⟩⟩⟩⟩
    · show _ ≤ 16777216
      omega
    · rw [len_app]
      show _ ≤ 16777216
      omega
    · rw [len_app, len_app, sp_len]
      show _ ≤ 16777216
      omega
    · rw [len_app, len_app, len_app, sp_len]
      show _ ≤ 16777216
      omega
    rw [src_line]
    refine ⟨by show 1 ≤ sizeLine; decide, fun b nb => ?_⟩
    have s4 := same_upd (o := .lst [V.str (entLine "source " (x, fr))]) nb
    have ep : (1 : Int) + ((j : Nat) : Int) = ((1 + j : Nat) : Int) := by omega
    have lr := (List.getElem?_eq_some_iff.mp hj).1
    refine ⟨.ref c, o, o.setSource x fr, 1 + j, b, [entLine "source " (x, fr)], (by show [V.ref c, V.int ((1 : Int) + ((j : Nat) : Int)), V.ref b] = _; rw [ep]), hc.same (s1.trans (s2.trans (s3.trans s4))), ok, setSource_ok ok hf, upd_same, ?_, by show 1 ≤ 100; decide, rows_source ok hj ex, fun v' H' s' hc' => k v' H' (s1.trans (s2.trans (s3.trans (s4.trans s')))) hc'⟩
    unfold rowsOf
    rw [List.length_cons, List.length_append, List.length_append, List.length_map, List.length_map]
    omega
end
end Ct

namespace Ct
open PySem PySem.Spec PyProof.Rows L2 TL RZ
abbrev s_Circuit_eq : Stmt := inClass (top 32) 2
abbrev N_Circuit_eq : List Str := ["self", "other"]
theorem sc_Circuit_eq : FnScope N_Circuit_eq ["self", "other"] (defScope s_Circuit_eq) := ⟨rfl, rfl, rfl, by decide +kernel, rfl, by decide +kernel, by decide +kernel⟩
structure EqT (K : PySem.W.Frag) (mg : Str → Option Value) (C f : Addr) : Prop where
  cz : ClassT K mg C
  mgC : mg "Circuit" = some (.ref C)
  c1 : PySem.W.findIn K (.ref C) "__class__" = some (some (.builtin "object.__class__"))
  c2 : PySem.W.specialIn K (.builtin "object.__class__") "__get__" = some (some (.builtin "getset_descriptor.__get__"))
  c3 : PySem.W.takesIn K (.builtin "object.__class__") = some true
  c4 : PySem.W.mroIn K C (.type "object") = some true
  kit : PySem.W.kitOne K (.ref C) (.ref C) = some true
  eqF : PySem.W.findIn K (.ref C) "__eq__" = some (some (.ref f))
  isF : PySem.W.isFn K (.ref f) = true
  obj : ∃ nm q N bs hd sn sub ab col dd k0 k1 k2 k3 k5 newId, K.lookup C = some (excClassObj nm q C N bs [.type "object"] hd sn sub ab col dd k0 k1 k2 k3 k5 newId) ∧
    PySem.W.nsOkIn K N = true ∧ PySem.W.nsIn K N "__eq__" = some (some (.ref f)) ∧ PySem.W.nsIn K N "__ne__" = some none
/-- two circuits of one text -/
def Twin (K : PySem.W.Frag) (C : Addr) (a b : Addr) (H : Hp) : Prop := ∃ o o', CircN K C H (.ref a) o ∧ CircN K C H (.ref b) o' ∧ textOf o = textOf o'
theorem ns_got {K : PySem.W.Frag} {h : Heap} {N : Addr} {m : Str → Option Value} {x : Str} {v : Value} (X : K.In h) (G : h.Ns N m) (e : PySem.W.nsIn K N x = some (some v)) : m x = some v := by
  obtain ⟨ob, es, ep, ho, hd, _, hf⟩ := G
  unfold PySem.W.nsIn at e
  split at e
  · rename_i q
    have z := X _ _ q
    rw [ho] at z
    cases z
    cases hd
    split at e
    · rename_i en he
      cases e
      rw [← hf]
      show (nsFind _ _ : Option Value) = _
      unfold nsFind findBy
      rw [← Array.find?_toList, he]
      rfl
    · split at e <;> cases e
  · cases e
section
variable {P : Program} {w : World} {K : PySem.W.Frag} {mg : Str → Option Value} {base : Heap} {C f : Addr} {fd : FuncData}
theorem k_eq (F : Fun K "__eq__" "Circuit.__eq__" s_Circuit_eq f fd) (Z : EqT K mg C f) (T : Plain mg) : FnOk P w K mg base CX0 1 f fd ["self", "other"] (spEq (Twin K C)) := by
  refine F.ok sc_Circuit_eq (fun vs H Q E h => ?_) (fun cdv A outer s0 H vs Q E hr h => ?_)
  · obtain ⟨a, b, rfl, _⟩ := h
    rfl
  · obtain ⟨a, b, rfl, ⟨o, o', ha, hb, e⟩, k⟩ := h
    obtain ⟨c, dx, fs, e1, a1, a2⟩ := ha.txt
    obtain ⟨c', dx', fs', e2, b1, b2⟩ := hb.txt
    obtain rfl := V.ref.inj e1
    obtain rfl := V.ref.inj e2
    refine ⟨_, (pss_one (ps_ret (pe_and (pe_callB call_isi (by rfl) T.n_isinstance b_isinstance (pa_cons (pv 1) (pa_cons (pe_glob (v := .ref C) rfl Z.mgC rfl) pa_nil))) (pe_one (pe_cmpR op_eq (pe_fld (pv 0) rfl) (pe_fld (pv 1) rfl) (nomark _)))))), ?_⟩
    refine ⟨_, rfl, _, _, _, _, true, rfl, .own C, .base (.ins b1 Z.cz.cl Z.c1 Z.c2 Z.c3 Z.c4), Z.kit, true, rfl, iteT ?_⟩
    refine ⟨_, rfl, a, C, dx, fs, _, rfl, a1, Z.cz.cl, Z.cz.nT, a2, _, rfl, b, C, dx', fs', _, rfl, b1, Z.cz.cl, Z.cz.nT, b2, rfl, ?_⟩
    show Q (.bl (decide (V.str (textOf o) = V.str (textOf o')))) H
    rw [decide_eq_true (congrArg V.str e)]
    exact k H fun _ _ h => h
end
section
variable {X : Cx} {C f : Addr} {fd : FuncData} {n : Nat}
/-- != of two circuits of one text -/
theorem op_neC (F : FnOk X.prog X.w X.K X.mg X.base CX0 n f fd ["self", "other"] (spEq (Twin X.K C))) (hb : Binds X.K fd ["self", "other"] []) (Z : EqT X.K X.mg C f) (hr : Room (n + 1) X.A) :
    OpR X (compareOp .NotEq) (fun x y H Q => (∃ a b, x = .ref a ∧ y = .ref b ∧ Twin X.K C a b H) ∧ ∀ H', Ext H H' → Q (.bl false) H') := by
  intro pins s σ H x y v u Q I rx ry hq
  obtain ⟨⟨a, b, rfl, rfl, tw⟩, q⟩ := hq
  cases rx
  cases ry
  obtain ⟨o, o', ha, hb', _⟩ := id tw
  obtain ⟨c, dx, fs, e1, a1, _⟩ := ha.txt
  obtain ⟨c', dx', fs', e2, b1, _⟩ := hb'.txt
  obtain rfl := V.ref.inj e1
  obtain rfl := V.ref.inj e2
  obtain ⟨mA, JA, _⟩ := ins_get I.hok a1
  obtain ⟨mB, JB, _⟩ := ins_get I.hok b1
  obtain ⟨odA, JA, _⟩ := JA.look
  obtain ⟨odB, JB, _⟩ := JB.look
  obtain ⟨nm, qn, N, bs, hd, sn, sub, ab, col, dd, k0, k1, k2, k3, k5, newId, hC, hN, hE, hNe⟩ := Z.obj
  have X1 := I.kIn
  have hns : s.heap.Ns N (s.heap.nsMap N) := .of_isNs (PySem.W.isNs_of_in X1 hN)
  obtain ⟨fo, hf1, hf2⟩ : ∃ fo, X.K.lookup f = some fo ∧ fo.cls = .type "function" := by
    have z : (X.K.lookup f).map (·.cls) = some (.type "function") := eq_of_beq Z.isF
    obtain ⟨fo, h1, h2⟩ := Option.map_eq_some_iff.mp z
    exact ⟨fo, h1, h2⟩
  have own : s.heap.OwnEqNoNe a C f "object" [.type "object"] :=
    ⟨_, fo, nm, qn, N, bs, hd, sn, sub, ab, col, dd, k0, k1, k2, k3, k5, newId, s.heap.nsMap N, _, JA.at_, JA.cls, X1 _ _ hC, hns, ns_got X1 hns hE, X1 _ _ hf1, hf2, PySem.F.cmp_object.mro, PySem.F.cmp_object.eq.lookup, PySem.W.ns_none_of X1 hns hNe⟩
  obtain ⟨hp, g, d, tk, os⟩ := s
  refine compareOp_ne_ownEq PySem.F.cmp_object own JB.at_ JB.cls (hu_of hr) ?_
  have hsp : spEq (Twin X.K C) [.ref a, .ref b] H (fun v H' => v = .bl true ∧ Ext H H') E0 := ⟨a, b, rfl, tw, fun H' e => ⟨rfl, e⟩⟩
  have e0 : Env0 X.prog X.w X.K X.mg X.base X.A.in1 X.stack ⟨hp, g, d, tk, os⟩ H := by
    have e := I.env0
    exact ⟨e.frames, e.mod, e.bs, e.bsz, e.funs, e.frf, e.hok, e.bare⟩
  have rv : Vals [V.ref a, V.ref b] [Value.ref a, Value.ref b] := .cons rfl (.cons rfl .nil)
  have bd := hb ⟨hp, g, d, tk, os⟩ [.ref a, .ref b] I.kIn rfl
  simp only [List.append_nil] at bd
  refine wpAny_call (codeAny_mono (F.run X.A.in1 X.stack ⟨hp, g, d, tk, os⟩ H ⟨[.ref a, .ref b], []⟩ [.ref a, .ref b] [.ref a, .ref b] _ E0 hr.in1 e0 bd rv hsp) fun r s' hq => ?_)
  cases r with
  | error e => exact absurd hq (fun z => z.elim)
  | ok fl =>
    cases fl with
    | ret u =>
      obtain ⟨z, H', I', rz, ez, ex⟩ := I.after hq
      subst ez
      cases rz
      exact ⟨true, rfl, .bl false, H', I', rfl, q H' ex⟩
    | next => exact False.elim hq
    | brk => exact False.elim hq
    | cont => exact False.elim hq
end
end Ct

/-! The law's own fractions, as rationals. -/
namespace Ct
open PySem PySem.Spec PyProof.Rows L2 TL RZ
def spLRat (K : PySem.W.Frag) : Sp := fun vs H Q _ => ∃ a b : Int, vs = [.int a, .int b] ∧ b ≠ 0 ∧ b.natAbs < 2 ^ 8999 ∧ ∀ v' H', Same H H' → RatAt K H' v' (Rat.divInt a b) → Q v' H'
section
variable {P : Program} {w : World} {K : PySem.W.Frag} {mg : Str → Option Value} {base : Heap}
theorem k_lfrac (D : Lies K mg "_law_frac" s_l_frac) (T : Plain mg) (G_l_frac_common : Keeps P w K mg base 1 "_law_frac_common" ["one", "other"] spCommon) : Keeps P w K mg base 2 "_law_frac" ["top", "bottom"] (spLRat K) := by
  refine D.keeps sc_l_frac (fun _ _ _ _ _ _ us hl => match us, hl with | [_, _], _ => rfl) (fun vs H Q E h => ?_) (fun f cdv A outer s H vs Q E hr h => ?_)
  · obtain ⟨x, y, rfl, _⟩ := h
    rfl
  · obtain ⟨a, b, rfl, b0, b1, k⟩ := h
    have g0 := gcdZ_pos (a := a) (b := b) (by omega)
    have eg : ((Int.gcd a b : Nat) : Int) = gcdZ a b := rfl
    refine ⟨_, (pss_cons (ps_set (i := 2) sc_l_frac.nd rfl (Or.inl rfl) (pe_go G_l_frac_common (hr.mono (by decide)) rfl (pa_cons (pv 0) (pa_cons (pv 1) pa_nil))))
      (pss_cons (ps_set (i := 2) sc_l_frac.nd rfl (Or.inl rfl) (pe_ifExp (pt_cmpR op_gt (pv 1) pe_int (nomark _)) (pv 2) (pe_un un_neg (pv 2))))
      (pss_one (ps_ret (pe_tup (pa_cons (pe_op op_quo (pv 0) (pv 2)) (pa_cons (pe_op op_quo (pv 1) (pv 2)) pa_nil))))))), ?_⟩
    refine ⟨_, rfl, _, rfl, a, b, rfl, _, rfl, _, _, rfl, rfl, _, rfl, ?_⟩
    rw [eg]
    by_cases hb : 0 < b
    · obtain ⟨e1, e2⟩ := ratio_pos (a := a) hb
      have cq := quo_ok (g := gcdZ a b) (by omega) (gcdZ_right a b) (by omega) b1
      refine if_true_of' (decide_eq_true hb) ⟨_, rfl, _, rfl, _, rfl, _, _, rfl, rfl, cq _, _, rfl, _, rfl, _, _, rfl, rfl, cq _, by show 2 ≤ sizeLine; decide, fun t nt => ?_⟩
      have z := k (.ref t) _ (same_upd (o := .tup [.int (Rat.divInt a b).num, .int ((Rat.divInt a b).den : Int)]) nt) ⟨t, rfl, SqT.of upd_same⟩
      rw [← e1, ← e2] at z
      exact z
    · obtain ⟨e1, e2⟩ := ratio_neg (a := a) (b := b) (by omega)
      have cq := quo_ok (g := -gcdZ a b) (by omega) (Int.neg_dvd.mpr (gcdZ_right a b)) (by omega) b1
      refine no_if (decide_eq_false hb) ⟨_, rfl, _, rfl, _, rfl, _, rfl, _, _, rfl, rfl, cq _, _, rfl, _, rfl, _, _, rfl, rfl, cq _, by show 2 ≤ sizeLine; decide, fun t nt => ?_⟩
      have z := k (.ref t) _ (same_upd (o := .tup [.int (Rat.divInt a b).num, .int ((Rat.divInt a b).den : Int)]) nt) ⟨t, rfl, SqT.of upd_same⟩
      rw [← e1, ← e2] at z
      exact z
theorem dens_pos (r s : Rat) : (0 : Int) < (r.den : Int) * s.den := Int.mul_pos (by have := r.den_pos; omega) (by have := s.den_pos; omega)
end
end Ct

/-! The text of a circuit by hand. -/
namespace Ct
open PySem PySem.Spec PyProof.Rows L2 TL RZ
theorem getD {H : Hp} {d : Addr} {kvs : List (Key × V)} {x : Str} {u : V} (h : H d = some (.dK kvs)) (e : valV kvs (.inr x) = some u) : DGet H d (.str x) (some u) := e ▸ DGet.k (k := Sum.inr x) h
/-- a drawn circuit's dict, its entries in any sequence -/
def OwnD (K : PySem.W.Frag) (G : Hp) (v : V) (o : Own) : Prop := ∃ d kvs s p j, v = .ref d ∧ G d = some (.dK kvs) ∧ valV kvs (.inr "sources") = some s ∧ valV kvs (.inr "parts") = some p ∧ valV kvs (.inr "joinings") = some j ∧ LsAt K G (EntAt K G) s o.sources ∧ LsAt K G (EntAt K G) p o.parts ∧ LsAt K G (JoiAt K G) j o.joinings
def spTextD (K : PySem.W.Frag) : Sp := fun vs H Q _ => ∃ (v : V) (o : Own), vs = [v] ∧ OwnD K H v o ∧ OwnOk o ∧ ∀ H', Same H H' → Q (.str (textOf o)) H'
section
variable {P : Program} {w : World} {K : PySem.W.Frag} {mg : Str → Option Value} {base : Heap}
theorem k_circuit_textD (D : Lies K mg "_law_circuit_text" s_l_circuit_text) (T : Plain mg) (G_l_frac_text : Keeps P w K mg base 1 "_law_frac_text" ["one"] (spFracText K)) : Keeps P w K mg base 2 "_law_circuit_text" ["own"] (spTextD K) := by
  refine D.keeps sc_l_circuit_text (fun _ _ _ _ _ _ us hl => match us, hl with | [_], _ => rfl) (fun vs H Q E h => ?_) (fun f cdv A outer s H vs Q E hr h => ?_)
  · obtain ⟨v, o, rfl, _⟩ := h
    rfl
  · obtain ⟨v, o, rfl, ⟨d, kvs, vS, vP, vJ, rfl, hd, eS, eP, eJ, ⟨aS, xS, rfl, hS, pS⟩, ⟨aP, xP, rfl, hP, pP⟩, ⟨aJ, xJ, rfl, hJ, pJ⟩⟩, ok, k⟩ := h
    refine ⟨_, (pss_cons (ps_setLc (i := 1) (own := [("name", 2), ("one", 3)]) (g := gTup K 2 (gCons (gName 2) (gCons (gName 3) gNil))) (tt := tYes) rfl sc_l_circuit_text.nd rfl rfl (sw_true rfl rfl rfl (by decide +kernel)) (pi_list (pe_dget (hu_of hr) (pv 0) pe_str (fun _ _ => rfl))) (blkOk_by (N := N_l_circuit_text) (sc := defScope s_l_circuit_text) (by decide +kernel)) (fun _ _ _ _ _ => pg_tup rfl (pgs_cons (pg_name (i := 2) sc_l_circuit_text.nd rfl (Or.inl rfl)) (pgs_cons (pg_name (i := 3) sc_l_circuit_text.nd rfl (Or.inl rfl)) pgs_nil))) (fun _ _ _ _ _ => pts_nil) (fun _ _ _ _ _ => by exact (pe_op op_add_str (pe_op op_add_str (pe_op op_add_str pe_str (pv 2)) pe_str) (pe_go G_l_frac_text (hr.mono (by decide)) rfl (pa_cons (pv 3) pa_nil)))))
      (pss_cons (ps_expr (pe_bm PySem.F.plainAttrs_list PySem.F.slot_list_extend PySem.F.type_list_extend mt_extend (pv 1) (pa_cons (pe_lc (own := [("name", 2), ("one", 3)]) (g := gTup K 2 (gCons (gName 2) (gCons (gName 3) gNil))) (tt := tYes) rfl sc_l_circuit_text.nd (pi_list (pe_dget (hu_of hr) (pv 0) pe_str (fun _ _ => rfl))) (blkOk_by (N := N_l_circuit_text) (sc := defScope s_l_circuit_text) (by decide +kernel)) (fun _ _ _ _ _ => pg_tup rfl (pgs_cons (pg_name (i := 2) sc_l_circuit_text.nd rfl (Or.inl rfl)) (pgs_cons (pg_name (i := 3) sc_l_circuit_text.nd rfl (Or.inl rfl)) pgs_nil))) (fun _ _ _ _ _ => pts_nil) (fun _ _ _ _ _ => by exact (pe_op op_add_str (pe_op op_add_str (pe_op op_add_str pe_str (pv 2)) pe_str) (pe_go G_l_frac_text (hr.mono (by decide)) rfl (pa_cons (pv 3) pa_nil))))) pa_nil)))
      (pss_cons (ps_for PassesOwn.never rfl (pi_list (pe_dget (hu_of hr) (pv 0) pe_str (fun _ _ => rfl))) (pg_tup rfl (pgs_cons (pg_name (i := 2) sc_l_circuit_text.nd rfl (Or.inl rfl)) (pgs_cons (pg_name (i := 4) sc_l_circuit_text.nd rfl (Or.inl rfl)) pgs_nil)))
        (pss_cons (ps_expr (pe_bm PySem.F.plainAttrs_list PySem.F.slot_list_append PySem.F.type_list_append mt_append (pv 1) (pa_cons (pe_op op_add_str pe_str (pv 2)) pa_nil)))
        (pss_one (ps_expr (pe_bm PySem.F.plainAttrs_list PySem.F.slot_list_extend PySem.F.type_list_extend mt_extend (pv 1) (pa_cons (pe_lc (own := [("tie", 5)]) (g := gName 5) (tt := tYes) rfl sc_l_circuit_text.nd (pi_list (pv 4)) (blkOk_by (N := N_l_circuit_text) (sc := defScope s_l_circuit_text) (by decide +kernel)) (fun _ _ _ _ _ => pg_name (i := 5) sc_l_circuit_text.nd rfl (Or.inl rfl)) (fun _ _ _ _ _ => pts_nil) (fun _ _ _ _ _ => by exact (pe_op op_add_str pe_str (pe_joinK (K := K) rfl pe_str (pe_listK (K := K) rfl rfl T.n_list (pa_cons (pv 5) pa_nil)))))) pa_nil))))))
      (pss_one (ps_ret (pe_joinK (K := K) rfl pe_str (pe_op op_cat (pe_lst (pa_cons pe_str pa_nil)) (pv 1)))))))), ?_⟩
    refine into_set (comp_pure (f := entLine "source ") (R := EntAt K H) (R' := fun _ => StrV) (fun R r => ⟨_, rfl, d, _, rfl, getD hd eS, r⟩) hS pS ?_ (fun _ _ _ h => h) (fun _ _ _ _ h => h) (fun x e H0 Z r he s0 hz => ?_) (fun H2 D acc hD s2 hL hp => ?_))
    · rw [pS.length]
      exact Nat.lt_of_le_of_lt ok.s_few (by decide)
    · obtain ⟨t, u, rfl, ht, u', rfl, hu⟩ := r
      have hn := ok.src e he
      have l1 := ent_len (w := "source ") (by rw [src_len]; decide) hn
      refine ⟨t, _, rfl, SqT.same s0 ht, rfl, _, _, rfl, _, _, rfl, ⟨rfl, rfl, ?_⟩⟩
      refine ⟨_, rfl, _, _, rfl, rfl, ?_, _, _, rfl, rfl, ?_, _, rfl, u', e.2, rfl, SqT.same s0 hu, hn.2.2.2.1, hn.2.2.2.2, _, _, rfl, rfl, ?_, hz _ _ (Same.refl _) rfl⟩
      · rw [src_len]
        exact Nat.le_trans (Nat.add_le_add_left hn.1.2.1 7) (by decide)
      · have := l1.1
        rw [len_app] at this
        exact Nat.le_trans this (by decide)
      · have := l1.2
        unfold entLine at this
        rw [len_app] at this
        exact Nat.le_trans this (by decide)
    have eL := strs_are hp
    subst eL
    have dS : (V.ref d) = V.ref d := rfl
    refine into_drop ⟨_, rfl, .inl ⟨rfl, _, SqL.of hL⟩, into_args1 (comp_pure (f := entLine "part ") (R := EntAt K H) (R' := fun _ => StrV) (fun R r => ⟨_, rfl, d, _, rfl, getD (s2 _ _ hd) eP, r⟩) (Same.seq s2 hP) pP ?_ (fun _ _ _ h => h) (fun _ _ _ _ h => h) (fun x e H0 Z r he s0 hz => ?_) (fun H3 D3 acc hD3 s3 hL3 hp3 => ?_))⟩
    · rw [pP.length]
      exact Nat.lt_of_le_of_lt ok.p_few (by decide)
    · obtain ⟨t, u, rfl, ht, u', rfl, hu⟩ := r
      have hn := ok.prt e he
      have l1 := ent_len (w := "part ") (by rw [prt_len]; decide) ⟨hn.1, hn.2.1⟩
      refine ⟨t, _, rfl, SqT.same (s2.trans s0) ht, rfl, _, _, rfl, _, _, rfl, ⟨rfl, rfl, ?_⟩⟩
      refine ⟨_, rfl, _, _, rfl, rfl, ?_, _, _, rfl, rfl, ?_, _, rfl, u', e.2, rfl, SqT.same (s2.trans s0) hu, hn.2.1.2.2.1, hn.2.1.2.2.2, _, _, rfl, rfl, ?_, hz _ _ (Same.refl _) rfl⟩
      · rw [prt_len]
        exact Nat.le_trans (Nat.add_le_add_left hn.1.2.1 5) (by decide)
      · have := l1.1
        rw [len_app] at this
        exact Nat.le_trans this (by decide)
      · have := l1.2
        unfold entLine at this
        rw [len_app] at this
        exact Nat.le_trans this (by decide)
    have eL3 := strs_are hp3
    subst eL3
    have hLD := s3 _ _ hL
    have nDD : D ≠ D3 := fun z => by
      rw [z, hD3] at hL
      cases hL
    have r1 : (o.sources.map (entLine "source ")).length ≤ 4 := by rw [List.length_map]; exact ok.s_few
    have r2 : (o.parts.map (entLine "part ")).length ≤ 8 := by rw [List.length_map]; exact ok.p_few
    refine ⟨D, D3, _, _, rfl, rfl, hLD, hL3, ?_, ?_⟩
    · simp only [List.length_map] at r1 r2 ⊢
      show _ ≤ 16777216
      omega
    rw [← List.map_append]
    have s4 : Same H (upd H3 D (.lst ((o.sources.map (entLine "source ") ++ o.parts.map (entLine "part ")).map V.str))) := fun b z q => by
      rw [upd_ne (ne_of_none q hD)]
      exact s3 _ _ (s2 _ _ q)
    refine ⟨_, rfl, d, _, rfl, getD (s4 _ _ hd) eJ, aJ, rfl, ⟨_, Same.seq s4 hJ⟩, for_list (xs := xJ) (fun i σ' H' => ∃ v2 v3 v4 v5 : Option V, σ' = [some (.ref d), some (.ref D), v2, v3, v4, v5] ∧
      H' D = some (.lst ((o.sources.map (entLine "source ") ++ o.parts.map (entLine "part ") ++ (o.joinings.take i).flatMap joiRows).map V.str)) ∧ Same H H')
      ⟨_, _, _, _, rfl, by rw [List.take_zero, List.flatMap_nil, List.append_nil]; exact upd_same, s4⟩ (fun i σ' H' _ ⟨_, _, _, _, _, _, s⟩ => Same.seq s hJ) ?_ ?_⟩
    · rintro i x σ' H' hx ⟨v2, v3, v4, v5, rfl, hLi, si⟩
      obtain ⟨e, he, t, l, rfl, ht, al, xl, rfl, hl, pl⟩ := Paired.at pJ hx
      have hj := ok.joi e (List.mem_of_getElem? he)
      have hi : i < 6 := Nat.lt_of_lt_of_le (List.getElem?_eq_some_iff.mp he).1 ok.j_few
      have few : ((o.joinings.take i).flatMap joiRows).length ≤ 54 := by
        refine Nat.le_trans (flat_len (B := 9) fun z hz => ?_) (Nat.mul_le_mul_right 9 (Nat.le_trans (List.length_take_le i _) (Nat.le_of_lt hi)))
        have := (ok.joi z (List.mem_of_mem_take hz)).few
        unfold joiRows
        rw [List.length_cons, List.length_map]
        omega
      have rs : (o.sources.map (entLine "source ") ++ o.parts.map (entLine "part ") ++ (o.joinings.take i).flatMap joiRows).length ≤ 66 := by
        rw [List.length_append, List.length_append]
        omega
      generalize hrows : o.sources.map (entLine "source ") ++ o.parts.map (entLine "part ") ++ (o.joinings.take i).flatMap joiRows = rows at hLi rs
      refine ⟨t, _, rfl, SqT.same si ht, rfl, _, _, rfl, _, _, rfl, ⟨rfl, ?_⟩⟩
      refine ⟨_, rfl, .inl ⟨rfl, _, SqL.of hLi⟩, _, rfl, _, _, rfl, rfl, ?_, D, _, _, rfl, rfl, hLi, ?_, ?_⟩
      · rw [joi_len]
        exact Nat.le_trans (Nat.add_le_add_left hj.name.2.1 8) (by decide)
      · rw [List.length_map]
        show rows.length < 16777216
        omega
      have s5 : Same H (upd H' D (.lst (rows.map V.str ++ [V.str ("joining " ++ e.1)]))) := fun b z q => by
        rw [upd_ne (ne_of_none q hD)]
        exact si _ _ q
      refine ⟨_, rfl, .inl ⟨rfl, _, SqL.of upd_same⟩, into_args1 (comp_pure (f := tieLine) (R := TieAt K H) (R' := fun _ => StrV) (fun R r => ⟨_, rfl, r⟩) (Same.seq s5 hl) pl ?_ (fun _ _ _ h => h) (fun _ _ _ _ h => h) (fun x e2 H0 Z r he2 s0 hz => ?_) (fun H6 D6 acc hD6 s6 hL6 hp6 => ?_))⟩
      · rw [pl.length]
        exact Nat.lt_of_le_of_lt hj.few (by decide)
      · obtain ⟨t2, rfl, ht2⟩ := r
        have jt := hj.tie e2 he2
        have l1 : e2.1.length ≤ 6 := by
          obtain ⟨y, hy, ey⟩ := List.mem_map.mp jt.1
          exact ey ▸ (ok.prt y hy).1.2.1
        have l2 := junc_len jt.2.1
        have l3 := junc_len jt.2.2
        refine ⟨rfl, ⟨_, rfl⟩, _, rfl, t2, _, rfl, .inr (SqT.same (s5.trans s0) ht2), fun q hq => ⟨_, q, [e2.1, e2.2.1, e2.2.2], rfl, rfl, .inl (SqL.of upd_same), Nat.le_trans (tie_join l1 l2 l3) (by decide), _, _, rfl, rfl, ?_, hz _ _ (same_upd hq) rfl⟩⟩
        rw [tie_len]
        exact Nat.le_trans (Nat.add_le_add_left (join3_len l1 l2 l3) 4) (by decide)
      have eL6 := strs_are hp6
      subst eL6
      refine ⟨D, D6, _, _, rfl, rfl, s6 _ _ upd_same, hL6, ?_, ?_⟩
      · rw [List.length_append, List.length_map, List.length_map, List.length_map, List.length_singleton]
        have := hj.few
        show rows.length + 1 + e.2.length ≤ 16777216
        omega
      refine ⟨_, _, _, _, rfl, ?_, fun b z q => ?_⟩
      · rw [upd_same, take_snoc he, List.flatMap_append, ← List.append_assoc, hrows, List.map_append, List.flatMap_singleton]
        unfold joiRows joiLine
        simp
      · rw [upd_ne (ne_of_none q hD)]
        exact s6 _ _ (s5 _ _ q)
    · rintro σ' H' ⟨v2, v3, v4, v5, rfl, hLi, si⟩
      rw [show o.joinings.take xJ.length = o.joinings by rw [pJ.length, List.take_length]] at hLi
      have few : (o.joinings.flatMap joiRows).length ≤ 54 := by
        refine Nat.le_trans (flat_len (B := 9) fun z hz => ?_) (Nat.mul_le_mul_right 9 ok.j_few)
        have := (ok.joi z hz).few
        unfold joiRows
        rw [List.length_cons, List.length_map]
        omega
      refine ⟨⟨_, rfl⟩, ⟨by show 1 ≤ sizeLine; decide, fun q hq => ⟨_, rfl, ?_⟩⟩⟩
      have nqD : q ≠ D := fun z => by rw [z, hLi] at hq; cases hq
      refine ⟨q, D, _, _, rfl, rfl, upd_same, (upd_ne nqD.symm).trans hLi, ?_, fun p hp => ?_⟩
      · rw [List.length_singleton, List.length_map, List.length_append, List.length_append]
        show 1 + _ ≤ 16777216
        omega
      refine ⟨_, p, rowsOf o, rfl, rfl, .inl (SqL.of ?_), ?_, k _ fun b z h => ?_⟩
      · rw [upd_same]
        rfl
      · exact rows_join ok
      · rw [upd_ne (ne_of_none (o := z) (by rw [upd_ne (ne_of_none (si _ _ h) hq)]; exact si _ _ h) hp), upd_ne (ne_of_none (si _ _ h) hq)]
        exact si _ _ h
end
end Ct
namespace Ct
open PySem PySem.Spec PyProof.Rows L2 TL RZ
def fr (r : Rat) : Int × Int := (r.num, (r.den : Int))
def ownOf (src prt : List (Str × Int)) (ties : Ties) (sz k : Rat) : Own := ⟨src.map fun e => (e.1, fr (intQ e.2 * k)), prt.map fun e => (e.1, fr (intQ e.2 * sz)), [("j", ties)]⟩
/-- a name with an integer -/
def IntEnt (K : PySem.W.Frag) (H : Hp) (v : V) (e : Str × Int) : Prop := ∃ t, v = .ref t ∧ SqT K H t [.str e.1, .int e.2]
theorem IntEnt.same {K : PySem.W.Frag} {H H' : Hp} (s : Same H H') {v : V} {e : Str × Int} : IntEnt K H v e → IntEnt K H' v e := fun ⟨t, q, h⟩ => ⟨t, q, SqT.same s h⟩
theorem RatAt.fr {K : PySem.W.Frag} {H : Hp} {v : V} {r : Rat} (h : RatAt K H v r) : FrAt K H v (fr r) := h
theorem SqL.dict {K : PySem.W.Frag} {H : Hp} {D a : Addr} {k k' : List (Key × V)} {xs : List V} (hD : H D = some (.dK k)) (h : SqL K H a xs) : SqL K (upd H D (.dK k')) a xs := by
  rcases h with (h | ⟨o, h⟩) | h
  · exact .inl (.inl ((upd_ne (ne_of h hD (by intro z; cases z))).trans h))
  · exact .inl (.inr ⟨o, (upd_ne (ne_of h hD (by intro z; cases z))).trans h⟩)
  · exact .inr h
theorem LsAt.dict {K : PySem.W.Frag} {H : Hp} {β : Type} {R R' : V → β → Prop} {D : Addr} {k k' : List (Key × V)} (hD : H D = some (.dK k)) (m : ∀ v b, R v b → R' v b) {v : V} {es : List β} : LsAt K H R v es → LsAt K (upd H D (.dK k')) R' v es := fun ⟨a, vs, e, h, p⟩ => ⟨a, vs, e, SqL.dict hD h, p.mono m⟩
theorem JoiAt.dict {K : PySem.W.Frag} {H : Hp} {D : Addr} {k k' : List (Key × V)} (hD : H D = some (.dK k)) {v : V} {e : Str × List (Str × Str × Str)} : JoiAt K H v e → JoiAt K (upd H D (.dK k')) v e := fun ⟨t, l, e, h, q⟩ => ⟨t, l, e, SqT.dict hD h, q.dict hD fun _ _ => TieAt.dict hD⟩
def IntsFit (l : List (Str × Int)) : Prop := ∀ e ∈ l, FitR 4000 (intQ e.2)
def spLText (K : PySem.W.Frag) : Sp := fun vs H Q _ => ∃ (s p t z b : V) (src prt : List (Str × Int)) (ties : Ties) (sz k : Rat), vs = [s, p, t, z, b] ∧ LsAt K H (IntEnt K H) s src ∧ LsAt K H (IntEnt K H) p prt ∧ LsAt K H (TieAt K H) t ties ∧ RatAt K H z sz ∧ RatAt K H b k ∧
  IntsFit src ∧ IntsFit prt ∧ FitR 4000 sz ∧ FitR 4000 k ∧ OwnOk (ownOf src prt ties sz k) ∧ ∀ H', Same H H' → Q (.str (textOf (ownOf src prt ties sz k))) H'
section
variable {P : Program} {w : World} {K : PySem.W.Frag} {mg : Str → Option Value} {base : Heap}
end
end Ct

/-! Promises of defs that are only called where no repr of a container is under way (the law and what it calls itself), and repr of data. -/
namespace Ct
open PySem PySem.Spec PyProof.Rows L2 TL
structure FnG (P : Program) (w : World) (K : PySem.W.Frag) (mg : Str → Option Value) (base : Heap) (k : Nat) (f : Addr) (fd : FuncData) (ps : List Str) (sp : Sp) : Prop where
  len : ∀ vs H Q E, sp vs H Q E → vs.length = ps.length
  run : ∀ (A : Around) (outer : List Env) (s : Shared) (H : Hp) (args : Args) (us : List Value) (vs : List V) (Q : VK),
    Room k A → A.guards = some [] → Env0 P w K mg base A outer s H → BindsTo s fd args (ps.zip us) → Vals vs us → sp vs H Q E0 →
    codeAny (model P w) A (.call (.ref f) args) (CR CX0 outer P w H s Q E0) s
theorem fnG_of {P : Program} {w : World} {K : PySem.W.Frag} {mg : Str → Option Value} {base : Heap} {x qual : Str} {st : Stmt} {f : Addr} {fd : FuncData} {N ps : List Str} {k : Nat} {sp : Sp}
    (D : Fun K x qual st f fd) (S : FnScope N ps (defScope st)) (len : ∀ vs H Q E, sp vs H Q E → vs.length = ps.length)
    (body : ∀ (cdv : Value) (A : Around) (outer : List Env) (s : Shared) (H : Hp) (vs : List V) (Q : VK), A.guards = some [] → Room k (A.deeper (envOfC qual (defScope st) s.heap.objs.size f cdv)) → sp vs H Q E0 →
      ∃ t, PSs (cxOf CX0 P w K mg base N qual (defScope st) f cdv A outer s H E0).nox (defBody st) t ∧ t { nx := fun _ H' => Q .non H', rt := Q } (start N vs) H) : FnG P w K mg base (k + 1) f fd ps sp := by
  obtain ⟨oc, od, kV, doc, pm, an, cdv, ct, osl, efd, look, code⟩ := D.ex
  subst efd
  refine ⟨len, fun A outer s H args us vs Q room hgd e0 bind rv hsp => ?_⟩
  have many := len _ _ _ _ hsp
  have KX : K.In s.heap := e0.mod.kin.keeps fun b ob e => (e0.bs b ob e).1
  have noLim : s.heap.NoLimit := e0.mod.nolimit.keeps fun b ob e => (e0.bs b ob e).1
  have kinds : ∀ y ∈ ps.zip us, (defScope st).names.lookup y.1 = some .local ∨
      ((defScope st).names.lookup y.1 = some .cell ∧ ((cellsFrom (s.heap.objs.size + 1) (defScope st).names []).lookup y.1).isSome = true) := by
    rintro ⟨n, v⟩ hy
    have z := S.par n (List.of_mem_zip hy).1
    exact z.elim .inl fun c => .inr ⟨c, PySem.W.cellsFrom_some _ _ _ (.inl c)⟩
  refine codeAny_call_function room.depth (KX _ _ look) rfl S.co S.gen rfl (PySem.W.codeRec_of KX code) (bind _ _ _ _ ?_)
  refine wpAny_newFunctionEnv_cells S.kind kinds fun env eenv s1 x1 => ?_
  subst eenv
  refine ⟨noLim.keeps x1.toInCall.keep, codeAny_func ?_⟩
  obtain ⟨t, ht, hq⟩ := body cdv A outer s H vs Q hgd (room.deeper _) hsp
  have I : Inv (cxOf CX0 P w K mg base N qual (defScope st) f cdv A outer s H E0) [] (start N vs) H s1 := inv_start S room.hd e0 many rv x1
  refine wpAny_mono (ht.nox.run [] s1 (start N vs) H _ I hq) (fun fl s2 hs => ?_) fun e s2 hs => hs
  have close : ∀ {σ2 : L2.St} {H2 : Hp} {v : V} {u : Value}, Inv (cxOf CX0 P w K mg base N qual (defScope st) f cdv A outer s H E0) [] σ2 H2 s2 → RelV v u → Q v H2 → CE outer P w H s Q u s2 := by
    intro σ2 H2 v u J r q
    exact ⟨v, H2, J.os, J.bare, J.base, J.hok, r, q⟩
  cases fl with
  | ret u =>
    obtain ⟨v, σ2, H2, J, r, q⟩ := hs
    exact close J r q
  | next =>
    obtain ⟨σ2, H2, J, q⟩ := hs
    exact close (v := V.non) (u := Value.none) J rfl q
  | brk =>
    obtain ⟨_, _, _, z⟩ := hs
    exact z.elim
  | cont =>
    obtain ⟨_, _, _, z⟩ := hs
    exact z.elim
/-- called by its name -/
structure KeepsG (P : Program) (w : World) (K : PySem.W.Frag) (mg : Str → Option Value) (base : Heap) (k : Nat) (x : Str) (ps : List Str) (sp : Sp) : Prop where
  ex : ∃ (f : Addr) (fd : FuncData), FnG P w K mg base k f fd ps sp ∧ mg x = some (.ref f) ∧ PySem.W.keepIn K (.ref f) = true ∧ Binds K fd ps []
theorem Lies.keepsG {P : Program} {w : World} {K : PySem.W.Frag} {mg : Str → Option Value} {base : Heap} {x : Str} {st : Stmt} {N ps : List Str} {k : Nat} {sp : Sp} (D : Lies K mg x st) (S : FnScope N ps (defScope st))
    (hb : ∀ (kV doc pm : Value) (an : Option Addr) (cdv ct : Value) (us : List Value), us.length = ps.length → bindArgs (PySem.W.fnOf x x (defArgs st) (defBody st) (defScope st) .none kV doc pm an cdv ct) ⟨us, []⟩ = pure (ps.zip us))
    (len : ∀ vs H Q E, sp vs H Q E → vs.length = ps.length)
    (body : ∀ (f : Addr) (cdv : Value) (A : Around) (outer : List Env) (s : Shared) (H : Hp) (vs : List V) (Q : VK), A.guards = some [] → Room k (A.deeper (envOfC x (defScope st) s.heap.objs.size f cdv)) → sp vs H Q E0 →
      ∃ t, PSs (cxOf CX0 P w K mg base N x (defScope st) f cdv A outer s H E0).nox (defBody st) t ∧ t { nx := fun _ H' => Q .non H', rt := Q } (start N vs) H) : KeepsG P w K mg base (k + 1) x ps sp := by
  obtain ⟨f, fd, F, hm⟩ := D.ex
  exact ⟨f, fd, fnG_of F S len (body f), hm, F.kp, F.binds hb⟩
section
variable {X : Cx}
theorem pe_goG {k : Nat} {x : Str} {p pos : Pos} {e : Expr} {es : List Expr} {ps : List Str} {sp : Sp} {t : TA} (G : KeepsG X.prog X.w X.K X.mg X.base k x ps sp) (hgd : X.A.guards = some []) (hr : Room k X.A) (hg : Gl X x) (ha : PA X (e :: es) t)
    (hdb : (x == ("__debug__" : Str)) = false := by decide) (he : starEach (e :: es) X.env = (false, eval e X.env) :: starEach es X.env := by rfl) (hpl : (backTo pos (starEach es X.env)).any (·.1) = false := by rfl) :
    PE X (.Call (.Name x p) (e :: es) [] pos) (tCall sp [] E0 t) := by
  obtain ⟨f, fd, F, hm, hk, hb⟩ := G.ex
  refine ⟨fun pins s σ H Q I h => wpAny_Call_Name_kw (ld_glob I hg hm ?_ hdb)⟩
  refine PySem.W.callWith_K (h₀ := X.base) I.ok.mod.kin hk (thn (ha.run pos pins s σ H _ I h) fun us s1 z => ?_) he hpl
  obtain ⟨vs, H1, J, rv, q⟩ := z
  have q : sp (vs ++ []) H1 Q E0 := q
  rw [List.append_nil] at q
  refine ⟨J.kIn, ?_⟩
  have many : us.length = ps.length := by
    rw [← rv.length]
    exact F.len _ _ _ _ q
  have bd := hb s1 us J.kIn (by rw [List.append_nil]; exact many)
  rw [List.append_nil] at bd
  refine wpAny_call (codeAny_mono (F.run X.A X.stack s1 H1 ⟨us, []⟩ us vs Q hr hgd J.env0 bd rv q) fun r s2 hq => ?_)
  cases r with
  | error er => exact False.elim hq
  | ok fl =>
    cases fl with
    | ret u => exact J.after hq
    | next => exact hq.elim
    | brk => exact hq.elim
    | cont => exact hq.elim
/-- repr of data: its text -/
theorem call_reprD (hgd : X.A.guards = some []) (hr : Room 1 X.A) : CallR X (.builtin "repr") fun xs H Q =>
    ∃ (a : Addr) (d : PyData), xs = [.ref a] ∧ Dp X.K H (.ref a) d ∧ d.showable = true ∧ d.hasDict = false ∧ d.depth ≤ 20 ∧ d.shown.length ≤ sizeLine ∧ Q (.str d.shown) H := by
  intro pins s σ H xs us Q I r h
  obtain ⟨a, d, rfl, hd, sh, nd, dep, sz, q⟩ := h
  cases r with
  | cons rv rn =>
    cases rn
    obtain ⟨as, rd⟩ := Dp.reads I d _ _ hd rv
    cases rv
    have un := hr.un
    refine repr_of_reads' rd sh (fun z => ?_) hgd (by omega) (fun b o e => e) (fun h' u tk keep => ?_) sz
    · rw [nd] at z
      cases z
    · exact ⟨.str d.shown, H, I.kept (t' := tk) keep, ⟨u, rfl⟩, q⟩
end
end Ct

/-! Entries as data: what repr and == read. -/
namespace Ct
open PySem PySem.Spec PyProof.Rows L2 TL
def frD (f : Int × Int) : PyData := .tuple [.int f.1, .int f.2]
def entD (e : Str × Int × Int) : PyData := .tuple [.str e.1, frD e.2]
section
variable {K : PySem.W.Frag} {H : Hp}
theorem FrAt.dp {v : V} {f : Int × Int} : FrAt K H v f → Dp K H v (frD f) := fun ⟨t, e, h⟩ => e ▸ .tup h (.cons (.int _) (.cons (.int _) .nil))
theorem EntAt.dp {v : V} {e : Str × Int × Int} : EntAt K H v e → Dp K H v (entD e) := fun ⟨t, u, q, h, r⟩ => q ▸ .tup h (.cons (.str _) (.cons r.dp .nil))
theorem ents_dp {xs : List V} {es : List (Str × Int × Int)} (h : Paired (EntAt K H) xs es) : DpAll K H xs (es.map entD) := by
  induction h with
  | nil => exact .nil
  | cons r _ ih => exact .cons r.dp ih
end
structure EntOk (e : Str × Int × Int) : Prop where
  nm : Name e.1
  fr : FrOk e.2
theorem sign_low {x : Str} (h : Name x) : ∀ c ∈ x.cps.toList, c ≤ 122 := fun c hc => (h.2.2.1 c hc).2
theorem int_weight {i : Int} (h : i.natAbs < 2 ^ 1000) : PyData.weight (.int i) ≤ 1000 := by
  simp only [PyData.weight]
  split
  · exact Nat.zero_le _
  · rename_i z
    have n0 : i.natAbs ≠ 0 := fun q => z (by rw [Int.natAbs_eq_zero.mp q]; rfl)
    have := (Nat.log2_lt n0).mpr h
    omega
theorem fr_weight {f : Int × Int} (h : FrOk f) : (frD f).weight ≤ 2002 := by
  have a := int_weight h.2.2.1
  have b := int_weight h.2.2.2
  simp only [frD, PyData.weight, PyData.weightAll] at a b ⊢
  omega
theorem ent_weight {e : Str × Int × Int} (h : EntOk e) : (entD e).weight ≤ 2010 := by
  have a := fr_weight h.fr
  have b : e.1.cps.size ≤ 6 := h.nm.2.1
  simp only [entD, PyData.weight, PyData.weightAll] at a b ⊢
  omega
theorem ents_weight : ∀ {es : List (Str × Int × Int)}, (∀ e ∈ es, EntOk e) → PyData.weightAll (es.map entD) ≤ 2011 * es.length
  | [], _ => by simp [PyData.weightAll]
  | e :: r, h => by
    have a := ent_weight (h e List.mem_cons_self)
    have b := ents_weight fun z hz => h z (List.mem_cons_of_mem _ hz)
    simp only [List.map_cons, PyData.weightAll, List.length_cons] at a b ⊢
    omega
theorem ent_lay {e : Str × Int × Int} (h : EntOk e) : (entD e).canLay0 = true := by
  have q : PyData.strOk e.1 = true := by
    unfold PyData.strOk
    rw [← Array.all_toList, List.all_eq_true]
    intro c hc
    have := sign_low h.nm c hc
    exact decide_eq_true (by omega)
  simp only [entD, frD, PyData.canLay0, PyData.canLayAll0, q, Bool.and_self, Bool.and_true]
theorem ents_lay : ∀ {es : List (Str × Int × Int)}, (∀ e ∈ es, EntOk e) → PyData.canLayAll0 (es.map entD) = true
  | [], _ => by simp only [List.map_nil, PyData.canLayAll0]
  | e :: r, h => by
    simp only [List.map_cons, PyData.canLayAll0, ent_lay (h e List.mem_cons_self), ents_lay fun z hz => h z (List.mem_cons_of_mem _ hz), Bool.and_self]
theorem ent_depth (e : Str × Int × Int) : (entD e).depth = 2 := by
  simp only [entD, frD, PyData.depth, PyData.depthAll]
  decide
theorem ents_depth : ∀ (es : List (Str × Int × Int)), PyData.depthAll (es.map entD) ≤ 2
  | [] => by simp only [List.map_nil, PyData.depthAll]; decide
  | e :: r => by
    have a := ents_depth r
    simp only [List.map_cons, PyData.depthAll, ent_depth]
    omega
theorem ents_shaped {es : List (Str × Int × Int)} (h : ∀ e ∈ es, EntOk e) : SeqAt.shaped (.list (es.map entD)) = true := by
  have a := ents_depth es
  unfold SeqAt.shaped
  simp only [PyData.canLay0, PyData.depth, ents_lay h, Bool.true_and]
  exact decide_eq_true (by omega)
theorem int_show {i : Int} (h : i.natAbs < 2 ^ 1000) : (PyData.int i).showable = true := by
  simp only [PyData.showable]
  exact decide_eq_true (log_of h)
theorem ent_show {e : Str × Int × Int} (h : EntOk e) : (entD e).showable = true := by
  have a := int_show h.fr.2.2.1
  have b := int_show h.fr.2.2.2
  simp only [PyData.showable] at a b
  simp only [entD, frD, PyData.showable, PyData.showableAll, a, b, Bool.and_self]
theorem ents_show : ∀ {es : List (Str × Int × Int)}, (∀ e ∈ es, EntOk e) → PyData.showableAll (es.map entD) = true
  | [], _ => by simp only [List.map_nil, PyData.showableAll]
  | e :: r, h => by
    simp only [List.map_cons, PyData.showableAll, ent_show (h e List.mem_cons_self), ents_show fun z hz => h z (List.mem_cons_of_mem _ hz), Bool.and_self]
theorem ents_nodict : ∀ (es : List (Str × Int × Int)), PyData.hasDictAll (es.map entD) = false
  | [] => by simp only [List.map_nil, PyData.hasDictAll]
  | e :: r => by
    simp only [List.map_cons, PyData.hasDictAll, ents_nodict r, entD, frD, PyData.hasDict, Bool.or_self]
theorem int_short {i : Int} (h : i.natAbs < 2 ^ 1000) : (PyData.int i).leavesShort 303 = true := by
  simp only [PyData.leavesShort]
  exact decide_eq_true (numText_len h)
theorem ent_short {e : Str × Int × Int} (h : EntOk e) : (entD e).leavesShort 303 = true := by
  have a := int_short h.fr.2.2.1
  have b := int_short h.fr.2.2.2
  have c : (e.1.cps.toList.all fun c => decide (c < 16 ^ 8)) = true := by
    rw [List.all_eq_true]
    intro c hc
    have := sign_low h.nm c hc
    exact decide_eq_true (Nat.lt_of_le_of_lt this (by decide))
  simp only [PyData.leavesShort] at a b
  simp only [entD, frD, PyData.leavesShort, PyData.leavesShortAll, a, b, c, Bool.and_self]
theorem ents_short : ∀ {es : List (Str × Int × Int)}, (∀ e ∈ es, EntOk e) → PyData.leavesShortAll 303 (es.map entD) = true
  | [], _ => by simp only [List.map_nil, PyData.leavesShortAll]
  | e :: r, h => by
    simp only [List.map_cons, PyData.leavesShortAll, ent_short (h e List.mem_cons_self), ents_short fun z hz => h z (List.mem_cons_of_mem _ hz), Bool.and_self]

/-- fractions of fewer than 1000 bits -/
def Fits1 (a : List Rat) : Prop := ∀ r ∈ a, FitR 1000 r
theorem frOk_fr {r : Rat} (h : FitR 1000 r) : FrOk (fr r) := by
  have d0 := r.den_pos
  have h1 := h.1
  have h2 := h.2
  refine ⟨?_, ?_, h1, ?_⟩
  · show 0 < (r.den : Int)
    omega
  · show Int.gcd r.num (r.den : Int) = 1
    have := r.reduced
    rw [Nat.Coprime] at this
    unfold Int.gcd
    simpa using this
  · show ((r.den : Int)).natAbs < 2 ^ 1000
    simpa using h2
theorem ratD_fr (r : Rat) : ratD r = frD (fr r) := rfl
theorem fr_lay (f : Int × Int) : (frD f).canLay0 = true := rfl
theorem fr_depth (f : Int × Int) : (frD f).depth ≤ 2 := by
  simp only [frD, PyData.depth, PyData.depthAll]
  decide
theorem fr_show {f : Int × Int} (h : FrOk f) : (frD f).showable = true := by
  have a := int_show h.2.2.1
  have b := int_show h.2.2.2
  simp only [frD, PyData.showable, PyData.showableAll] at a b ⊢
  simp only [a, b, Bool.and_self]
theorem fr_short {f : Int × Int} (h : FrOk f) : (frD f).leavesShort 303 = true := by
  have a := int_short h.2.2.1
  have b := int_short h.2.2.2
  simp only [frD, PyData.leavesShort, PyData.leavesShortAll] at a b ⊢
  simp only [a, b, Bool.and_self]
structure Shows (d : PyData) : Prop where
  show_ : d.showable = true
  nodict : d.hasDict = false
  flat : d.depth ≤ 20
  short : d.shown.length ≤ sizeLine
theorem rat_shows {r : Rat} (h : FitR 1000 r) : Shows (ratD r) := by
  have f := frOk_fr h
  refine ⟨by rw [ratD_fr]; exact fr_show f, rfl, ?_, ?_⟩
  · rw [ratD_fr]
    have := fr_depth (fr r)
    omega
  · have w := fr_weight f
    have l := fr_short f
    rw [← ratD_fr] at w l
    have := PyData.shown_le 303 (by decide) _ l
    show _ ≤ 16777216
    omega
theorem rats_weight : ∀ {rs : List Rat}, Fits1 rs → PyData.weightAll (rs.map ratD) ≤ 2011 * rs.length
  | [], _ => by simp [PyData.weightAll]
  | r :: rs, h => by
    have a := fr_weight (frOk_fr (h r List.mem_cons_self))
    have b := rats_weight fun z hz => h z (List.mem_cons_of_mem _ hz)
    simp only [List.map_cons, PyData.weightAll, List.length_cons, ratD_fr] at a b ⊢
    omega
theorem rats_showA : ∀ {rs : List Rat}, Fits1 rs → PyData.showableAll (rs.map ratD) = true
  | [], _ => by simp only [List.map_nil, PyData.showableAll]
  | r :: rs, h => by
    have a := fr_show (frOk_fr (h r List.mem_cons_self))
    rw [← ratD_fr] at a
    simp only [List.map_cons, PyData.showableAll, a, rats_showA fun z hz => h z (List.mem_cons_of_mem _ hz), Bool.and_self]
theorem rats_nodict : ∀ (rs : List Rat), PyData.hasDictAll (rs.map ratD) = false
  | [] => by simp only [List.map_nil, PyData.hasDictAll]
  | r :: rs => by
    simp only [List.map_cons, PyData.hasDictAll, rats_nodict rs, ratD, PyData.hasDict, Bool.or_self]
theorem rats_shortA : ∀ {rs : List Rat}, Fits1 rs → PyData.leavesShortAll 303 (rs.map ratD) = true
  | [], _ => by simp only [List.map_nil, PyData.leavesShortAll]
  | r :: rs, h => by
    have a := fr_short (frOk_fr (h r List.mem_cons_self))
    rw [← ratD_fr] at a
    simp only [List.map_cons, PyData.leavesShortAll, a, rats_shortA fun z hz => h z (List.mem_cons_of_mem _ hz), Bool.and_self]
theorem rats_shows {rs : List Rat} (h : Fits1 rs) (few : rs.length ≤ 8) : Shows (ratsD rs) := by
  refine ⟨?_, ?_, ?_, ?_⟩
  · simp only [ratsD, PyData.showable, rats_showA h]
  · simp only [ratsD, PyData.hasDict, rats_nodict]
  · have := rats_depth rs
    simp only [ratsD, PyData.depth]
    omega
  · have w : (ratsD rs).weight ≤ 20000 := by
      have a := rats_weight h
      simp only [ratsD, PyData.weight]
      omega
    have l : (ratsD rs).leavesShort 303 = true := by
      simp only [ratsD, PyData.leavesShort, rats_shortA h]
    have := PyData.shown_le 303 (by decide) _ l
    show _ ≤ 16777216
    omega
/-- told pairs of a name and a fraction -/
def potsD (es : List (Str × Rat)) : PyData := .tuple (es.map fun e => entD (e.1, fr e.2))
theorem pots_shows {es : List (Str × Rat)} (h : ∀ e ∈ es, Name e.1 ∧ FitR 1000 e.2) (few : es.length ≤ 8) : Shows (potsD es) := by
  have ok : ∀ e ∈ es.map (fun e => (e.1, fr e.2)), EntOk e := by
    intro e he
    obtain ⟨x, hx, rfl⟩ := List.mem_map.mp he
    exact ⟨(h x hx).1, frOk_fr (h x hx).2⟩
  have q : potsD es = .tuple ((es.map fun e => (e.1, fr e.2)).map entD) := by
    unfold potsD
    rw [List.map_map]
    rfl
  have len : (es.map fun e => (e.1, fr e.2)).length = es.length := List.length_map ..
  rw [q]
  generalize es.map (fun e => (e.1, fr e.2)) = l at *
  refine ⟨?_, ?_, ?_, ?_⟩
  · simp only [PyData.showable, ents_show ok]
  · simp only [PyData.hasDict, ents_nodict]
  · have := ents_depth l
    simp only [PyData.depth]
    omega
  · have w : (PyData.tuple (l.map entD)).weight ≤ 20000 := by
      have a := ents_weight ok
      simp only [PyData.weight]
      omega
    have s : (PyData.tuple (l.map entD)).leavesShort 303 = true := by
      simp only [PyData.leavesShort, ents_short ok]
    have := PyData.shown_le 303 (by decide) _ s
    show _ ≤ 16777216
    omega
theorem dpAll_pots {K : PySem.W.Frag} {H : Hp} {xs : List V} {es : List (Str × Rat)} (p : Paired (fun v (e : Str × Rat) => ∃ t u, v = .ref t ∧ SqT K H t [.str e.1, u] ∧ RatAt K H u e.2) xs es) : DpAll K H xs (es.map fun e => entD (e.1, fr e.2)) := by
  induction p with
  | nil => exact .nil
  | cons r _ ih =>
    obtain ⟨t, u, rfl, ht, hu⟩ := r
    exact .cons (.tup ht (.cons (.str _) (.cons hu.dp .nil))) ih
theorem PotsAt.dp {K : PySem.W.Frag} {H : Hp} {v : V} {es : List (Str × Rat)} : PotsAt K H v es → Dp K H v (potsD es) := fun ⟨a, xs, e, h, p⟩ => e ▸ .tup h (dpAll_pots p)
end Ct

/-! What is left when the pot is taken out. -/
namespace Ct
open PySem PySem.Spec PyProof.Rows L2 TL RZ
section
variable {K : PySem.W.Frag} {H : Hp} {p : Addr} {ys : List V}
theorem SqL.hide (hp : H p = some (.lst ys)) {a : Addr} {xs : List V} (h : SqL K H a xs) (n : xs ≠ ys) : SqL K (hide p H) a xs := by
  rcases h with (h | ⟨o, h⟩) | h
  · exact .inl (.inl ((hide_ne fun q => by rw [q, hp] at h; cases h; exact n rfl).trans h))
  · exact .inl (.inr ⟨o, (hide_ne fun q => by rw [q, hp] at h; cases h).trans h⟩)
  · exact .inr h
theorem FrAt.hide (hp : H p = some (.lst ys)) {v : V} {f : Int × Int} : FrAt K H v f → FrAt K (hide p H) v f := fun ⟨t, e, h⟩ => ⟨t, e, SqT.hide hp h⟩
theorem RatAt.hide (hp : H p = some (.lst ys)) {v : V} {r : Rat} : RatAt K H v r → RatAt K (hide p H) v r := fun ⟨t, e, h⟩ => ⟨t, e, SqT.hide hp h⟩
theorem RatsAt.hide (hp : H p = some (.lst ys)) {v : V} {rs : List Rat} : RatsAt K H v rs → RatsAt K (hide p H) v rs := fun ⟨a, xs, e, h, q⟩ => ⟨a, xs, e, SqT.hide hp h, q.mono fun _ _ h => RatAt.hide hp h⟩
theorem StandsAt.hide (hp : H p = some (.lst ys)) {v : V} {rs : List (List Rat)} : StandsAt K H v rs → StandsAt K (hide p H) v rs := fun ⟨a, xs, e, h, q⟩ => ⟨a, xs, e, SqT.hide hp h, q.mono fun _ _ h => RatsAt.hide hp h⟩
theorem EntAt.hide (hp : H p = some (.lst ys)) {v : V} {e : Str × Int × Int} : EntAt K H v e → EntAt K (hide p H) v e := fun ⟨t, u, q, h, r⟩ => ⟨t, u, q, SqT.hide hp h, FrAt.hide hp r⟩
/-- a list whose items are no integers is not the pot -/
theorem LsAt.hide {β : Type} {R R' : V → β → Prop} {a b c : Int} (hp : H p = some (.lst [.int a, .int b, .int c])) (step : ∀ v e, R v e → R' v e) (no : ∀ i e, ¬ R (.int i) e) {v : V} {es : List β} : LsAt K H R v es → LsAt K (Ct.hide p H) R' v es :=
  fun ⟨l, vs, e, h, pr⟩ => ⟨l, vs, e, SqL.hide hp h fun z => by
    subst z
    cases pr with
    | cons r _ => exact no _ _ r, pr.mono step⟩
theorem OwnAt.hide {a b c : Int} (hp : H p = some (.lst [.int a, .int b, .int c])) {v : V} {o : Own} : OwnAt K H v o → OwnAt K (Ct.hide p H) v o := by
  rintro ⟨d, s, q, j, e, hd, h1, h2, h3⟩
  have no : ∀ i (e : Str × Int × Int), ¬ EntAt K H (.int i) e := fun i e z => by
    obtain ⟨t, u, z, _⟩ := z
    cases z
  refine ⟨d, s, q, j, e, (hide_ne fun z => by rw [z, hp] at hd; cases hd).trans hd, LsAt.hide hp (fun _ _ h => EntAt.hide hp h) no h1, LsAt.hide hp (fun _ _ h => EntAt.hide hp h) no h2, LsAt.hide hp (fun v e h => ?_) (fun i e z => ?_) h3⟩
  · obtain ⟨t, l, r, h, q⟩ := h
    refine ⟨t, l, r, SqT.hide hp h, LsAt.hide hp (fun _ _ h => TieAt.hide hp h) (fun i e z => ?_) q⟩
    obtain ⟨t, z, _⟩ := z
    cases z
  · obtain ⟨t, l, z, _⟩ := z
    cases z
theorem JoTAt.hide (hp : H p = some (.lst ys)) {v : V} {e : Str × List (Str × Str × Str)} : JoTAt K H v e → JoTAt K (Ct.hide p H) v e := fun ⟨t, l, tv, a, b, c, d⟩ => ⟨t, l, tv, a, SqT.hide hp b, SqT.hide hp c, d.mono fun _ _ h => TieAt.hide hp h⟩
theorem TupN.hide (hp : H p = some (.lst ys)) {a : Addr} {xs : List V} : TupN H a xs → TupN (Ct.hide p H) a xs := fun ⟨od, h, r⟩ => ⟨od, (hide_ne fun z => by rw [z, hp] at h; cases h).trans h, r⟩
theorem CircN.hide {C : Addr} (hp : H p = some (.lst ys)) {v : V} {o : Own} : CircN K C H v o → CircN K C (Ct.hide p H) v o := fun ⟨c, dx, fs, ts, tp, tj, us, vs, ws, a, b, f1, f2, f3, f4, q1, q2, q3, r1, r2, r3⟩ =>
  ⟨c, dx, fs, ts, tp, tj, us, vs, ws, a, (hide_ne fun z => by rw [z, hp] at b; cases b).trans b, f1, f2, f3, f4, SqT.hide hp q1, TupN.hide hp q2, SqT.hide hp q3, r1.mono fun _ _ h => EntAt.hide hp h, r2.mono fun _ _ h => EntAt.hide hp h, r3.mono fun _ _ h => JoTAt.hide hp h⟩
end
end Ct

/-! Any drawn circuit. -/
namespace Ct
open PySem PySem.Spec PyProof.Rows L2 TL RZ
abbrev s_l_circuit_any : Stmt := top 61
abbrev N_l_circuit_any : List Str := ["pot", "parts", "joinings"]
theorem sc_l_circuit_any : FnScope N_l_circuit_any ["pot"] (defScope s_l_circuit_any) := ⟨rfl, rfl, rfl, by decide +kernel, rfl, by decide +kernel, by decide +kernel⟩
def spAny (K : PySem.W.Frag) : Sp := fun vs H Q _ => ∃ (p : Addr) (G : Hp) (n : Nat), vs = [.ref p] ∧ Beside p G H ∧ PotAt p H n ∧ n + 403 ≤ 1000000 ∧
  ∀ (v : V) (o : Own) (G' H' : Hp), Same G G' → Beside p G' H' → PotAt p H' (n + 403) → OwnAt K G' v o → OwnOk o → DrawnOk o → o.parts.length ≤ 5 → o.joinings.length ≤ 4 → o.sources.length ≤ 2 → Q v H'
section
variable {P : Program} {w : World} {K : PySem.W.Frag} {mg : Str → Option Value} {base : Heap}
theorem k_circuit_any (D : Lies K mg "_law_circuit_any" s_l_circuit_any) (T : Plain mg) (G_l_of : Keeps P w K mg base 2 "_law_of" ["pot", "some"] (spOf K)) (G_l_circuit_drawn : Keeps P w K mg base 4 "_law_circuit_drawn" ["pot", "parts", "joinings", "sources"] (spDrawnN K)) : Keeps P w K mg base 5 "_law_circuit_any" ["pot"] (spAny K) := by
  refine D.keeps sc_l_circuit_any (fun _ _ _ _ _ _ us hl => match us, hl with | [_], _ => rfl) (fun vs H Q E h => ?_) (fun f cdv A outer s H vs Q E hr h => ?_)
  · obtain ⟨p, G, n, rfl, _⟩ := h
    rfl
  · obtain ⟨p, G, n, rfl, bs, ht, hn, k⟩ := h
    refine ⟨_, (pss_cons (ps_par (i := 1) (j := 2) (by rfl) sc_l_circuit_any.nd rfl rfl (by decide) rfl rfl (pa_cons (pe_go G_l_of (hr.mono (by decide)) rfl (pa_cons (pv 0) (pa_cons (pe_lst (pa_cons pe_int (pa_cons pe_int (pa_cons pe_int (pa_cons pe_int (pa_cons pe_int (pa_cons pe_int pa_nil))))))) pa_nil))) (pa_cons (pe_go G_l_of (hr.mono (by decide)) rfl (pa_cons (pv 0) (pa_cons (pe_lst (pa_cons pe_int (pa_cons pe_int (pa_cons pe_int (pa_cons pe_int (pa_cons pe_int pa_nil)))))) pa_nil))) pa_nil)) (by rfl))
      (pss_one (ps_ret (pe_go G_l_circuit_drawn (hr.mono (by decide)) rfl (pa_cons (pv 0) (pa_cons (pv 1) (pa_cons (pv 2) (pa_cons (pe_go G_l_of (hr.mono (by decide)) rfl (pa_cons (pv 0) (pa_cons (pe_lst (pa_cons pe_int (pa_cons pe_int (pa_cons pe_int (pa_cons pe_int pa_nil))))) pa_nil))) pa_nil)))))))), ?_⟩
    refine into_seq (into_par (into_cons ?_))
    refine ⟨_, rfl, of_new [3, 2, 4, 3, 5, 1] bs ht (by omega) (by decide) (by decide) fun a ha G1 H1 s1 b1 t1 => ?_⟩
    refine into_args1 ?_
    refine ⟨_, rfl, of_new [2, 3, 1, 2, 4] b1 t1 (by omega) (by decide) (by decide) fun b hb G2 H2 s2 b2 t2 => ⟨_, _, rfl, ?_⟩⟩
    have ha : 1 ≤ a ∧ a ≤ 5 := by
      simp only [List.mem_cons, List.not_mem_nil, or_false] at ha
      omega
    have hb : 1 ≤ b ∧ b ≤ 4 := by
      simp only [List.mem_cons, List.not_mem_nil, or_false] at hb
      omega
    obtain ⟨a, rfl⟩ := Int.eq_ofNat_of_zero_le (show 0 ≤ a by omega)
    obtain ⟨b, rfl⟩ := Int.eq_ofNat_of_zero_le (show 0 ≤ b by omega)
    dsimp only
    refine into_ret (into_call (into_cons ?_))
    refine ⟨_, rfl, _, rfl, _, rfl, ?_⟩
    refine ⟨_, rfl, of_new [1, 2, 0, 1] b2 t2 (by omega) (by decide) (by decide) fun c hc G3 H3 s3 b3 t3 => ?_⟩
    have hc : 0 ≤ c ∧ c ≤ 2 := by
      simp only [List.mem_cons, List.not_mem_nil, or_false] at hc
      omega
    obtain ⟨c, rfl⟩ := Int.eq_ofNat_of_zero_le (show 0 ≤ c by omega)
    refine ⟨p, G3, _, a, b, c, rfl, b3, t3, by omega, by omega, by omega, by omega, by omega, by omega, fun v o G4 H4 s4 b4 t4 ho ok dr la lb lc => ?_⟩
    exact k v o G4 H4 (s1.trans (s2.trans (s3.trans s4))) b4 (t4.more (by omega) (by omega)) ho ok dr (by omega) (by omega) (by omega)
end
end Ct

namespace Ct
open PySem PySem.Spec PyProof.Rows L2 TL RZ
theorem uniq : ∀ {l : List (Str × Int × Int)} {z e : Str × Int × Int}, (l.map (·.1)).Nodup → z ∈ l → e ∈ l → z.1 = e.1 → z = e
  | [], _, _, _, h, _, _ => nomatch h
  | y :: r, z, e, nd, hz, he, q => by
    rw [List.map_cons, List.nodup_cons] at nd
    rcases List.mem_cons.mp hz with a | hz
    · rcases List.mem_cons.mp he with b | he
      · rw [a, b]
      · exact absurd (show y.1 ∈ r.map (·.1) by rw [← a, q]; exact List.mem_map_of_mem he) nd.1
    · rcases List.mem_cons.mp he with b | he
      · exact absurd (show y.1 ∈ r.map (·.1) by rw [← b, ← q]; exact List.mem_map_of_mem hz) nd.1
      · exact uniq nd.2 hz he q
theorem set_back {l : List (Str × Int × Int)} {e : Str × Int × Int} (f : Int × Int) (nd : (l.map (·.1)).Nodup) (he : e ∈ l) : setFr e.1 e.2 (setFr e.1 f l) = l := by
  unfold setFr
  rw [List.map_map]
  refine (List.map_congr_left fun z hz => ?_).trans (List.map_id l)
  show (z.1, if z.1 = e.1 then e.2 else if z.1 = e.1 then f else z.2) = z
  by_cases q : z.1 = e.1
  · rw [if_pos q, uniq nd hz he q]
  · rw [if_neg q, if_neg q]
def setAll (l es : List (Str × Int × Int)) : List (Str × Int × Int) := es.foldl (fun l e => setFr e.1 e.2 l) l
theorem set_all {l : List (Str × Int × Int)} (nd : (l.map (·.1)).Nodup) : ∀ (es : List (Str × Int × Int)) (h : Str × Int × Int → Int × Int), (∀ e ∈ es, e ∈ l) →
    setAll (l.map fun z => (z.1, h z)) es = l.map fun z => (z.1, if z.1 ∈ es.map (·.1) then z.2 else h z)
  | [], h, _ => by simp [setAll]
  | e :: r, h, sub => by
    have he := sub e List.mem_cons_self
    show setAll (setFr e.1 e.2 (l.map fun z => (z.1, h z))) r = _
    have q : setFr e.1 e.2 (l.map fun z => (z.1, h z)) = l.map fun z => (z.1, if z.1 = e.1 then e.2 else h z) := by
      unfold setFr
      rw [List.map_map]
      rfl
    rw [q, set_all nd r _ fun x hx => sub x (List.mem_cons_of_mem _ hx)]
    refine List.map_congr_left fun z hz => ?_
    by_cases a : z.1 = e.1
    · have zz := uniq nd hz he a
      subst zz
      simp
    · by_cases b : z.1 ∈ r.map (·.1)
      · rw [if_pos b, if_pos (by rw [List.map_cons]; exact List.mem_cons_of_mem _ b)]
      · rw [if_neg b, if_neg a, if_neg (by rw [List.map_cons]; intro c; rcases List.mem_cons.mp c with c | c; exact a c; exact b c)]
theorem set_all_back {l : List (Str × Int × Int)} (nd : (l.map (·.1)).Nodup) : setAll (l.map fun e => (e.1, 0, 1)) l = l := by
  rw [set_all nd l (fun _ => (0, 1)) fun _ h => h]
  refine (List.map_congr_left fun z hz => ?_).trans (List.map_id l)
  rw [if_pos (List.mem_map_of_mem hz)]
  rfl
def Own.backs (o : Own) (i : Nat) : Own := { o with sources := setAll (o.sources.map fun e => (e.1, 0, 1)) (o.sources.take i) }
theorem backs_zero (o : Own) : o.backs 0 = o.ground := rfl
theorem backs_all {o : Own} (ok : OwnOk o) : o.backs o.sources.length = o := by
  unfold Own.backs
  rw [List.take_length, set_all_back ok.s_once]
theorem backs_next {o : Own} {i : Nat} {e : Str × Int × Int} (h : o.sources[i]? = some e) : (o.backs i).setSource e.1 e.2 = o.backs (i + 1) := by
  unfold Own.backs Own.setSource
  congr 1
  rw [List.take_add_one, h]
  unfold setAll
  rw [List.foldl_append]
  rfl
theorem setAll_names : ∀ (es l : List (Str × Int × Int)), (setAll l es).map (·.1) = l.map (·.1)
  | [], _ => rfl
  | e :: r, l => by
    show (setAll (setFr e.1 e.2 l) r).map (·.1) = _
    rw [setAll_names r, set_names]
theorem backs_names (o : Own) (i : Nat) : (o.backs i).sources.map (·.1) = o.sources.map (·.1) := by
  show (setAll _ _).map (·.1) = _
  rw [setAll_names, List.map_map]
  rfl
theorem backs_ok {o : Own} (ok : OwnOk o) : ∀ i, OwnOk (o.backs i)
  | 0 => by
    rw [backs_zero]
    exact ground_ok ok
  | i + 1 => by
    cases h : o.sources[i]? with
    | none =>
      have e : o.backs (i + 1) = o.backs i := by
        unfold Own.backs
        congr 2
        rw [List.take_add_one, h]
        exact List.append_nil _
      rw [e]
      exact backs_ok ok i
    | some e =>
      rw [← backs_next h]
      exact setSource_ok (backs_ok ok i) (ok.src e (List.mem_of_getElem? h)).2
theorem setPart_back {o : Own} {e : Str × Int × Int} (f : Int × Int) (ok : OwnOk o) (he : e ∈ o.parts) : (o.setPart e.1 f).setPart e.1 e.2 = o := by
  unfold Own.setPart
  rw [set_back f ok.p_once he]
theorem setSource_back {o : Own} {e : Str × Int × Int} (f : Int × Int) (ok : OwnOk o) (he : e ∈ o.sources) : (o.setSource e.1 f).setSource e.1 e.2 = o := by
  unfold Own.setSource
  rw [set_back f ok.s_once he]
/-! ### what is left when the pot is taken out -/
def bothD (o : Own) : PyData := .tuple [.tuple (o.sources.map entD), .tuple (o.parts.map entD)]
theorem src_ent {o : Own} (ok : OwnOk o) : ∀ e ∈ o.sources, EntOk e := fun e he => ⟨(ok.src e he).1, (ok.src e he).2⟩
theorem prt_ent {o : Own} (ok : OwnOk o) : ∀ e ∈ o.parts, EntOk e := fun e he => ⟨(ok.prt e he).1, (ok.prt e he).2.1⟩
theorem both_ok {o : Own} (ok : OwnOk o) : (bothD o).showable = true ∧ (bothD o).hasDict = false ∧ (bothD o).depth ≤ 20 ∧ (bothD o).shown.length ≤ 16777216 := by
  have s1 := src_ent ok
  have p1 := prt_ent ok
  refine ⟨?_, ?_, ?_, ?_⟩
  · simp only [bothD, PyData.showable, PyData.showableAll, ents_show s1, ents_show p1, Bool.and_self]
  · simp only [bothD, PyData.hasDict, PyData.hasDictAll, ents_nodict, Bool.or_self]
  · have a := ents_depth o.sources
    have b := ents_depth o.parts
    simp only [bothD, PyData.depth, PyData.depthAll]
    omega
  · have w : (bothD o).weight ≤ 25000 := by
      have a := ents_weight s1
      have b := ents_weight p1
      have c := ok.s_few
      have d := ok.p_few
      simp only [bothD, PyData.weight, PyData.weightAll]
      omega
    have l : (bothD o).leavesShort 303 = true := by
      simp only [bothD, PyData.leavesShort, PyData.leavesShortAll, ents_short s1, ents_short p1, Bool.and_self]
    have := PyData.shown_le 303 (by decide) _ l
    omega
end Ct

namespace Ct
open PySem PySem.Spec PyProof.Rows L2 TL RZ
abbrev s_l_edited : Stmt := top 62
abbrev N_l_edited : List Str := ["pot", "circuit", "own", "way", "parts", "sources", "name", "old", "size", "later", "voltage", "back"]
theorem sc_l_edited : FnScope N_l_edited ["pot", "circuit", "own"] (defScope s_l_edited) := ⟨rfl, rfl, rfl, by decide +kernel, rfl, by decide +kernel, by decide +kernel⟩
theorem or_pick {H1 : Hp} {c : Bool} {A : Hp → Prop} {R : Prop} (hA : ∀ H2, Same H1 H2 → A H2) (hR : c = false → (∀ H2, Same H1 H2 → A H2) → R) : if c = true then A H1 else R := by
  cases c with
  | true => exact iteT (hA _ (Same.refl _))
  | false => exact iteF (hR rfl hA)
/-- a circuit whose numbers have few digits -/
def FewOwn (o : Own) : Prop := (∀ e ∈ o.sources, Few18 e.2) ∧ ∀ e ∈ o.parts, Few18 e.2
theorem few_of {f : Int × Int} (hf : FrOk f) {D M : Nat} (w : Wn D M (ratF f)) (D0 : 0 < D) (hD : D < 2 ^ 59) (hM : M < 2 ^ 59) : Few18 f := by
  obtain ⟨e1, e2⟩ := ratF_parts hf
  obtain ⟨a, b⟩ := w.fit (b := 59) D0 hD hM
  rw [e1] at a
  refine ⟨Nat.lt_trans a (by decide), ?_⟩
  have : f.2.natAbs = (ratF f).den := by
    rw [← e2, Int.natAbs_natCast]
  rw [this]
  exact Nat.lt_trans b (by decide)
theorem few_drawn {f : Int × Int} (h : drawn (-9) 9 f) : Few18 f := few_of (drawn_ok h) (drawn_wn (n := 9) (by decide) h) (by decide) (by decide) (by decide)
theorem few_sizes {f : Int × Int} (h : f ∈ sizes7) : Few18 f := by
  simp only [sizes7, List.mem_cons, List.not_mem_nil, or_false] at h
  rcases h with rfl | rfl | rfl | rfl | rfl | rfl | rfl <;> exact ⟨by decide, by decide⟩
theorem few_own {o : Own} (dr : DrawnOk o) : FewOwn o := ⟨fun e he => few_drawn (dr.volts e he), fun e he => few_sizes (dr.sizes e he)⟩
theorem few_set {x : Str} {f : Int × Int} (hf : Few18 f) {l : List (Str × Int × Int)} (h : ∀ e ∈ l, Few18 e.2) : ∀ e ∈ setFr x f l, Few18 e.2 := fun e he => by
  obtain ⟨z, hz, rfl⟩ := List.mem_map.mp he
  show Few18 (if z.1 = x then f else z.2)
  split
  · exact hf
  · exact h z hz
theorem FewOwn.part {o : Own} {x : Str} {f : Int × Int} (h : FewOwn o) (hf : Few18 f) : FewOwn (o.setPart x f) := ⟨h.1, few_set hf h.2⟩
theorem FewOwn.source {o : Own} {x : Str} {f : Int × Int} (h : FewOwn o) (hf : Few18 f) : FewOwn (o.setSource x f) := ⟨few_set hf h.1, h.2⟩
theorem FewOwn.ground {o : Own} (h : FewOwn o) : FewOwn o.ground := ⟨fun e he => by
  obtain ⟨z, _, rfl⟩ := List.mem_map.mp he
  exact ⟨by show (0 : Int).natAbs < _; decide, by show (1 : Int).natAbs < _; decide⟩, h.2⟩
def spEdited (K : PySem.W.Frag) (C : Addr) : Sp := fun vs H Q _ => ∃ (p : Addr) (G : Hp) (n : Nat) (c v : V) (o : Own), vs = [.ref p, c, v] ∧ Beside p G H ∧ PotAt p H n ∧ n + 4 ≤ 1000000 ∧ CircN K C G c o ∧ OwnAt K G v o ∧ OwnOk o ∧ FewOwn o ∧
  ∀ (t : Addr) (c' v' b : V) (o' : Own) (G' H' : Hp), Same G G' → Beside p G' H' → PotAt p H' (n + 4) → G' t = some (.tup [c', v', b]) → CircN K C G' c' o' → OwnAt K G' v' o' → OwnOk o' → FewOwn o' → CircN K C G' b o → Q (.ref t) H'
theorem big_one {n : Nat} (h : n < 2 ^ 8) : n < 2 ^ 1000 := Nat.lt_of_lt_of_le h (Nat.pow_le_pow_right (by decide) (by decide))
theorem size_ok {f : Int × Int} (h : f ∈ ([(1, 1), (2, 1), (1, 2), (3, 2), (2, 3), (3, 1), (1, 3), (5, 3), (4, 5)] : List (Int × Int))) : (FrOk f ∧ 0 < f.1) ∧ Few18 f := by
  simp only [List.mem_cons, List.not_mem_nil, or_false] at h
  rcases h with rfl | rfl | rfl | rfl | rfl | rfl | rfl | rfl | rfl <;> exact ⟨⟨⟨by decide, by decide, big_one (by decide), big_one (by decide)⟩, by decide⟩, by decide, by decide⟩
/-- the last of an edit: all that it told lies beside the pot -/
theorem edited_end {K : PySem.W.Frag} {C p : Addr} {G G4 H4 H9 : Hp} {n : Nat} {o o' : Own} {Q : VK} {t : Addr} {c' v' b : V} (b4 : Beside p G4 H4) (s : Same H4 H9) (t4 : PotAt p H4 (n + 4)) (g4 : Same G G4)
    (k : ∀ (t : Addr) (c' v' b : V) (o' : Own) (G' H' : Hp), Same G G' → Beside p G' H' → PotAt p H' (n + 4) → G' t = some (.tup [c', v', b]) → CircN K C G' c' o' → OwnAt K G' v' o' → OwnOk o' → FewOwn o' → CircN K C G' b o → Q (.ref t) H')
    (ht : H9 t = some (.tup [c', v', b])) (h1 : CircN K C H9 c' o') (h2 : OwnAt K H9 v' o') (h3 : OwnOk o') (h5 : FewOwn o') (h4 : CircN K C H9 b o) : Q (.ref t) H9 := by
  have t9 := t4.same' s
  obtain ⟨x, y, z, e, _⟩ := id t9
  refine k t c' v' b o' (hide p H9) H9 ?_ (beside_hide p H9) t9 ?_ (CircN.hide e h1) (OwnAt.hide e h2) h3 h5 (CircN.hide e h4)
  · exact same_hide (g4.trans (b4.sub.trans s)) (g4.free b4.out)
  · rw [hide_ne fun q => by rw [q, e] at ht; cases ht]
    exact ht
section
variable {P : Program} {w : World} {K : PySem.W.Frag} {mg : Str → Option Value} {base : Heap} {C : Addr}
theorem k_edited (D : Lies K mg "_law_edited" s_l_edited) (T : Plain mg) (D_with_source : Lies K mg "with_source" s_with_source) (G_l_take : Keeps P w K mg base 1 "_law_take" ["pot", "upto"] spTake) (G_l_of : Keeps P w K mg base 2 "_law_of" ["pot", "some"] (spOf K))
    (G_l_frac_size : Keeps P w K mg base 3 "_law_frac_size" ["pot"] spFracSize) (G_l_frac_drawn : Keeps P w K mg base 3 "_law_frac_drawn" ["pot", "low", "high"] spFracDrawn)
    (G_with_size : Keeps P w K mg base 10 "with_size" ["circuit", "part", "size"] (spWithSize K C)) (G_with_source : Keeps P w K mg base 10 "with_source" ["circuit", "source", "voltage"] (spWithSource K C)) (G_grounded : Keeps P w K mg base 10 "grounded" ["circuit"] (spGrounded K C))
    (G_l_circuit_with : Keeps P w K mg base 1 "_law_circuit_with" ["own", "kind", "name", "number"] (spWith K)) (G_l_circuit_grounded : Keeps P w K mg base 1 "_law_circuit_grounded" ["own"] (spGround K)) :
    Keeps P w K mg base 11 "_law_edited" ["pot", "circuit", "own"] (spEdited K C) := by
  refine D.keeps sc_l_edited (fun _ _ _ _ _ _ us hl => match us, hl with | [_, _, _], _ => rfl) (fun vs H Q E h => ?_) (fun f cdv A outer s0 H vs Q E hr h => ?_)
  · obtain ⟨p, G, n, c, v, o, rfl, _⟩ := h
    rfl
  · obtain ⟨p, G, n, c, v, o, rfl, bs, ht, hn, hc, ho, ok, few, k⟩ := h
    refine ⟨_, (pss_cons (ps_par3 (i := 3) (j := 4) (l := 5) (by rfl) sc_l_edited.nd rfl rfl rfl (by decide) (by decide) (by decide) rfl rfl rfl (pa_cons (pe_go G_l_take (hr.mono (by decide)) rfl (pa_cons (pv 0) (pa_cons pe_int pa_nil))) (pa_cons (pe_dget (hu_of hr) (pv 2) pe_str (fun _ _ => rfl)) (pa_cons (pe_dget (hu_of hr) (pv 2) pe_str (fun _ _ => rfl)) pa_nil))) (by rfl))
      (pss_cons (ps_if (PW.pt (pw_or (pt_cmpR op_eq (pv 3) pe_int (nomark _)) (pw_or1 (pt_cmpR (op_eqD hr.units) (pv 5) (pe_lst pa_nil) (nomark _)))))
        (pss_cons (ps_asg (pe_tup (pa_cons (pe_go G_l_of (hr.mono (by decide)) rfl (pa_cons (pv 0) (pa_cons (pv 4) pa_nil))) (pa_cons (pe_go G_l_frac_size (hr.mono (by decide)) rfl (pa_cons (pv 0) pa_nil)) pa_nil))) (pg_tup rfl (pgs_cons (pg_tup rfl (pgs_cons (pg_name (i := 6) sc_l_edited.nd rfl (Or.inl rfl)) (pgs_cons (pg_name (i := 7) sc_l_edited.nd rfl (Or.inl rfl)) pgs_nil))) (pgs_cons (pg_name (i := 8) sc_l_edited.nd rfl (Or.inl rfl)) pgs_nil))))
        (pss_cons (ps_set (i := 9) sc_l_edited.nd rfl (Or.inl rfl) (pe_go G_with_size (hr.mono (by decide)) rfl (pa_cons (pv 1) (pa_cons (pv 6) (pa_cons (pv 8) pa_nil)))))
        (pss_one (ps_ret (pe_tup (pa_cons (pv 9) (pa_cons (pe_go G_l_circuit_with (hr.mono (by decide)) rfl (pa_cons (pv 2) (pa_cons pe_str (pa_cons (pv 6) (pa_cons (pv 8) pa_nil))))) (pa_cons (pe_go G_with_size (hr.mono (by decide)) rfl (pa_cons (pv 9) (pa_cons (pv 6) (pa_cons (pv 7) pa_nil)))) pa_nil))))))))
        pss_nil)
      (pss_cons (ps_if (pt_cmpR op_eq (pv 3) pe_int (nomark _))
        (pss_cons (ps_asg (pe_tup (pa_cons (pe_go G_l_of (hr.mono (by decide)) rfl (pa_cons (pv 0) (pa_cons (pv 5) pa_nil))) (pa_cons (pe_go G_l_frac_drawn (hr.mono (by decide)) rfl (pa_cons (pv 0) (pa_cons (pe_un un_neg pe_int) (pa_cons pe_int pa_nil)))) pa_nil))) (pg_tup rfl (pgs_cons (pg_tup rfl (pgs_cons (pg_name (i := 6) sc_l_edited.nd rfl (Or.inl rfl)) (pgs_cons (pg_name (i := 7) sc_l_edited.nd rfl (Or.inl rfl)) pgs_nil))) (pgs_cons (pg_name (i := 10) sc_l_edited.nd rfl (Or.inl rfl)) pgs_nil))))
        (pss_cons (ps_set (i := 9) sc_l_edited.nd rfl (Or.inl rfl) (pe_go G_with_source (hr.mono (by decide)) rfl (pa_cons (pv 1) (pa_cons (pv 6) (pa_cons (pv 10) pa_nil)))))
        (pss_one (ps_ret (pe_tup (pa_cons (pv 9) (pa_cons (pe_go G_l_circuit_with (hr.mono (by decide)) rfl (pa_cons (pv 2) (pa_cons pe_str (pa_cons (pv 6) (pa_cons (pv 10) pa_nil))))) (pa_cons (pe_go G_with_source (hr.mono (by decide)) rfl (pa_cons (pv 9) (pa_cons (pv 6) (pa_cons (pv 7) pa_nil)))) pa_nil))))))))
        pss_nil)
      (pss_cons (ps_set (i := 9) sc_l_edited.nd rfl (Or.inl rfl) (pe_go G_grounded (hr.mono (by decide)) rfl (pa_cons (pv 1) pa_nil)))
      (pss_cons (ps_set (i := 11) sc_l_edited.nd rfl (Or.inl rfl) (pv 9))
      (pss_cons (ps_for PassesOwn.never rfl (pi_list (pv 5)) (pg_tup rfl (pgs_cons (pg_name (i := 6) sc_l_edited.nd rfl (Or.inl rfl)) (pgs_cons (pg_name (i := 7) sc_l_edited.nd rfl (Or.inl rfl)) pgs_nil)))
        (pss_one (ps_set (i := 11) sc_l_edited.nd rfl (Or.inl rfl) (pe_goK0 (ks := ["voltage", "source", "circuit"]) G_with_source D_with_source (fun _ _ _ _ _ _ ws hl => match ws, hl with | [_, _, _], _ => rfl) (hr.mono (by decide)) rfl (pk_cons (pv 7) (pk_cons (pv 6) (pk_cons (pv 11) pk_nil)))))))
      (pss_one (ps_ret (pe_tup (pa_cons (pv 9) (pa_cons (pe_go G_l_circuit_grounded (hr.mono (by decide)) rfl (pa_cons (pv 2) pa_nil)) (pa_cons (pv 11) pa_nil)))))))))))), ?_⟩
    refine ⟨_, rfl, p, G, n, 3, rfl, bs, ht, by omega, by decide, by decide, fun d G1 H1 d0 d3 s1 b1 t1 => ?_⟩
    obtain ⟨dd, vS, vP, vJ, rfl, hd, ⟨aS, xS, rfl, hS, pS⟩, ⟨aP, xP, rfl, hP, pP⟩, qJ⟩ := id ho
    have g1 : Same G H1 := s1.trans b1.sub
    refine ⟨_, rfl, dd, _, rfl, get_p (g1 _ _ hd), _, rfl, dd, _, rfl, get_s (g1 _ _ hd), _, _, _, rfl, ?_⟩
    refine ⟨_, rfl, rfl, _, rfl, or_pick (fun H2 s2 => iteT ?_) (fun _ all => ?_)⟩
    · refine ⟨_, rfl, _, rfl, p, aP, G1, n + 1, xP, rfl, ⟨b1.out, b1.sub.trans s2⟩, t1.same' s2, by omega, Same.seq s1 hP, ?_, ?_, fun i x G3 H3 hx s3 b3 t3 => ?_⟩
      · rw [pP.length]
        exact ok.p_some
      · rw [pP.length]
        exact Nat.lt_of_le_of_lt ok.p_few (by decide)
      obtain ⟨e, he, tt, u, rfl, htt, hu⟩ := Paired.at pP hx
      refine ⟨_, rfl, p, G3, n + 2, rfl, b3, t3, by omega, fun fr tf G4 H4 hf s4 b4 t4 hfr => ?_⟩
      refine ⟨by show 2 ≤ sizeLine; decide, fun l nl => ?_⟩
      have s5 := same_upd (o := .tup [V.ref tt, V.ref tf]) nl
      have g3 : Same G G3 := s1.trans s3
      have g4 : Same G (upd H4 l (.tup [V.ref tt, V.ref tf])) := (g3.trans s4).trans (b4.sub.trans s5)
      obtain ⟨fok, ffr⟩ := size_ok hf
      have hfr5 := FrAt.same (K := K) (b4.sub.trans s5) ⟨tf, rfl, SqT.of hfr⟩
      have hm := List.mem_map_of_mem (f := (·.1)) (List.mem_of_getElem? he)
      refine ⟨l, _, rfl, SqT.of upd_same, rfl, _, _, rfl, tt, _, rfl, SqT.same g4 htt, rfl, _, _, rfl, _, _, rfl, rfl, _, _, rfl, rfl, ?_⟩
      refine ⟨_, rfl, _, rfl, _, rfl, c, .ref tf, o, e.1, fr, rfl, hc.same g4, ok, hm, hfr5, fok.1, ffr, fok.2, fun c1 H6 s6 hc1 => ?_⟩
      have g6 := g4.trans s6
      refine ⟨_, rfl, _, rfl, _, rfl, _, rfl, .ref dd, .ref tf, e.1, o, fr, true, rfl, ho.same g6, ok, hfr5.same s6, fun v1 H7 s7 ho1 => ?_⟩
      have g7 := g6.trans s7
      refine ⟨_, rfl, _, rfl, _, rfl, c1, u, _, e.1, e.2, rfl, hc1.same s7, setPart_ok ok fok.1 fok.2, ?_, ?_, ?_, few.2 e (List.mem_of_getElem? he), ?_, fun c2 H8 s8 hc2 => ?_⟩
      · show e.1 ∈ (setFr e.1 fr o.parts).map (·.1)
        rw [set_names]
        exact hm
      · exact hu.same g7
      · exact (ok.prt e (List.mem_of_getElem? he)).2.1
      · exact (ok.prt e (List.mem_of_getElem? he)).2.2
      rw [setPart_back fr ok (List.mem_of_getElem? he)] at hc2
      refine ⟨by show 3 ≤ sizeLine; decide, fun t nt => ?_⟩
      have s9 := same_upd (o := .tup [c1, v1, c2]) nt
      have s59 := (s5.trans (s6.trans (s7.trans (s8.trans s9))))
      exact edited_end b4 s59 (t4.more (by omega) (by omega)) (g3.trans s4) k (upd_same (o := .tup [c1, v1, c2])) ((hc1.same s7).same (s8.trans s9)) (ho1.same (s8.trans s9)) (setPart_ok ok fok.1 fok.2) (few.part ffr) (hc2.same s9)
    · refine ⟨_, rfl, by show 0 ≤ sizeLine; decide, fun l nl => ?_⟩
      have s2 := same_upd (o := .lst []) nl
      have g2 := g1.trans s2
      refine ⟨.list (o.sources.map entD), .list [], .lst (Same.seq g2 hS) (ents_dp (pS.mono fun _ _ h => h.same g2)), .lst (SqL.of upd_same) .nil, ents_shaped (src_ent ok), rfl, _, rfl, ?_⟩
      by_cases he0 : o.sources = []
      · rw [he0]
        exact iteT (all _ s2)
      obtain ⟨e0, r0, he0⟩ := List.exists_cons_of_ne_nil he0
      have ee : PyData.eqv (.list (o.sources.map entD)) (.list []) = false := by
        rw [he0]
        rfl
      rw [ee]
      clear all
      refine iteF ?_
      have t2 := t1.same' s2
      have b2 : Beside p G1 (upd H1 l (.lst [])) := ⟨b1.out, b1.sub.trans s2⟩
      generalize upd H1 l (.lst []) = H2 at *
      refine ⟨_, rfl, rfl, _, rfl, ite2 (fun hw => ?_) (fun hw => ?_)⟩
      · refine ⟨_, rfl, _, rfl, p, aS, G1, n + 1, xS, rfl, b2, t2, by omega, Same.seq s1 hS, ?_, ?_, fun i x G3 H3 hx s3 b3 t3 => ?_⟩
        · rw [pS.length, he0]
          exact Nat.succ_pos _
        · rw [pS.length]
          exact Nat.lt_of_le_of_lt ok.s_few (by decide)
        obtain ⟨e, he, tt, u, rfl, htt, hu⟩ := Paired.at pS hx
        refine ⟨_, rfl, _, rfl, p, G3, n + 2, -9, 9, rfl, b3, t3, by omega, by decide, by decide, by decide, fun fr tf G4 H4 hf s4 b4 t4 hfr => ?_⟩
        refine ⟨by show 2 ≤ sizeLine; decide, fun l nl => ?_⟩
        have s5 := same_upd (o := .tup [V.ref tt, V.ref tf]) nl
        have g3 : Same G G3 := s1.trans s3
        have g4 : Same G (upd H4 l (.tup [V.ref tt, V.ref tf])) := (g3.trans s4).trans (b4.sub.trans s5)
        have fok : FrOk fr := drawn_ok hf
        have hfr5 := FrAt.same (K := K) (b4.sub.trans s5) ⟨tf, rfl, SqT.of hfr⟩
        have hm := List.mem_map_of_mem (f := (·.1)) (List.mem_of_getElem? he)
        refine ⟨l, _, rfl, SqT.of upd_same, rfl, _, _, rfl, tt, _, rfl, SqT.same g4 htt, rfl, _, _, rfl, _, _, rfl, rfl, _, _, rfl, rfl, ?_⟩
        refine ⟨_, rfl, _, rfl, _, rfl, c, .ref tf, o, e.1, fr, rfl, hc.same g4, ok, hm, hfr5, fok, few_drawn hf, fun c1 H6 s6 hc1 => ?_⟩
        have g6 := g4.trans s6
        refine ⟨_, rfl, _, rfl, _, rfl, _, rfl, .ref dd, .ref tf, e.1, o, fr, false, rfl, ho.same g6, ok, hfr5.same s6, fun v1 H7 s7 ho1 => ?_⟩
        have g7 := g6.trans s7
        refine ⟨_, rfl, _, rfl, _, rfl, c1, u, _, e.1, e.2, rfl, hc1.same s7, setSource_ok ok fok, ?_, ?_, ?_, few.1 e (List.mem_of_getElem? he), fun c2 H8 s8 hc2 => ?_⟩
        · show e.1 ∈ (setFr e.1 fr o.sources).map (·.1)
          rw [set_names]
          exact hm
        · exact hu.same g7
        · exact (ok.src e (List.mem_of_getElem? he)).2
        rw [setSource_back fr ok (List.mem_of_getElem? he)] at hc2
        refine ⟨by show 3 ≤ sizeLine; decide, fun t nt => ?_⟩
        have s9 := same_upd (o := .tup [c1, v1, c2]) nt
        have s59 := (s5.trans (s6.trans (s7.trans (s8.trans s9))))
        exact edited_end b4 s59 (t4.more (by omega) (by omega)) (g3.trans s4) k (upd_same (o := .tup [c1, v1, c2])) ((hc1.same s7).same (s8.trans s9)) (ho1.same (s8.trans s9)) (setSource_ok ok fok) (few.source (few_drawn hf)) (hc2.same s9)
      · have gg := s1.trans b2.sub
        refine ⟨_, rfl, c, o, rfl, hc.same gg, ok, fun c1 H3 s3 hc1 => ?_⟩
        have g3 := gg.trans s3
        refine ⟨_, rfl, _, rfl, aS, rfl, ⟨_, Same.seq g3 hS⟩, for_list (xs := xS) (fun i σ' H' => ∃ (v6 v7 v8 v10 : Option V) (cb : V), σ' = [some (.ref p), some c, some (.ref dd), some (.int d), some (.ref aP), some (.ref aS), v6, v7, v8, some c1, v10, some cb] ∧ Same H3 H' ∧ CircN K C H' cb (o.backs i))
          ⟨_, _, _, _, c1, rfl, Same.refl _, by rw [backs_zero]; exact hc1⟩ (fun i σ' H' _ ⟨_, _, _, _, _, _, s, _⟩ => Same.seq (g3.trans s) hS) ?_ ?_⟩
        · rintro i x σ' H' hx ⟨v6, v7, v8, v10, cb, rfl, sH, hcb⟩
          obtain ⟨e, he, tt, u, rfl, htt, hu⟩ := Paired.at pS hx
          have gH := g3.trans sH
          have hm : e.1 ∈ (o.backs i).sources.map (·.1) := by
            rw [backs_names]
            exact List.mem_map_of_mem (List.mem_of_getElem? he)
          refine ⟨tt, _, rfl, SqT.same gH htt, rfl, _, _, rfl, _, _, rfl, rfl, _, rfl, _, rfl, _, rfl, cb, u, o.backs i, e.1, e.2, rfl, hcb, backs_ok ok i, hm, hu.same gH, (ok.src e (List.mem_of_getElem? he)).2, few.1 e (List.mem_of_getElem? he), fun v' H4 s4 hc4 => ?_⟩
          rw [backs_next he] at hc4
          exact ⟨_, _, _, _, v', rfl, sH.trans s4, hc4⟩
        · rintro σ' H' ⟨v6, v7, v8, v10, cb, rfl, sH, hcb⟩
          rw [pS.length, backs_all ok] at hcb
          have gH := g3.trans sH
          refine ⟨_, rfl, _, rfl, .ref dd, o, rfl, ho.same gH, ok, fun v1 H5 s5 ho1 => ⟨_, rfl, by show 3 ≤ sizeLine; decide, fun t nt => ?_⟩⟩
          have s6 := same_upd (o := .tup [c1, v1, cb]) nt
          have s56 := s5.trans s6
          exact edited_end b2 (s3.trans (sH.trans s56)) (t2.more (by omega) (by omega)) s1 k (upd_same (o := .tup [c1, v1, cb])) (hc1.same (sH.trans s56)) (ho1.same s6) (ground_ok ok) few.ground (hcb.same s56)
end
end Ct

namespace Ct
open PySem PySem.Spec PyProof.Rows L2 TL RZ
abbrev s_l_right : Stmt := top 63
abbrev N_l_right : List Str := ["pot", "own", "circuit", "lap", "text", "later", "due", "back"]
theorem sc_l_right : FnScope N_l_right ["pot"] (defScope s_l_right) := ⟨rfl, rfl, rfl, by decide +kernel, rfl, by decide +kernel, by decide +kernel⟩
def spRight : Sp := fun vs H Q _ => ∃ (p : Addr) (G : Hp) (n : Nat), vs = [.ref p] ∧ Beside p G H ∧ PotAt p H n ∧ n + 500 ≤ 1000000 ∧ ∀ H', Same G H' → Q (.bl true) H'
theorem ground_twice (o : Own) : o.ground.ground = o.ground := by
  unfold Own.ground
  rw [List.map_map]
  rfl
theorem ne_same {x : V} {A B : Prop} (h : B) : if (!decide (x = x)) = true then A else B := by
  rw [decide_eq_true rfl]
  exact iteF h
section
variable {P : Program} {w : World} {K : PySem.W.Frag} {mg : Str → Option Value} {base : Heap} {C fE : Addr} {fdE : FuncData}
theorem k_right (D : Lies K mg "_law_right" s_l_right) (T : Plain mg) (Z : EqT K mg C fE) (FE : FnOk P w K mg base CX0 1 fE fdE ["self", "other"] (spEq (Twin K C))) (bE : Binds K fdE ["self", "other"] [])
    (G_l_take : Keeps P w K mg base 1 "_law_take" ["pot", "upto"] spTake) (G_l_circuit_any : Keeps P w K mg base 5 "_law_circuit_any" ["pot"] (spAny K)) (G_l_circuit_text : Keeps P w K mg base 2 "_law_circuit_text" ["own"] (spText K))
    (G_Circuit : Makes P w K mg base 7 "Circuit" C ["self", "text"] (spInitN K C)) (G_l_edited : Keeps P w K mg base 11 "_law_edited" ["pot", "circuit", "own"] (spEdited K C)) (G_grounded : Keeps P w K mg base 10 "grounded" ["circuit"] (spGrounded K C)) :
    KeepsG P w K mg base 12 "_law_right" ["pot"] spRight := by
  refine D.keepsG sc_l_right (fun _ _ _ _ _ _ us hl => match us, hl with | [_], _ => rfl) (fun vs H Q E h => ?_) (fun f cdv A outer s0 H vs Q hgd hr h => ?_)
  · obtain ⟨p, G, n, rfl, _⟩ := h
    rfl
  · obtain ⟨p, G, n, rfl, bs, ht, hn, k⟩ := h
    refine ⟨_, (pss_cons (ps_set (i := 1) sc_l_right.nd rfl (Or.inl rfl) (pe_go G_l_circuit_any (hr.mono (by decide)) rfl (pa_cons (pv 0) pa_nil)))
      (pss_cons (ps_set (i := 2) sc_l_right.nd rfl (Or.inl rfl) (pe_new G_Circuit (hr.mono (by decide)) rfl (pa_cons (pe_go G_l_circuit_text (hr.mono (by decide)) rfl (pa_cons (pv 1) pa_nil)) pa_nil)))
      (pss_cons (ps_for PassesOwn.never rfl (pi_range1 rfl T.n_range (pa_cons (pe_op op_add pe_int (pe_go G_l_take (hr.mono (by decide)) rfl (pa_cons (pv 0) (pa_cons pe_int pa_nil)))) pa_nil)) (pg_name (i := 3) sc_l_right.nd rfl (Or.inl rfl))
        (pss_cons (ps_set (i := 4) sc_l_right.nd rfl (Or.inl rfl) (pe_fld (pv 2) rfl))
        (pss_cons (ps_asg (pe_go G_l_edited (hr.mono (by decide)) rfl (pa_cons (pv 0) (pa_cons (pv 2) (pa_cons (pv 1) pa_nil)))) (pg_tup rfl (pgs_cons (pg_name (i := 5) sc_l_right.nd rfl (Or.inl rfl)) (pgs_cons (pg_name (i := 6) sc_l_right.nd rfl (Or.inl rfl)) (pgs_cons (pg_name (i := 7) sc_l_right.nd rfl (Or.inl rfl)) pgs_nil)))))
        (pss_cons (ps_if (PW.pt (pw_or (pt_cmpR op_ne (pe_fld (pv 5) rfl) (pe_go G_l_circuit_text (hr.mono (by decide)) rfl (pa_cons (pv 6) pa_nil)) (nomark _)) (pw_or (pt_cmpR op_ne (pe_fld (pv 7) rfl) (pv 4) (nomark _)) (pw_or (pt_cmpR op_ne (pe_fld (pv 2) rfl) (pv 4) (nomark _)) (pw_or1 (pt_cmpR (op_neC FE bE Z (hr.mono (by decide))) (pv 7) (pv 2) (nomark _)))))))
          (pss_one (ps_ret pe_bl))
          pss_nil)
        (pss_cons (ps_if (pt_cmpR op_ne (pe_callB (call_reprD hgd (hr.mono (by decide))) (by rfl) T.n_repr b_repr (pa_cons (pe_tup (pa_cons (pe_fld (pv 5) rfl) (pa_cons (pe_fld (pv 5) rfl) pa_nil))) pa_nil)) (pe_callB (call_reprD hgd (hr.mono (by decide))) (by rfl) T.n_repr b_repr (pa_cons (pe_tup (pa_cons (pe_callTy call_tuple_of (by rfl) T.n_tuple b_tuple (pa_cons (pe_dget (hu_of hr) (pv 6) pe_str (fun _ _ => rfl)) pa_nil)) (pa_cons (pe_callTy call_tuple_of (by rfl) T.n_tuple b_tuple (pa_cons (pe_dget (hu_of hr) (pv 6) pe_str (fun _ _ => rfl)) pa_nil)) pa_nil))) pa_nil)) (nomark _))
          (pss_one (ps_ret pe_bl))
          pss_nil)
        (pss_one (ps_par (i := 2) (j := 1) (by rfl) sc_l_right.nd rfl rfl (by decide) rfl rfl (pa_cons (pv 5) (pa_cons (pv 6) pa_nil)) (by rfl))))))))
      (pss_one (ps_ret (pe_cmpR (op_eqG (rcG_ins FE Z.eqF Z.isF bE pass0) (hr.mono (by decide))) (pe_go G_grounded (hr.mono (by decide)) rfl (pa_cons (pe_go G_grounded (hr.mono (by decide)) rfl (pa_cons (pv 2) pa_nil)) pa_nil)) (pe_go G_grounded (hr.mono (by decide)) rfl (pa_cons (pv 2) pa_nil)) (nomark _))))))), ?_⟩
    clear FE bE D G_l_take G_l_circuit_any G_l_circuit_text G_Circuit G_l_edited G_grounded
    refine ⟨_, rfl, p, G, n, rfl, bs, ht, by omega, fun v o G1 H1 s1 b1 t1 ho ok dr _ _ _ => ?_⟩
    have ho1 := ho.same b1.sub
    refine ⟨_, rfl, v, o, rfl, ho1, ok, fun H2 s2 => ?_⟩
    refine fun x dx nx ndx nn => ?_
    have sa : Same H2 (upd H2 dx (.own x)) := same_upd ndx
    have sb : Same H2 (upd (upd H2 dx (.own x)) x (.ins C dx [])) := sa.trans (same_upd (by rw [upd_ne (fun z => nn z.symm)]; exact nx))
    refine ⟨H2, x, dx, o, rfl, sb, nx, upd_same, ok, fun H3 s3 hc => ⟨rfl, ?_⟩⟩
    have t3 := t1.same' (s2.trans s3)
    obtain ⟨xa, xb, xc, e3, _⟩ := id t3
    have ho3 := OwnAt.hide e3 (ho1.same (s2.trans s3))
    have hc3 := CircN.hide e3 hc
    have g3 : Same G (hide p H3) := same_hide (s1.trans (b1.sub.trans (s2.trans s3))) bs.out
    refine ⟨_, rfl, p, hide p H3, n + 403, 5, rfl, beside_hide p H3, t3, by omega, by decide, by decide, fun d G4 H4 d0 d5 s4 b4 t4 => ?_⟩
    obtain ⟨m, rfl⟩ := Int.eq_ofNat_of_zero_le d0
    have e1 : (1 : Int) + (m : Int) = ((1 + m : Nat) : Int) := by omega
    refine ⟨_, _, rfl, rfl, _, rfl, by omega, by omega, for_range (lo := 0) (n := ((1 : Int) + (m : Int)).toNat) (fun i σ H' => ∃ (o' : Own) (v' c' : V) (v3 v4 v5 v6 v7 : Option V) (G' : Hp), σ = [some (.ref p), some v', some c', v3, v4, v5, v6, v7] ∧ Same G G' ∧ Beside p G' H' ∧ PotAt p H' (n + 404 + 4 * i) ∧
      CircN K C G' c' o' ∧ OwnAt K G' v' o' ∧ OwnOk o' ∧ FewOwn o') ⟨o, v, .ref x, _, _, _, _, _, G4, rfl, g3.trans s4, b4, t4, hc3.same s4, ho3.same s4, ok, few_own dr⟩ ?_ ?_⟩
    · rintro i σ' H' hi ⟨o', v', c', v3, v4, v5, v6, v7, G', rfl, sG, b', t', hc', ho', ok', few'⟩
      have i6 : i ≤ 5 := by omega
      obtain ⟨c1, cx, fs, rfl, a1, a2⟩ := (hc'.same b'.sub).txt
      refine ⟨_, rfl, c1, C, cx, fs, _, rfl, a1, Z.cz.cl, Z.cz.nT, a2, ?_⟩
      refine ⟨_, rfl, _, rfl, _, rfl, p, G', n + 404 + 4 * i, .ref c1, v', o', rfl, b', t', by omega, hc', ho', ok', few', fun t cn vn bn on G5 H5 s5 b5 t5 ht5 hcn hon okn fewn hbn => ?_⟩
      have s55 := b5.sub
      refine ⟨t, _, rfl, SqT.of (s55 _ _ ht5), rfl, _, _, rfl, _, _, rfl, _, _, rfl, rfl, ?_⟩
      obtain ⟨c2, cx2, fs2, rfl, l1, l2⟩ := (hcn.same s55).txt
      obtain ⟨c3, cx3, fs3, rfl, m1, m2⟩ := (hbn.same s55).txt
      refine ⟨_, rfl, c2, C, cx2, fs2, _, rfl, l1, Z.cz.cl, Z.cz.nT, l2, _, rfl, vn, on, rfl, hon.same s55, okn, fun H6 s6 => ⟨rfl, _, rfl, ne_same ?_⟩⟩
      have s56 := s55.trans s6
      have hc6 := ((hc'.same s5).same s56)
      refine ⟨_, rfl, c3, C, cx3, fs3, _, rfl, s6 _ _ m1, Z.cz.cl, Z.cz.nT, m2, _, rfl, rfl, _, rfl, ne_same ?_⟩
      obtain ⟨c4, cx4, fs4, e4, a4, a5⟩ := hc6.txt
      obtain rfl := V.ref.inj e4
      refine ⟨_, rfl, c1, C, cx4, fs4, _, rfl, a4, Z.cz.cl, Z.cz.nT, a5, _, rfl, rfl, _, rfl, ne_same ?_⟩
      refine ⟨_, rfl, _, rfl, ⟨c3, c1, rfl, rfl, o', o', hbn.same s56, hc6, rfl⟩, fun H7 x7 => ⟨_, rfl, iteF ?_⟩⟩
      have s57 : Same G5 H7 := s56.trans x7
      have t7 : PotAt p H7 (n + 404 + 4 * (i + 1)) := (t5.same' (s6.trans x7)).more (by omega) (by omega)
      obtain ⟨_, dxs, fss, ts, us, es, p1, p2, p3, p4⟩ := (hcn.same s57).src
      obtain rfl := V.ref.inj es
      obtain ⟨_, dxp, fsp, tp, ws, ep, q1, q2, q3, q4⟩ := (hcn.same s57).prt
      obtain rfl := V.ref.inj ep
      obtain ⟨dd, vS, vP, vJ, rfl, hd, ⟨aS, xS, rfl, hS, pS⟩, ⟨aP, xP, rfl, hP, pP⟩, qJ⟩ := id hon
      obtain ⟨g1, g2, g3, g4⟩ := both_ok okn
      refine ⟨_, rfl, c2, C, dxs, fss, _, rfl, p1, Z.cz.cl, Z.cz.nS, p2, _, rfl, c2, C, dxp, fsp, _, rfl, q1, Z.cz.cl, Z.cz.nP, q2, by show 2 ≤ sizeLine; decide, fun a na => ?_⟩
      have s78 := same_upd (o := .tup [V.ref ts, V.ref tp]) na
      refine ⟨a, bothD on, rfl, .tup (SqT.of upd_same) (.cons (.tup (SqT.same s78 p3) (ents_dp (p4.mono fun _ _ h => h.same s78))) (.cons (.tup (SqT.same s78 q3.sq) (ents_dp (q4.mono fun _ _ h => h.same s78))) .nil)), g1, g2, g3, g4, ?_⟩
      have s58 := s57.trans s78
      have t8 := t7.same' s78
      generalize upd H7 a (.tup [V.ref ts, V.ref tp]) = H8 at *
      refine ⟨_, rfl, dd, _, rfl, get_s (s58 _ _ hd), aS, xS, rfl, .inl ⟨Same.seq s58 hS, fun l1 n1 => ?_⟩⟩
      have s9 := same_upd (o := .tup xS) n1
      have s59 := s58.trans s9
      have z1 : (upd H8 l1 (.tup xS)) l1 = some (.tup xS) := upd_same
      have t9 := t8.same' s9
      generalize upd H8 l1 (.tup xS) = H9 at *
      refine ⟨_, rfl, dd, _, rfl, get_p (s59 _ _ hd), aP, xP, rfl, .inl ⟨Same.seq s59 hP, fun l2 n2 => ?_⟩⟩
      have sX := same_upd (o := .tup xP) n2
      have s5X := s59.trans sX
      have z2 : (upd H9 l2 (.tup xP)) l2 = some (.tup xP) := upd_same
      have tX := t9.same' sX
      have z1 := sX _ _ z1
      generalize upd H9 l2 (.tup xP) = HX at *
      refine ⟨by show 2 ≤ sizeLine; decide, fun a2 na2 => ?_⟩
      have sY := same_upd (o := .tup [V.ref l1, V.ref l2]) na2
      have s5Y := s5X.trans sY
      refine ⟨a2, bothD on, rfl, .tup (SqT.of upd_same) (.cons (.tup (SqT.of (sY _ _ z1)) (ents_dp (pS.mono fun _ _ h => h.same s5Y))) (.cons (.tup (SqT.of (sY _ _ z2)) (ents_dp (pP.mono fun _ _ h => h.same s5Y))) .nil)), g1, g2, g3, g4, rfl, _, rfl, ne_same ?_⟩
      refine ⟨_, rfl, _, rfl, _, _, rfl, on, .ref dd, .ref c2, _, _, _, _, _, G5, rfl, sG.trans s5, ⟨b5.out, s5Y⟩, tX.same' sY, hcn, hon, okn, fewn⟩
    · rintro σ' H' ⟨o', v', c', v3, v4, v5, v6, v7, G', rfl, sG, b', t', hc', ho', ok', few'⟩
      have hc0 := hc'.same b'.sub
      refine ⟨_, rfl, c', o', rfl, hc0, ok', fun c1 H1' s1' hc1 => ?_⟩
      refine ⟨c1, o'.ground, rfl, hc1, ground_ok ok', fun c2 H2' s2' hc2 => ?_⟩
      rw [ground_twice] at hc2
      refine ⟨_, rfl, c', o', rfl, hc0.same (s1'.trans s2'), ok', fun c3 H3' s3' hc3 => ?_⟩
      have hc2' := hc2.same s3'
      obtain ⟨d2, x2, f2, rfl, l1, _⟩ := hc2'.txt
      obtain ⟨d3, x3, f3, rfl, m1, _⟩ := hc3.txt
      exact ⟨⟨d2, d3, x2, x3, f2, f3, rfl, rfl, l1, m1, _, _, hc2', hc3, rfl⟩, fun H4' e => k H4' (sG.trans (b'.sub.trans (s1'.trans (s2'.trans (s3'.trans e)))))⟩
end
end Ct

/-! The law's own call, where no repr is under way. -/
namespace Ct
open PySem PySem.Spec PyProof.Rows L2 TL
theorem law_runs {P : Program} {w : World} {K : PySem.W.Frag} {mg mb : Str → Option Value} {k : Nat} {fa a : Addr} {fd : FuncData} {x : Str} {sp : Sp} {s1 : Shared} {vs : List Value} {ns : List Int}
    (KX : K.In s1.heap) (names : s1.heap.Ns mainGlobals mg) (bnames : s1.heap.Ns builtinsNs mb) (bboot : ∀ y : Str, y ≠ "__name__" → mb y = bootBuiltins y) (lim : s1.heap.NoLimit) (ng : s1.gens = #[])
    (at_a : s1.heap.get? a = some { cls := .type "list", data := .seq vs.toArray }) (hints0 : IntsAre vs ns) (few : ns.length ≤ sizeLine) (room : Room k callerA)
    (F : ∀ base : Heap, K.In base → base.Ns mainGlobals mg → FnG P w K mg base k fa fd [x] sp) (bind : ∀ (s : Shared) (u : Value), BindsTo s fd ⟨[u], []⟩ [(x, u)])
    (sat : ∀ H : Hp, Only H → SqL K H a (ns.map V.int) → sp [.ref a] H (fun v _ => v = .bl true) E0) :
    codeAny (model P w) callerA (.call (.ref fa) ⟨[.ref a], []⟩) (fun r s' => r = .ok (.ret (.bool true)) ∧ OldK s1.heap s'.heap ∧ s'.os = s1.os ∧ AllBare s'.gens) s1 := by
  have rints := vals_ints hints0
  have same := hints0.length
  have main : ∀ H : Hp, Only H → SqL K H a (ns.map V.int) → HOk P w H s1.heap → (∀ b, H b ≠ none → b = a) → (H a ≠ none → K.lookup a = none) →
      codeAny (model P w) callerA (.call (.ref fa) ⟨[.ref a], []⟩) (fun r s' => r = .ok (.ret (.bool true)) ∧ OldK s1.heap s'.heap ∧ s'.os = s1.os ∧ AllBare s'.gens) s1 := by
    intro H only told fine alone apart
    have low : ∀ {b : Addr} {o : Obj}, s1.heap.get? b = some o → H b = none → (hidT s1.heap H).get? b = some o := fun e n => hidT_get e n
    have nodict : ∀ {b : Addr} {o : Obj} {es : Array DictEntry} {ep : Nat}, s1.heap.get? b = some o → o.data = .dict es ep → H b = none := by
      intro b o es ep e d
      cases q : H b with
      | none => rfl
      | some u =>
        obtain rfl : b = a := alone b (by rw [q]; exact fun z => nomatch z)
        rw [at_a] at e
        cases e
        exact nomatch (show Data.seq vs.toArray _ = Data.dict es ep from d)
    have nsLow : ∀ {b : Addr} {m : Str → Option Value}, s1.heap.Ns b m → (hidT s1.heap H).Ns b m := by
      rintro b m ⟨o, es, ep, e, d, r⟩
      exact ⟨o, es, ep, low e (nodict e d), d, r⟩
    have KLow : K.In (hidT s1.heap H) := by
      intro b o e
      refine low (KX b o e) ?_
      cases q : H b with
      | none => rfl
      | some u =>
        obtain rfl : b = a := alone b (by rw [q]; exact fun z => nomatch z)
        rw [apart (by rw [q]; exact fun z => nomatch z)] at e
        cases e
    have modOk : Mod K mg (hidT s1.heap H) := by
      obtain ⟨mc, l1, l2⟩ := lim
      exact ⟨KLow, nsLow names, ⟨mb, nsLow bnames, bboot⟩, ⟨mc, nsLow l1, l2⟩⟩
    have env : Env0 P w K mg (hidT s1.heap H) callerA [] s1 H :=
      ⟨rfl, modOk, fun b o e => of_hidT e, Nat.le_of_eq (hidT_size _ _), trivial, (fun b hb => nomatch (show b ∈ ([] : List Addr) from hb)), fine, .of_eq ng⟩
    refine codeAny_mono ((F _ KLow (nsLow names)).run callerA [] s1 H ⟨[.ref a], []⟩ [.ref a] [.ref a] _ room rfl env (bind s1 (.ref a)) (.cons rfl .nil) (sat H only told)) fun r s2 h => ?_
    cases r with
    | error e => exact False.elim h
    | ok fl =>
      cases fl with
      | next => exact h.elim
      | brk => exact h.elim
      | cont => exact h.elim
      | ret u =>
        obtain ⟨v, H2, os, bare, un, fine2, rv, q⟩ := h
        obtain rfl : v = .bl true := q
        obtain rfl : u = Value.bool true := rv
        refine ⟨rfl, OldK.of_keep fun b o e => ?_, os, bare⟩
        cases q : H b with
        | none => exact un.keep b o e q (fun z => nomatch (show b ∈ ([] : List Addr) from z)) (by simp)
        | some u =>
          rcases only b with z | ⟨ob, xs, z⟩
          · rw [q] at z
            cases z
          · obtain ⟨i1, _⟩ := fine b _ z
            obtain ⟨i2, _⟩ := fine2 b _ (un.frzs b ob _ z)
            rw [e] at i1
            cases i1
            exact i2
  cases hk : K.lookup a with
  | some o =>
    have e := KX a o hk
    rw [at_a] at e
    cases e
    refine main (fun _ => none) (fun _ => .inl rfl) (.inr ⟨_, vs.toArray, _, hk, rfl, rfl, rfl, ?_, by simpa using rints⟩) (fun b u z => nomatch (show (none : Option HO) = some u from z)) (fun b z => absurd rfl z) (fun z => absurd rfl z)
    rw [List.size_toArray, same]
    exact few
  | none =>
    refine main (fun b => if b = a then some (.frz { cls := .type "list", data := .seq vs.toArray } (.lst (ns.map V.int))) else none) ?_ (.inl (.inr ⟨_, if_pos rfl⟩)) ?_ ?_ (fun _ => hk)
    · intro b
      by_cases q : b = a
      · exact .inr ⟨_, _, if_pos q⟩
      · exact .inl (if_neg q)
    · intro b u z
      by_cases q : b = a
      · subst q
        have z2 := (if_pos rfl).symm.trans z
        cases z2
        exact ⟨at_a, by rw [List.length_map]; exact few, vs, _, rints, at_a⟩
      · exact nomatch (if_neg q).symm.trans z
    · intro b z
      by_cases q : b = a
      · exact q
      · exact absurd (if_neg q) z
theorem walk_runs {l : PySem.W.OpenLaw} {n k : Nat} {q : Program} {loose : List Str} {XP : (Str → Option Value) → Heap → Prop} {YP : World → Heap → Prop} {d : DefRec} {K : Params → PySem.W.Frag} {sp : World → Sp} {x : Str}
    (most : l.most = some n) (few : n ≤ sizeLine) (nodef : d.params.defaults = []) (room : Room k callerA) (kin : ∀ (w : World) (h : Heap), YP w h → (K w.params).In h)
    (F : ∀ (w : World) (mg : Str → Option Value) (fa : Addr) (h : Heap), (K w.params).In h → h.Ns mainGlobals mg → mg d.name = some (.ref fa) →
      ∃ fd : FuncData, (∀ (s : Shared) (u : Value), BindsTo s fd ⟨[u], []⟩ [(x, u)]) ∧ ∀ base : Heap, (K w.params).In base → base.Ns mainGlobals mg → FnG l.prog w (K w.params) mg base k fa fd [x] (sp w))
    (sat : ∀ (w : World) (H : Hp) (a : Addr) (ns : List Int), ns.length ≤ n → Only H → SqL (K w.params) H a (ns.map V.int) → sp w [.ref a] H (fun v _ => v = .bl true) E0) :
    PySem.W.WalkO q loose XP YP l.row.toRowW d [] (fun f vs => PySem.call f vs) := by
  refine Att.attach_call most nodef fun w s0 s1 mg mb fa o pm cd doc a vs ns G Y ho hd hcd hmg hobj hints hlen hg => ?_
  have KX := kin w _ Y
  obtain ⟨fd, hb, hF⟩ := F w mg fa _ KX G.T.g hmg
  exact law_runs KX G.T.g G.T.b G.T.builtins G.T.nolimit hg hobj hints (Nat.le_trans hlen few) room hF hb fun H hO hS => sat w H a ns hlen hO hS
end Ct

namespace Ct
open PySem PySem.Spec PyProof.Rows L2 TL
abbrev s_law : Stmt := top 64
abbrev N_law : List Str := ["script", "place"]
theorem sc_law : FnScope N_law ["script"] (defScope s_law) := ⟨rfl, rfl, rfl, by decide +kernel, rfl, by decide +kernel, by decide +kernel⟩
def spLaw (K : PySem.W.Frag) : Sp := fun vs H Q _ => ∃ (a : Addr) (ns : List Int), vs = [.ref a] ∧ SqL K H a (ns.map V.int) ∧ ∀ H', Q (.bl true) H'
def BlV (v : V) (b : Bool) : Prop := v = .bl b
theorem bls_are {acc : List V} {bs : List Bool} (h : Paired BlV acc bs) : acc = bs.map V.bl := by
  induction h with
  | nil => rfl
  | cons r _ ih => rw [show _ = V.bl _ from r, ih]; rfl
theorem all_true {α : Type} (l : List α) : (l.map fun _ => true).all id = true := by
  induction l with
  | nil => rfl
  | cons x r ih => rw [List.map_cons, List.all_cons, ih]; rfl
def NatV (v : V) (k : Nat) : Prop := v = .int (k : Int)
theorem nats_pair : ∀ l : List Nat, Paired NatV (l.map fun (i : Nat) => V.int (i : Int)) l
  | [] => .nil
  | _ :: r => .cons rfl (nats_pair r)
theorem comp_cells {K : PySem.W.Frag} {Pc : List Nat → Prop} {tl : TE} {g : TG} {te : TE} {vs : List Nat} {σ : L2.St} {H : Hp} {Q : VK}
    (hl : ∀ R : VK, (∀ l H1 es, Pc es → Same H H1 → SqL K H1 l (es.map fun (i : Nat) => V.int (i : Int)) → R (.ref l) H1) → tl σ H R) (few : ∀ es, Pc es → es.length < 1000000)
    (turn : ∀ es x e H1 (Z : VK), Pc es → NatV x e → e ∈ es → Same H H1 → (∀ H4, Same H1 H4 → Z (.bl true) H4) → g x (wipe σ vs) H1 fun σ2 H2 => wipe σ2 vs = wipe σ vs ∧ te σ2 H2 Z)
    (hd : ∀ (es : List Nat) H' D, H' D = some (.lst ((es.map fun _ => true).map V.bl)) → Q (.ref D) H') : tLc (iList K tl) g tYes te vs σ H Q := by
  refine hl _ fun l H1 es pc s1 hl1 => ?_
  have go : tLc (iList K fun _ _ R => R (.ref l) H1) g tYes te vs σ H1 Q :=
    comp_pure (f := fun _ : Nat => true) (R := NatV) (R' := fun _ => BlV) (fun R r => r) hl1 (nats_pair es) (by rw [List.length_map]; exact few es pc) (fun _ _ _ h => h) (fun _ _ _ _ h => h)
      (fun x e H2 Z r he s2 hz => turn es x e H2 Z pc r he (s1.trans s2) fun H4 s4 => hz _ _ s4 rfl) fun H' D acc nD s' hD hp => by
        have e1 := bls_are hp
        subst e1
        exact hd es H' D hD
  exact go
section
variable {P : Program} {w : World} {K : PySem.W.Frag} {mg : Str → Option Value} {base : Heap}
theorem k_law {f : Addr} {fd : FuncData} (D : Fun K "law" "law" s_law f fd) (T : Plain mg) (G_l_cells : Keeps P w K mg base 1 "_law_cells" ["script", "most"] (spCells K)) (G_l_pot : Keeps P w K mg base 1 "_law_pot" ["script", "place"] (spPot K))
    (G_l_right : KeepsG P w K mg base 12 "_law_right" ["pot"] spRight) : FnG P w K mg base 13 f fd ["script"] (spLaw K) := by
  refine fnG_of D sc_law (fun vs H Q E h => ?_) (fun cdv A outer s0 H vs Q hgd hr h => ?_)
  · obtain ⟨a, ns, rfl, _⟩ := h
    rfl
  · obtain ⟨a, ns, rfl, hs, k⟩ := h
    refine ⟨_, (pss_one (ps_ret (pe_callB (cr_all rfl) (by rfl) T.n_all b_all (pa_cons (pe_lc (own := [("place", 1)]) (g := gName 1) (tt := tYes) rfl sc_law.nd (pi_list (pe_go G_l_cells (hr.mono (by decide)) rfl (pa_cons (pv 0) (pa_cons pe_int pa_nil)))) (blkOk_by (N := N_law) (sc := defScope s_law) (by decide +kernel)) (fun _ _ _ _ _ => pg_name (i := 1) sc_law.nd rfl (Or.inl rfl)) (fun _ _ _ _ _ => pts_nil) (fun _ _ _ _ _ => by exact (pe_goG G_l_right hgd (hr.mono (by decide)) rfl (pa_cons (pe_go G_l_pot (hr.mono (by decide)) rfl (pa_cons (pv 0) (pa_cons (pv 1) pa_nil))) pa_nil)))) pa_nil)))), ?_⟩
    refine into_ret (into_cb (into_args1 ?_))
    refine comp_cells (Pc := fun es => ∃ c, 1 ≤ c ∧ c ≤ 3 ∧ es = List.range c) (fun R r => ⟨_, rfl, a, _, 2, rfl, hs, by decide, by decide, fun c q c1 c3 nq => r q _ _ ⟨c, c1, c3, rfl⟩ (same_upd nq) (SqL.of upd_same)⟩) (fun es h => ?_) (fun es x e H2 Z h r he s2 hz => ?_) (fun es H2 D hD => ?_)
    · obtain ⟨c, c1, c3, rfl⟩ := h
      rw [List.length_range]
      omega
    · obtain ⟨c, c1, c3, rfl⟩ := h
      obtain rfl : x = .int (e : Int) := r
      have := List.mem_range.mp he
      refine ⟨rfl, ?_⟩
      refine ⟨_, rfl, _, rfl, a, ns, e, rfl, Same.seq s2 hs, by omega, fun p H3 np b3 t3 => ?_⟩
      exact ⟨p, H2, 0, rfl, b3, t3, by decide, fun H4 s4 => hz _ s4⟩
    · refine ⟨D, _, rfl, SqL.of hD, ?_⟩
      rw [all_true]
      exact k _
end
end Ct

namespace Ct
open PySem PySem.Spec PyProof.Rows L2 TL
/-! ### what the top has written -/
theorem lies_of {K : PySem.W.Frag} {h : Heap} {mg : Str → Option Value} {x : Str} {st : Stmt} {f : Addr} {oc : Value} {od an : Option Addr} {osl : Array (Option Value)} {kV doc pm cdv ct : Value} (X : K.In h) (G : h.Ns mainGlobals mg) (a : PySem.W.nsIn K mainGlobals x = some (some (.ref f)))
    (l : K.lookup f = some ⟨oc, od, .func (PySem.W.fnOf x x (defArgs st) (defBody st) (defScope st) .none kV doc pm an cdv ct), osl⟩) (c : PySem.W.codeIn K cdv x = true) (k : PySem.W.keepIn K (.ref f) = true) : Lies K mg x st := ⟨f, _, fun_mk l c k, PySem.W.mg_of X G a⟩
/-- one def's promise, from the next ones': all of them together -/
theorem all_kept {P : Program} {w : World} {K : PySem.W.Frag} {mg : Str → Option Value} {base : Heap} {C fI fL fE : Addr} {fdI fdL fdE : FuncData} (T : Plain mg) (TV : PlainV mg) (Z : ClassT K mg C) (mgC : mg "Circuit" = some (.ref C)) (ET : EqT K mg C fE) (FE : Fun K "__eq__" "Circuit.__eq__" s_Circuit_eq fE fdE) (bE : Binds K fdE ["self", "other"] []) (MC : Mk K C fI)
    (FI : Fun K "__init__" "Circuit.__init__" s_Circuit_init fI fdI) (bI : Binds K fdI ["self", "text"] []) (FL : Fun K "law" "law" s_law fL fdL)
    (D_law_cells : Lies K mg "_law_cells" s_l_cells) (D_law_pot : Lies K mg "_law_pot" s_l_pot) (D_law_right : Lies K mg "_law_right" s_l_right) (D_law_take : Lies K mg "_law_take" s_l_take) (D_law_circuit_any : Lies K mg "_law_circuit_any" s_l_circuit_any) (D_law_of : Lies K mg "_law_of" s_l_of) (D_law_circuit_drawn : Lies K mg "_law_circuit_drawn" s_l_circuit_drawn) (D_law_some : Lies K mg "_law_some" s_l_some) (D_law_frac_drawn : Lies K mg "_law_frac_drawn" s_l_frac_drawn) (D_law_frac : Lies K mg "_law_frac" s_l_frac) (D_law_frac_common : Lies K mg "_law_frac_common" s_l_frac_common) (D_law_circuit_tied : Lies K mg "_law_circuit_tied" s_l_circuit_tied) (D_law_circuit_text : Lies K mg "_law_circuit_text" s_l_circuit_text) (D_law_frac_text : Lies K mg "_law_frac_text" s_l_frac_text) (D_read_lines : Lies K mg "_read_lines" s_read_lines) (D_takes_line : Lies K mg "_takes_line" s_takes_line) (D_takes_source : Lies K mg "_takes_source" s_takes_source) (D_read_fraction : Lies K mg "read_fraction" s_read_fraction) (D_read_integer : Lies K mg "_read_integer" s_read_integer) (D_is_integer_text : Lies K mg "_is_integer_text" s_is_integer_text) (D_is_fraction : Lies K mg "is_fraction" s_is_fraction) (D_is_integer : Lies K mg "is_integer" s_is_integer) (D_is_another : Lies K mg "_is_another" s_is_another) (D_is_name : Lies K mg "is_name" s_is_name) (D_names_of : Lies K mg "names_of" s_names_of) (D_takes_part : Lies K mg "_takes_part" s_takes_part) (D_is_above_nought : Lies K mg "is_above_nought" s_is_above_nought) (D_takes_joining : Lies K mg "_takes_joining" s_takes_joining) (D_takes_tie : Lies K mg "_takes_tie" s_takes_tie) (D_is_junction : Lies K mg "_is_junction" s_is_junction) (D_law_edited : Lies K mg "_law_edited" s_l_edited) (D_with_source : Lies K mg "with_source" s_with_source) (D_law_frac_size : Lies K mg "_law_frac_size" s_l_frac_size) (D_with_size : Lies K mg "with_size" s_with_size) (D_check_part : Lies K mg "check_part" s_check_part) (D_fraction_text : Lies K mg "fraction_text" s_fraction_text) (D_integer_text : Lies K mg "_integer_text" s_integer_text) (D_with_lines : Lies K mg "_with_lines" s_with_lines) (D_check_source : Lies K mg "check_source" s_check_source) (D_grounded : Lies K mg "grounded" s_grounded) (D_law_circuit_with : Lies K mg "_law_circuit_with" s_l_circuit_with) (D_law_circuit_grounded : Lies K mg "_law_circuit_grounded" s_l_circuit_grounded) : FnG P w K mg base 13 fL fdL ["script"] (spLaw K) := by
  have H_cells : Keeps P w K mg base 1 "_law_cells" ["script", "most"] (spCells K) := k_cells D_law_cells T
  have H_pot : Keeps P w K mg base 1 "_law_pot" ["script", "place"] (spPot K) := k_pot D_law_pot T
  have H_eq : FnOk P w K mg base CX0 1 fE fdE ["self", "other"] (spEq (Twin K C)) := k_eq FE ET T
  have H_take : Keeps P w K mg base 1 "_law_take" ["pot", "upto"] spTake := k_take D_law_take T
  have H_of : Keeps P w K mg base 2 "_law_of" ["pot", "some"] (spOf K) := k_of D_law_of T H_take
  have H_some : Keeps P w K mg base 2 "_law_some" ["pot", "pool", "many"] (spSome K) := k_some D_law_some T H_take
  have H_common : Keeps P w K mg base 1 "_law_frac_common" ["one", "other"] spCommon := k_common D_law_frac_common T
  have H_frac : Keeps P w K mg base 2 "_law_frac" ["top", "bottom"] spFrac := k_frac D_law_frac T H_common
  have H_frac_drawn : Keeps P w K mg base 3 "_law_frac_drawn" ["pot", "low", "high"] spFracDrawn := k_frac_drawn D_law_frac_drawn T H_take H_of H_frac
  have H_circuit_tied : Keeps P w K mg base 3 "_law_circuit_tied" ["pot", "parts", "sources"] (spTiedN K) := k_circuit_tied D_law_circuit_tied T H_take H_of H_some
  have H_circuit_drawn : Keeps P w K mg base 4 "_law_circuit_drawn" ["pot", "parts", "joinings", "sources"] (spDrawnN K) := k_circuit_drawn D_law_circuit_drawn T H_of H_some H_frac_drawn H_circuit_tied
  have H_circuit_any : Keeps P w K mg base 5 "_law_circuit_any" ["pot"] (spAny K) := k_circuit_any D_law_circuit_any T H_of H_circuit_drawn
  have H_frac_text : Keeps P w K mg base 1 "_law_frac_text" ["one"] (spFracText K) := k_frac_text D_law_frac_text T
  have H_circuit_text : Keeps P w K mg base 2 "_law_circuit_text" ["own"] (spText K) := k_circuit_text D_law_circuit_text T H_frac_text
  have H_read_integer : Keeps P w K mg base 1 "_read_integer" ["word"] spReadI := k_read_integer D_read_integer T
  have H_is_integer_text : Keeps P w K mg base 1 "_is_integer_text" ["word"] spIsNum := k_is_integer_text D_is_integer_text T
  have H_is_integer : Keeps P w K mg base 1 "is_integer" ["value"] spIsInt := k_is_integer D_is_integer T
  have H_is_fraction : Keeps P w K mg base 2 "is_fraction" ["value"] (spIsFr K) := k_is_fraction D_is_fraction T H_is_integer
  have H_read_fraction : Keeps P w K mg base 3 "read_fraction" ["word"] (spRead K) := k_read_fraction D_read_fraction T H_read_integer H_is_integer_text H_is_fraction
  have H_is_name : Keeps P w K mg base 1 "is_name" ["value"] spIsName := k_is_name D_is_name T
  have H_names_of : Keeps P w K mg base 1 "names_of" ["told"] (spNames K) := k_names_of D_names_of T
  have H_is_another : Keeps P w K mg base 2 "_is_another" ["name", "told", "most"] (spAnother K) := k_is_another D_is_another T H_is_name H_names_of
  have H_takes_source : Keeps P w K mg base 4 "_takes_source" ["words", "sources", "parts"] (spTSrc K) := k_takes_source D_takes_source T H_read_fraction H_is_another
  have H_is_above_nought : Keeps P w K mg base 3 "is_above_nought" ["value"] (spIsSize K) := k_is_above_nought D_is_above_nought T H_is_fraction
  have H_takes_part : Keeps P w K mg base 4 "_takes_part" ["words", "parts", "joinings"] (spTPrt K) := k_takes_part D_takes_part T H_read_fraction H_is_another H_is_above_nought
  have H_takes_joining : Keeps P w K mg base 3 "_takes_joining" ["words", "parts", "joinings"] (spTJoi K) := k_takes_joining D_takes_joining T H_is_another
  have H_is_junction : Keeps P w K mg base 2 "_is_junction" ["word"] spJunc := k_is_junction D_is_junction T H_is_name
  have H_takes_tie : Keeps P w K mg base 3 "_takes_tie" ["words", "parts", "joinings"] (spTTie K) := k_takes_tie D_takes_tie T H_names_of H_is_junction
  have H_takes_line : Keeps P w K mg base 5 "_takes_line" ["words", "sources", "parts", "joinings"] (spTLine K) := k_takes_line D_takes_line T H_takes_source H_takes_part H_takes_joining H_takes_tie
  have H_read_lines : Keeps P w K mg base 6 "_read_lines" ["lines"] (spReadLines K) := k_read_lines D_read_lines T H_takes_line
  have H_initN : FnOk P w K mg base CX0 7 fI fdI ["self", "text"] (spInitN K C) := k_initN FI Z T H_read_lines
  have H_CircuitspInitN : Makes P w K mg base 7 "Circuit" C ["self", "text"] (spInitN K C) := ⟨fI, fdI, MC, H_initN, mgC, bI⟩
  have H_frac_size : Keeps P w K mg base 3 "_law_frac_size" ["pot"] spFracSize := k_frac_size D_law_frac_size T H_of
  have H_names_ofT : Keeps P w K mg base 1 "names_of" ["told"] (spNamesT K) := k_names_ofT D_names_of T
  have H_check_part : Keeps P w K mg base 2 "check_part" ["circuit", "value"] (spCheckPart K C) := k_check_part D_check_part T Z H_names_ofT
  have H_integer_text : Keeps P w K mg base 1 "_integer_text" ["number"] spIntText := k_integer_text D_integer_text T TV
  have H_fraction_textS : Keeps P w K mg base 2 "fraction_text" ["number"] (spTextS K) := k_fraction_textS D_fraction_text T H_integer_text
  have H_with_lines : Keeps P w K mg base 9 "_with_lines" ["circuit", "place", "new"] (spWithLines K C) := k_with_lines D_with_lines T Z H_CircuitspInitN
  have H_with_size : Keeps P w K mg base 10 "with_size" ["circuit", "part", "size"] (spWithSize K C) := k_with_size D_with_size T Z H_check_part H_is_above_nought H_names_ofT H_fraction_textS H_with_lines
  have H_check_source : Keeps P w K mg base 2 "check_source" ["circuit", "value"] (spCheckSource K C) := k_check_source D_check_source T Z H_names_ofT
  have H_with_source : Keeps P w K mg base 10 "with_source" ["circuit", "source", "voltage"] (spWithSource K C) := k_with_source D_with_source T Z H_check_source H_is_fraction H_names_ofT H_fraction_textS H_with_lines
  have H_grounded : Keeps P w K mg base 10 "grounded" ["circuit"] (spGrounded K C) := k_grounded D_grounded T Z H_names_ofT H_with_lines
  have H_circuit_with : Keeps P w K mg base 1 "_law_circuit_with" ["own", "kind", "name", "number"] (spWith K) := k_circuit_with D_law_circuit_with T
  have H_circuit_grounded : Keeps P w K mg base 1 "_law_circuit_grounded" ["own"] (spGround K) := k_circuit_grounded D_law_circuit_grounded T
  have H_edited : Keeps P w K mg base 11 "_law_edited" ["pot", "circuit", "own"] (spEdited K C) := k_edited D_law_edited T D_with_source H_take H_of H_frac_size H_frac_drawn H_with_size H_with_source H_grounded H_circuit_with H_circuit_grounded
  have H_right : KeepsG P w K mg base 12 "_law_right" ["pot"] spRight := k_right D_law_right T ET H_eq bE H_take H_circuit_any H_circuit_text H_CircuitspInitN H_edited H_grounded
  exact k_law FL T H_cells H_pot H_right
end Ct

namespace Ct
open PySem PySem.Spec PyProof.Rows L2 TL
theorem all_mk {l : PySem.W.OpenLaw} {w : World} {K : PySem.W.Frag} {h : Heap} {mg : Str → Option Value} {fa C fI fE N : Addr} (X : K.In h) (G : h.Ns mainGlobals mg) (hfa : mg "law" = some (.ref fa))
    {od1 an1 : Option Addr} {sl1 : Array (Option Value)} {oc1 kV1 dc1 pm1 cd1 ct1 : Value} {t_DIGITS t_PIECE t_SHIFT t_GROUND t_LETTERS t_LONGEST_NAME t_MOST_SOURCES t_MOST_PARTS t_MOST_JOININGS : Tok} {od2 an2 : Option Addr} {sl2 : Array (Option Value)} {oc2 kV2 dc2 pm2 cd2 ct2 : Value} {nm q} {bs} {hdd} {sn} {sub} {ab} {col} {dd} {k0} {k1} {k2} {k3} {k5} {newId}
    (D_law_cells : Lies K mg "_law_cells" s_l_cells) (D_law_pot : Lies K mg "_law_pot" s_l_pot) (D_law_right : Lies K mg "_law_right" s_l_right) (D_law_take : Lies K mg "_law_take" s_l_take) (D_law_circuit_any : Lies K mg "_law_circuit_any" s_l_circuit_any) (D_law_of : Lies K mg "_law_of" s_l_of) (D_law_circuit_drawn : Lies K mg "_law_circuit_drawn" s_l_circuit_drawn) (D_law_some : Lies K mg "_law_some" s_l_some) (D_law_frac_drawn : Lies K mg "_law_frac_drawn" s_l_frac_drawn) (D_law_frac : Lies K mg "_law_frac" s_l_frac) (D_law_frac_common : Lies K mg "_law_frac_common" s_l_frac_common) (D_law_circuit_tied : Lies K mg "_law_circuit_tied" s_l_circuit_tied) (D_law_circuit_text : Lies K mg "_law_circuit_text" s_l_circuit_text) (D_law_frac_text : Lies K mg "_law_frac_text" s_l_frac_text) (D_read_lines : Lies K mg "_read_lines" s_read_lines) (D_takes_line : Lies K mg "_takes_line" s_takes_line) (D_takes_source : Lies K mg "_takes_source" s_takes_source) (D_read_fraction : Lies K mg "read_fraction" s_read_fraction) (D_read_integer : Lies K mg "_read_integer" s_read_integer) (D_is_integer_text : Lies K mg "_is_integer_text" s_is_integer_text) (D_is_fraction : Lies K mg "is_fraction" s_is_fraction) (D_is_integer : Lies K mg "is_integer" s_is_integer) (D_is_another : Lies K mg "_is_another" s_is_another) (D_is_name : Lies K mg "is_name" s_is_name) (D_names_of : Lies K mg "names_of" s_names_of) (D_takes_part : Lies K mg "_takes_part" s_takes_part) (D_is_above_nought : Lies K mg "is_above_nought" s_is_above_nought) (D_takes_joining : Lies K mg "_takes_joining" s_takes_joining) (D_takes_tie : Lies K mg "_takes_tie" s_takes_tie) (D_is_junction : Lies K mg "_is_junction" s_is_junction) (D_law_edited : Lies K mg "_law_edited" s_l_edited) (D_with_source : Lies K mg "with_source" s_with_source) (D_law_frac_size : Lies K mg "_law_frac_size" s_l_frac_size) (D_with_size : Lies K mg "with_size" s_with_size) (D_check_part : Lies K mg "check_part" s_check_part) (D_fraction_text : Lies K mg "fraction_text" s_fraction_text) (D_integer_text : Lies K mg "_integer_text" s_integer_text) (D_with_lines : Lies K mg "_with_lines" s_with_lines) (D_check_source : Lies K mg "check_source" s_check_source) (D_grounded : Lies K mg "grounded" s_grounded) (D_law_circuit_with : Lies K mg "_law_circuit_with" s_l_circuit_with) (D_law_circuit_grounded : Lies K mg "_law_circuit_grounded" s_l_circuit_grounded) (D_law : Lies K mg "law" s_law)
    (aC : PySem.W.nsIn K mainGlobals "Circuit" = some (some (.ref C)))
    (i1 : PySem.W.findIn K (.ref C) "__init__" = some (some (.ref fI)))
    (i2 : PySem.W.isFn K (.ref fI) = true)
    (i3 : K.lookup fI = some ⟨oc1, od1, .func (PySem.W.fnOf "__init__" "Circuit.__init__" (defArgs s_Circuit_init) (defBody s_Circuit_init) (defScope s_Circuit_init) .none kV1 dc1 pm1 an1 cd1 ct1), sl1⟩)
    (i4 : PySem.W.codeIn K cd1 "Circuit.__init__" = true)
    (i5 : PySem.W.keepIn K (.ref fI) = true)
    (pg : PySem.W.plainGet K C Str.empty = true)
    (hd : PySem.W.hasDictIn K C = true)
    (po : PySem.W.plainOver K C = true)
    (sa : PySem.W.findIn K (.ref C) "__setattr__" = some (some (.builtin "object.__setattr__")))
    (mk : PySem.W.makesIn K C = true)
    (kc : PySem.W.keepIn K (.ref C) = true)
    (nT : PySem.W.findIn K (.ref C) "text" = some none)
    (nS : PySem.W.findIn K (.ref C) "sources" = some none)
    (nP : PySem.W.findIn K (.ref C) "parts" = some none)
    (nJ : PySem.W.findIn K (.ref C) "joinings" = some none)
    (gcd : PySem.W.nsIn K mainGlobals "gcd" = some (some (.builtin "math.gcd")))
    (e1 : PySem.W.findIn K (.ref C) "__eq__" = some (some (.ref fE)))
    (e2 : PySem.W.isFn K (.ref fE) = true)
    (e3 : K.lookup fE = some ⟨oc2, od2, .func (PySem.W.fnOf "__eq__" "Circuit.__eq__" (defArgs s_Circuit_eq) (defBody s_Circuit_eq) (defScope s_Circuit_eq) .none kV2 dc2 pm2 an2 cd2 ct2), sl2⟩)
    (e4 : PySem.W.codeIn K cd2 "Circuit.__eq__" = true)
    (e5 : PySem.W.keepIn K (.ref fE) = true)
    (c1 : PySem.W.findIn K (.ref C) "__class__" = some (some (.builtin "object.__class__")))
    (c2 : PySem.W.specialIn K (.builtin "object.__class__") "__get__" = some (some (.builtin "getset_descriptor.__get__")))
    (c3 : PySem.W.takesIn K (.builtin "object.__class__") = some true)
    (c4 : PySem.W.mroIn K C (.type "object") = some true)
    (kit : PySem.W.kitOne K (.ref C) (.ref C) = some true)
    (ob : K.lookup C = some (excClassObj nm q C N bs [.type "object"] hdd sn sub ab col dd k0 k1 k2 k3 k5 newId))
    (nk : PySem.W.nsOkIn K N = true)
    (q1 : PySem.W.nsIn K N "__eq__" = some (some (.ref fE)))
    (q2 : PySem.W.nsIn K N "__ne__" = some none)
    (n_len : PySem.W.nsIn K mainGlobals "len" = some none)
    (n_abs : PySem.W.nsIn K mainGlobals "abs" = some none)
    (n_sum : PySem.W.nsIn K mainGlobals "sum" = some none)
    (n_all : PySem.W.nsIn K mainGlobals "all" = some none)
    (n_min : PySem.W.nsIn K mainGlobals "min" = some none)
    (n_max : PySem.W.nsIn K mainGlobals "max" = some none)
    (n_repr : PySem.W.nsIn K mainGlobals "repr" = some none)
    (n_isinstance : PySem.W.nsIn K mainGlobals "isinstance" = some none)
    (n_int : PySem.W.nsIn K mainGlobals "int" = some none)
    (n_str : PySem.W.nsIn K mainGlobals "str" = some none)
    (n_bool : PySem.W.nsIn K mainGlobals "bool" = some none)
    (n_list : PySem.W.nsIn K mainGlobals "list" = some none)
    (n_tuple : PySem.W.nsIn K mainGlobals "tuple" = some none)
    (n_dict : PySem.W.nsIn K mainGlobals "dict" = some none)
    (n_range : PySem.W.nsIn K mainGlobals "range" = some none)
    (n_enumerate : PySem.W.nsIn K mainGlobals "enumerate" = some none)
    (n_reversed : PySem.W.nsIn K mainGlobals "reversed" = some none)
    (c_DIGITS : PySem.W.nsIn K mainGlobals "DIGITS" = some (some (.str "0123456789" t_DIGITS)))
    (c_PIECE : PySem.W.nsIn K mainGlobals "PIECE" = some (some (.int 18 t_PIECE)))
    (c_SHIFT : PySem.W.nsIn K mainGlobals "SHIFT" = some (some (.int 1000000000000000000 t_SHIFT)))
    (c_GROUND : PySem.W.nsIn K mainGlobals "GROUND" = some (some (.str "gnd" t_GROUND)))
    (c_LETTERS : PySem.W.nsIn K mainGlobals "LETTERS" = some (some (.str "abcdefghijklmnopqrstuvwxyz" t_LETTERS)))
    (c_LONGEST_NAME : PySem.W.nsIn K mainGlobals "LONGEST_NAME" = some (some (.int 6 t_LONGEST_NAME)))
    (c_MOST_SOURCES : PySem.W.nsIn K mainGlobals "MOST_SOURCES" = some (some (.int 4 t_MOST_SOURCES)))
    (c_MOST_PARTS : PySem.W.nsIn K mainGlobals "MOST_PARTS" = some (some (.int 8 t_MOST_PARTS)))
    (c_MOST_JOININGS : PySem.W.nsIn K mainGlobals "MOST_JOININGS" = some (some (.int 6 t_MOST_JOININGS))) :
    ∃ fd : FuncData, (∀ (s : Shared) (v : Value), BindsTo s fd ⟨[v], []⟩ [("script", v)]) ∧ ∀ base : Heap, K.In base → base.Ns mainGlobals mg → FnG l.prog w K mg base 13 fa fd ["script"] (spLaw K) := by
  obtain ⟨f0, fdL, FL, e0⟩ := D_law.ex
  have e := hfa.symm.trans e0
  cases e
  have T : Plain mg := ⟨PySem.W.mg_none_of X G n_len, PySem.W.mg_none_of X G n_abs, PySem.W.mg_none_of X G n_sum, PySem.W.mg_none_of X G n_all, PySem.W.mg_none_of X G n_min, PySem.W.mg_none_of X G n_max, PySem.W.mg_none_of X G n_repr, PySem.W.mg_none_of X G n_isinstance, PySem.W.mg_none_of X G n_int, PySem.W.mg_none_of X G n_str, PySem.W.mg_none_of X G n_bool, PySem.W.mg_none_of X G n_list, PySem.W.mg_none_of X G n_tuple, PySem.W.mg_none_of X G n_dict, PySem.W.mg_none_of X G n_range, PySem.W.mg_none_of X G n_enumerate, PySem.W.mg_of X G gcd, ⟨_, PySem.W.mg_of X G c_DIGITS⟩, ⟨_, PySem.W.mg_of X G c_PIECE⟩, ⟨_, PySem.W.mg_of X G c_SHIFT⟩, ⟨_, PySem.W.mg_of X G c_GROUND⟩, ⟨_, PySem.W.mg_of X G c_LETTERS⟩, ⟨_, PySem.W.mg_of X G c_LONGEST_NAME⟩, ⟨_, PySem.W.mg_of X G c_MOST_SOURCES⟩, ⟨_, PySem.W.mg_of X G c_MOST_PARTS⟩, ⟨_, PySem.W.mg_of X G c_MOST_JOININGS⟩⟩
  have TV : PlainV mg := ⟨PySem.W.mg_none_of X G n_reversed⟩
  have Z : ClassT K mg C := ⟨⟨pg, hd, po, sa⟩, nT, nS, nP, nJ⟩
  have ET : EqT K mg C fE := ⟨Z, PySem.W.mg_of X G aC, c1, c2, c3, c4, kit, e1, e2, ⟨_, _, _, _, _, _, _, _, _, _, _, _, _, _, _, _, ob, nk, q1, q2⟩⟩
  have FE := fun_mk (st := s_Circuit_eq) e3 e4 e5
  have bE := FE.binds (ps := ["self", "other"]) fun _ _ _ _ _ _ us hl => match us, hl with | [_, _], _ => rfl
  have FI := fun_mk (st := s_Circuit_init) i3 i4 i5
  have bI := FI.binds (ps := ["self", "text"]) fun _ _ _ _ _ _ us hl => match us, hl with | [_, _], _ => rfl
  refine ⟨fdL, fun s v => ?_, fun base _ _ => all_kept T TV Z (PySem.W.mg_of X G aC) ET FE bE ⟨mk, i1, i2, kc⟩ FI bI FL D_law_cells D_law_pot D_law_right D_law_take D_law_circuit_any D_law_of D_law_circuit_drawn D_law_some D_law_frac_drawn D_law_frac D_law_frac_common D_law_circuit_tied D_law_circuit_text D_law_frac_text D_read_lines D_takes_line D_takes_source D_read_fraction D_read_integer D_is_integer_text D_is_fraction D_is_integer D_is_another D_is_name D_names_of D_takes_part D_is_above_nought D_takes_joining D_takes_tie D_is_junction D_law_edited D_with_source D_law_frac_size D_with_size D_check_part D_fraction_text D_integer_text D_with_lines D_check_source D_grounded D_law_circuit_with D_law_circuit_grounded⟩
  obtain ⟨oc, od, kV, doc, pm, an, cdv, ct, osl, efd, _, _⟩ := FL.ex
  subst efd
  exact .of_eq rfl
theorem walk {l : PySem.W.OpenLaw} {q : Program} {loose : List Str} {XP : (Str → Option Value) → Heap → Prop} {YP : World → Heap → Prop} {d : DefRec} {K : Params → PySem.W.Frag} (hn : l.most = some 63) (hdf : d.params.defaults = [])
    (hY : ∀ (w : World) (h : Heap), YP w h → (K w.params).In h)
    (F : ∀ (w : World) (mg : Str → Option Value) (fa : Addr) (h : Heap), (K w.params).In h → h.Ns mainGlobals mg → mg d.name = some (.ref fa) →
      ∃ fd : FuncData, (∀ (s : Shared) (u : Value), BindsTo s fd ⟨[u], []⟩ [("script", u)]) ∧ ∀ base : Heap, (K w.params).In base → base.Ns mainGlobals mg → FnG l.prog w (K w.params) mg base 13 fa fd ["script"] (spLaw (K w.params))) :
    PySem.W.WalkO q loose XP YP l.row.toRowW d [] (fun f vs => PySem.call f vs) :=
  walk_runs (n := 63) (k := 13) (x := "script") (sp := fun w => spLaw (K w.params)) hn (by decide) hdf ⟨rfl, by decide, by decide⟩ hY F fun w H a ns _ _ hS => ⟨a, ns, rfl, hS, fun _ => rfl⟩
end Ct

open PySem PySem.W PyProof.Rows in
set_option Elab.async false in
set_option maxRecDepth 100000 in
set_option maxHeartbeats 0 in
theorem PySem.Challenge.cw_chargeturns_k02_whole_circuits_edited_holds : PySem.Challenge.rw_chargeturns_k02_whole_circuits_edited.Holds := by
  w_on; o_law; k_head; (case hw => w_witness2)
  k_fill
  refine Ct.walk (l := PySem.Challenge.rw_chargeturns_k02_whole_circuits_edited) rfl rfl (fun w h Y => PySem.W.kIn_of Y) ?F
  case F =>
    intro w mg fa h KX G hmg
    refine' Ct.all_mk KX G hmg (Ct.lies_of KX G ?a_law_cells ?l_law_cells ?c_law_cells ?k_law_cells) (Ct.lies_of KX G ?a_law_pot ?l_law_pot ?c_law_pot ?k_law_pot) (Ct.lies_of KX G ?a_law_right ?l_law_right ?c_law_right ?k_law_right) (Ct.lies_of KX G ?a_law_take ?l_law_take ?c_law_take ?k_law_take) (Ct.lies_of KX G ?a_law_circuit_any ?l_law_circuit_any ?c_law_circuit_any ?k_law_circuit_any) (Ct.lies_of KX G ?a_law_of ?l_law_of ?c_law_of ?k_law_of) (Ct.lies_of KX G ?a_law_circuit_drawn ?l_law_circuit_drawn ?c_law_circuit_drawn ?k_law_circuit_drawn) (Ct.lies_of KX G ?a_law_some ?l_law_some ?c_law_some ?k_law_some) (Ct.lies_of KX G ?a_law_frac_drawn ?l_law_frac_drawn ?c_law_frac_drawn ?k_law_frac_drawn) (Ct.lies_of KX G ?a_law_frac ?l_law_frac ?c_law_frac ?k_law_frac) (Ct.lies_of KX G ?a_law_frac_common ?l_law_frac_common ?c_law_frac_common ?k_law_frac_common) (Ct.lies_of KX G ?a_law_circuit_tied ?l_law_circuit_tied ?c_law_circuit_tied ?k_law_circuit_tied) (Ct.lies_of KX G ?a_law_circuit_text ?l_law_circuit_text ?c_law_circuit_text ?k_law_circuit_text) (Ct.lies_of KX G ?a_law_frac_text ?l_law_frac_text ?c_law_frac_text ?k_law_frac_text) (Ct.lies_of KX G ?a_read_lines ?l_read_lines ?c_read_lines ?k_read_lines) (Ct.lies_of KX G ?a_takes_line ?l_takes_line ?c_takes_line ?k_takes_line) (Ct.lies_of KX G ?a_takes_source ?l_takes_source ?c_takes_source ?k_takes_source) (Ct.lies_of KX G ?a_read_fraction ?l_read_fraction ?c_read_fraction ?k_read_fraction) (Ct.lies_of KX G ?a_read_integer ?l_read_integer ?c_read_integer ?k_read_integer) (Ct.lies_of KX G ?a_is_integer_text ?l_is_integer_text ?c_is_integer_text ?k_is_integer_text) (Ct.lies_of KX G ?a_is_fraction ?l_is_fraction ?c_is_fraction ?k_is_fraction) (Ct.lies_of KX G ?a_is_integer ?l_is_integer ?c_is_integer ?k_is_integer) (Ct.lies_of KX G ?a_is_another ?l_is_another ?c_is_another ?k_is_another) (Ct.lies_of KX G ?a_is_name ?l_is_name ?c_is_name ?k_is_name) (Ct.lies_of KX G ?a_names_of ?l_names_of ?c_names_of ?k_names_of) (Ct.lies_of KX G ?a_takes_part ?l_takes_part ?c_takes_part ?k_takes_part) (Ct.lies_of KX G ?a_is_above_nought ?l_is_above_nought ?c_is_above_nought ?k_is_above_nought) (Ct.lies_of KX G ?a_takes_joining ?l_takes_joining ?c_takes_joining ?k_takes_joining) (Ct.lies_of KX G ?a_takes_tie ?l_takes_tie ?c_takes_tie ?k_takes_tie) (Ct.lies_of KX G ?a_is_junction ?l_is_junction ?c_is_junction ?k_is_junction) (Ct.lies_of KX G ?a_law_edited ?l_law_edited ?c_law_edited ?k_law_edited) (Ct.lies_of KX G ?a_with_source ?l_with_source ?c_with_source ?k_with_source) (Ct.lies_of KX G ?a_law_frac_size ?l_law_frac_size ?c_law_frac_size ?k_law_frac_size) (Ct.lies_of KX G ?a_with_size ?l_with_size ?c_with_size ?k_with_size) (Ct.lies_of KX G ?a_check_part ?l_check_part ?c_check_part ?k_check_part) (Ct.lies_of KX G ?a_fraction_text ?l_fraction_text ?c_fraction_text ?k_fraction_text) (Ct.lies_of KX G ?a_integer_text ?l_integer_text ?c_integer_text ?k_integer_text) (Ct.lies_of KX G ?a_with_lines ?l_with_lines ?c_with_lines ?k_with_lines) (Ct.lies_of KX G ?a_check_source ?l_check_source ?c_check_source ?k_check_source) (Ct.lies_of KX G ?a_grounded ?l_grounded ?c_grounded ?k_grounded) (Ct.lies_of KX G ?a_law_circuit_with ?l_law_circuit_with ?c_law_circuit_with ?k_law_circuit_with) (Ct.lies_of KX G ?a_law_circuit_grounded ?l_law_circuit_grounded ?c_law_circuit_grounded ?k_law_circuit_grounded) (Ct.lies_of KX G ?a_law ?l_law ?c_law ?k_law) ?z_aC ?z_i1 ?z_i2 ?z_i3 ?z_i4 ?z_i5 ?z_pg ?z_hd ?z_po ?z_sa ?z_mk ?z_kc ?z_nT ?z_nS ?z_nP ?z_nJ ?z_gcd ?z_e1 ?z_e2 ?z_e3 ?z_e4 ?z_e5 ?z_c1 ?z_c2 ?z_c3 ?z_c4 ?z_kit ?z_ob ?z_nk ?z_q1 ?z_q2 ?z_n_len ?z_n_abs ?z_n_sum ?z_n_all ?z_n_min ?z_n_max ?z_n_repr ?z_n_isinstance ?z_n_int ?z_n_str ?z_n_bool ?z_n_list ?z_n_tuple ?z_n_dict ?z_n_range ?z_n_enumerate ?z_n_reversed ?z_c_DIGITS ?z_c_PIECE ?z_c_SHIFT ?z_c_GROUND ?z_c_LETTERS ?z_c_LONGEST_NAME ?z_c_MOST_SOURCES ?z_c_MOST_PARTS ?z_c_MOST_JOININGS
    (case a_law_cells => k_is); (case l_law_cells => k_is); (case c_law_cells => k_is); (case k_law_cells => k_is)
    (case a_law_pot => k_is); (case l_law_pot => k_is); (case c_law_pot => k_is); (case k_law_pot => k_is)
    (case a_law_right => k_is); (case l_law_right => k_is); (case c_law_right => k_is); (case k_law_right => k_is)
    (case a_law_take => k_is); (case l_law_take => k_is); (case c_law_take => k_is); (case k_law_take => k_is)
    (case a_law_circuit_any => k_is); (case l_law_circuit_any => k_is); (case c_law_circuit_any => k_is); (case k_law_circuit_any => k_is)
    (case a_law_of => k_is); (case l_law_of => k_is); (case c_law_of => k_is); (case k_law_of => k_is)
    (case a_law_circuit_drawn => k_is); (case l_law_circuit_drawn => k_is); (case c_law_circuit_drawn => k_is); (case k_law_circuit_drawn => k_is)
    (case a_law_some => k_is); (case l_law_some => k_is); (case c_law_some => k_is); (case k_law_some => k_is)
    (case a_law_frac_drawn => k_is); (case l_law_frac_drawn => k_is); (case c_law_frac_drawn => k_is); (case k_law_frac_drawn => k_is)
    (case a_law_frac => k_is); (case l_law_frac => k_is); (case c_law_frac => k_is); (case k_law_frac => k_is)
    (case a_law_frac_common => k_is); (case l_law_frac_common => k_is); (case c_law_frac_common => k_is); (case k_law_frac_common => k_is)
    (case a_law_circuit_tied => k_is); (case l_law_circuit_tied => k_is); (case c_law_circuit_tied => k_is); (case k_law_circuit_tied => k_is)
    (case a_law_circuit_text => k_is); (case l_law_circuit_text => k_is); (case c_law_circuit_text => k_is); (case k_law_circuit_text => k_is)
    (case a_law_frac_text => k_is); (case l_law_frac_text => k_is); (case c_law_frac_text => k_is); (case k_law_frac_text => k_is)
    (case a_read_lines => k_is); (case l_read_lines => k_is); (case c_read_lines => k_is); (case k_read_lines => k_is)
    (case a_takes_line => k_is); (case l_takes_line => k_is); (case c_takes_line => k_is); (case k_takes_line => k_is)
    (case a_takes_source => k_is); (case l_takes_source => k_is); (case c_takes_source => k_is); (case k_takes_source => k_is)
    (case a_read_fraction => k_is); (case l_read_fraction => k_is); (case c_read_fraction => k_is); (case k_read_fraction => k_is)
    (case a_read_integer => k_is); (case l_read_integer => k_is); (case c_read_integer => k_is); (case k_read_integer => k_is)
    (case a_is_integer_text => k_is); (case l_is_integer_text => k_is); (case c_is_integer_text => k_is); (case k_is_integer_text => k_is)
    (case a_is_fraction => k_is); (case l_is_fraction => k_is); (case c_is_fraction => k_is); (case k_is_fraction => k_is)
    (case a_is_integer => k_is); (case l_is_integer => k_is); (case c_is_integer => k_is); (case k_is_integer => k_is)
    (case a_is_another => k_is); (case l_is_another => k_is); (case c_is_another => k_is); (case k_is_another => k_is)
    (case a_is_name => k_is); (case l_is_name => k_is); (case c_is_name => k_is); (case k_is_name => k_is)
    (case a_names_of => k_is); (case l_names_of => k_is); (case c_names_of => k_is); (case k_names_of => k_is)
    (case a_takes_part => k_is); (case l_takes_part => k_is); (case c_takes_part => k_is); (case k_takes_part => k_is)
    (case a_is_above_nought => k_is); (case l_is_above_nought => k_is); (case c_is_above_nought => k_is); (case k_is_above_nought => k_is)
    (case a_takes_joining => k_is); (case l_takes_joining => k_is); (case c_takes_joining => k_is); (case k_takes_joining => k_is)
    (case a_takes_tie => k_is); (case l_takes_tie => k_is); (case c_takes_tie => k_is); (case k_takes_tie => k_is)
    (case a_is_junction => k_is); (case l_is_junction => k_is); (case c_is_junction => k_is); (case k_is_junction => k_is)
    (case a_law_edited => k_is); (case l_law_edited => k_is); (case c_law_edited => k_is); (case k_law_edited => k_is)
    (case a_with_source => k_is); (case l_with_source => k_is); (case c_with_source => k_is); (case k_with_source => k_is)
    (case a_law_frac_size => k_is); (case l_law_frac_size => k_is); (case c_law_frac_size => k_is); (case k_law_frac_size => k_is)
    (case a_with_size => k_is); (case l_with_size => k_is); (case c_with_size => k_is); (case k_with_size => k_is)
    (case a_check_part => k_is); (case l_check_part => k_is); (case c_check_part => k_is); (case k_check_part => k_is)
    (case a_fraction_text => k_is); (case l_fraction_text => k_is); (case c_fraction_text => k_is); (case k_fraction_text => k_is)
    (case a_integer_text => k_is); (case l_integer_text => k_is); (case c_integer_text => k_is); (case k_integer_text => k_is)
    (case a_with_lines => k_is); (case l_with_lines => k_is); (case c_with_lines => k_is); (case k_with_lines => k_is)
    (case a_check_source => k_is); (case l_check_source => k_is); (case c_check_source => k_is); (case k_check_source => k_is)
    (case a_grounded => k_is); (case l_grounded => k_is); (case c_grounded => k_is); (case k_grounded => k_is)
    (case a_law_circuit_with => k_is); (case l_law_circuit_with => k_is); (case c_law_circuit_with => k_is); (case k_law_circuit_with => k_is)
    (case a_law_circuit_grounded => k_is); (case l_law_circuit_grounded => k_is); (case c_law_circuit_grounded => k_is); (case k_law_circuit_grounded => k_is)
    (case a_law => k_is); (case l_law => k_is); (case c_law => k_is); (case k_law => k_is)
    (case z_aC => k_is)
    (case z_i1 => k_is)
    (case z_i2 => k_is)
    (case z_i3 => k_is)
    (case z_i4 => k_is)
    (case z_i5 => k_is)
    (case z_pg => k_is)
    (case z_hd => k_is)
    (case z_po => k_is)
    (case z_sa => k_is)
    (case z_mk => k_is)
    (case z_kc => k_is)
    (case z_nT => k_is)
    (case z_nS => k_is)
    (case z_nP => k_is)
    (case z_nJ => k_is)
    (case z_gcd => k_is)
    (case z_e1 => k_is)
    (case z_e2 => k_is)
    (case z_e3 => k_is)
    (case z_e4 => k_is)
    (case z_e5 => k_is)
    (case z_c1 => k_is)
    (case z_c2 => k_is)
    (case z_c3 => k_is)
    (case z_c4 => k_is)
    (case z_kit => first | k_is | kernel_rfl | decide +kernel)
    (case z_ob => k_is)
    (case z_nk => first | k_is | kernel_rfl | decide +kernel)
    (case z_q1 => k_is)
    (case z_q2 => k_is)
    (case z_n_len => k_is)
    (case z_n_abs => k_is)
    (case z_n_sum => k_is)
    (case z_n_all => k_is)
    (case z_n_min => k_is)
    (case z_n_max => k_is)
    (case z_n_repr => k_is)
    (case z_n_isinstance => k_is)
    (case z_n_int => k_is)
    (case z_n_str => k_is)
    (case z_n_bool => k_is)
    (case z_n_list => k_is)
    (case z_n_tuple => k_is)
    (case z_n_dict => k_is)
    (case z_n_range => k_is)
    (case z_n_enumerate => k_is)
    (case z_n_reversed => k_is)
    (case z_c_DIGITS => k_is)
    (case z_c_PIECE => k_is)
    (case z_c_SHIFT => k_is)
    (case z_c_GROUND => k_is)
    (case z_c_LETTERS => k_is)
    (case z_c_LONGEST_NAME => k_is)
    (case z_c_MOST_SOURCES => k_is)
    (case z_c_MOST_PARTS => k_is)
    (case z_c_MOST_JOININGS => k_is)
