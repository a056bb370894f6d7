import PyProof.Rows.All
import Wide.All
import OpenK.AllK
import Wide.FinOn
import HandS.ForMost
import HandS.OwnEq
import HandS.Deep
import HandS.FStr
import HandS.Gcd
import HandS.IsInst
import HandS.Wide
import HandS.Conv
import HandS.Evl
import HandS.Style
import HandS.ListItems
import HandS.Walk
import HandS.TryOnly
import PySem.Challenge.RW_chargeturns_k01_names_and_numbers_refuse
import KE.IntTextLaws
import KE.GoesEnumKw
import HandS.Text
import HandS.List
import HandS.Iter
import PyProof.StrOps2
import HandS.Dict
import PyProof.DictUpdate
import HandS.Exc
import HandS.ExcInit
import HandS.ExcField
import HandS.ExcIs
import HandS.Lambda
import KE.KExcIs
import HandS.EndTab
import KE.KDictPairs
import HandS.Zip
import HandS.DictComp
import KE.KMathG
import KE.IntBitsLaws
import KE.GoesNew
import KE.GoesMore
import HandS.SetBool
import HandS.SetTxt0
import PyProof.Rows.SortStr
import PyProof.Rows.SortShellAny
import HandS.TupAny
import HandS.Rev
import PyProof.JoinWalk
import PyProof.EqKinds
import PyProof.P3In
import PyProof.StrLawsRepr
import PyProof.Rows.NestShow
import KE.KNestM
set_option Elab.async false
set_option linter.all false
set_option maxRecDepth 100000
set_option maxHeartbeats 4000000
/-! What all the texts of this proof share: calls by name, the pot's frame, a wider power. -/
namespace Ct
open PySem PySem.Spec PyProof.Rows L2 TL

theorem bindsL1 {fd : FuncData} {p0 : Str} (h : ∀ a, bindArgs fd ⟨[a], []⟩ = pure ([p0].zip [a])) (us : List Value) (hl : us.length = [p0].length) : bindArgs fd ⟨us, []⟩ = pure ([p0].zip us) := match us, hl with | [a], _ => h a
theorem bindsL2 {fd : FuncData} {p0 p1 : Str} (h : ∀ a b, bindArgs fd ⟨[a, b], []⟩ = pure ([p0, p1].zip [a, b])) (us : List Value) (hl : us.length = [p0, p1].length) : bindArgs fd ⟨us, []⟩ = pure ([p0, p1].zip us) := match us, hl with | [a, b], _ => h a b
theorem bindsL3 {fd : FuncData} {p0 p1 p2 : Str} (h : ∀ a b c, bindArgs fd ⟨[a, b, c], []⟩ = pure ([p0, p1, p2].zip [a, b, c])) (us : List Value) (hl : us.length = [p0, p1, p2].length) : bindArgs fd ⟨us, []⟩ = pure ([p0, p1, p2].zip us) := match us, hl with | [a, b, c], _ => h a b c
theorem bindsL4 {fd : FuncData} {p0 p1 p2 p3 : Str} (h : ∀ a b c d, bindArgs fd ⟨[a, b, c, d], []⟩ = pure ([p0, p1, p2, p3].zip [a, b, c, d])) (us : List Value) (hl : us.length = [p0, p1, p2, p3].length) : bindArgs fd ⟨us, []⟩ = pure ([p0, p1, p2, p3].zip us) := match us, hl with | [a, b, c, d], _ => h a b c d
/-! ### calls by name -/
/-- the def called x keeps sp at level k, wherever the module's names are as they are -/
structure Keeps (P : Program) (w : World) (K : PySem.W.Frag) (mg : Str → Option Value) (base : Heap) (k : Nat) (x : Str) (ps : List Str) (sp : Sp) : Prop where
  ex : ∃ (f : Addr) (fd : FuncData), FnOk P w K mg base CX0 k f fd ps sp ∧ mg x = some (.ref f) ∧ PySem.W.keepIn K (.ref f) = true ∧ Binds K fd ps [] ∧
    ∀ st f' fd', Fun K x x st f' fd' → mg x = some (.ref f') → Fun K x x st f fd
/-- where the text's statement st, a def called x, lies behind the top -/
structure Lies (K : PySem.W.Frag) (mg : Str → Option Value) (x : Str) (st : Stmt) : Prop where
  ex : ∃ (f : Addr) (fd : FuncData), Fun K x x st f fd ∧ mg x = some (.ref f)
section
variable {P : Program} {w : World} {K : PySem.W.Frag} {mg : Str → Option Value} {base : Heap}
theorem Lies.keeps {x : Str} {st : Stmt} {N ps : List Str} {k : Nat} {sp : Sp} (D : Lies K mg x st) (S : FnScope N ps (defScope st))
    (hb : ∀ (kV doc pm : Value) (an : Option Addr) (cdv ct : Value) (us : List Value), us.length = ps.length → bindArgs (PySem.W.fnOf x x (defArgs st) (defBody st) (defScope st) .none kV doc pm an cdv ct) ⟨us, []⟩ = pure (ps.zip us))
    (len : ∀ vs H Q E, sp vs H Q E → vs.length = ps.length)
    (body : ∀ (f : Addr) (cdv : Value) (A : Around) (outer : List Env) (s : Shared) (H : Hp) (vs : List V) (Q : VK) (E : XK), Room k (A.deeper (envOfC x (defScope st) s.heap.objs.size f cdv)) → sp vs H Q E →
      ∃ t, PSs (cxOf CX0 P w K mg base N x (defScope st) f cdv A outer s H E).nox (defBody st) t ∧ t { nx := fun _ H' => Q .non H', rt := Q } (start N vs) H) : Keeps P w K mg base (k + 1) x ps sp := by
  obtain ⟨f, fd, F, hm⟩ := D.ex
  refine ⟨f, fd, F.ok S len (body f), hm, F.kp, F.binds hb, fun st' f' fd' F' hm' => ?_⟩
  have e := hm.symm.trans hm'
  cases e
  obtain ⟨oc, od, kV, doc, pm, an, c1, ct, osl, e1, l1, _⟩ := F.ex
  obtain ⟨oc', od', kV', doc', pm', an', c1', ct', osl', e1', l1', _⟩ := id F'.ex
  rw [l1] at l1'
  cases l1'
  exact F'
end
/-- the class called x, at C: its instances are made by an __init__ that keeps sp -/
structure Makes (P : Program) (w : World) (K : PySem.W.Frag) (mg : Str → Option Value) (base : Heap) (k : Nat) (x : Str) (C : Addr) (ps : List Str) (sp : Sp) : Prop where
  ex : ∃ (f : Addr) (fd : FuncData), Mk K C f ∧ FnOk P w K mg base CX0 k f fd ps sp ∧ mg x = some (.ref C) ∧ Binds K fd ps []
section
variable {X : Cx}
theorem pe_new {k : Nat} {x : Str} {C : Addr} {p pos : Pos} {e : Expr} {es : List Expr} {ps : List Str} {sp : Sp} {t : TA} (G : Makes X.prog X.w X.K X.mg X.base k x C ps sp) (hr : Room (k + 1) X.A) (hg : Gl X x) (ha : PA X (e :: es) t)
    (hdb : (x == ("__debug__" : Str)) = false := by decide) (he : starEach (e :: es) X.env = (false, eval e X.env) :: starEach es X.env := by rfl) (hpl : (backTo pos (starEach es X.env)).any (·.1) = false := by rfl) :
    PE X (.Call (.Name x p) (e :: es) [] pos) (tMake C sp [] E0 t) := by
  obtain ⟨f, fd, g0, g1, g2, g3⟩ := G.ex
  exact pe_make g0 g1 hr hg g2 g3 .nil pass0 ha hdb he hpl
theorem pe_go {k : Nat} {x : Str} {p pos : Pos} {e : Expr} {es : List Expr} {ps : List Str} {sp : Sp} {t : TA} (G : Keeps X.prog X.w X.K X.mg X.base k x ps sp) (hr : Room k X.A) (hg : Gl X x) (ha : PA X (e :: es) t)
    (hdb : (x == ("__debug__" : Str)) = false := by decide) (he : starEach (e :: es) X.env = (false, eval e X.env) :: starEach es X.env := by rfl) (hpl : (backTo pos (starEach es X.env)).any (·.1) = false := by rfl) :
    PE X (.Call (.Name x p) (e :: es) [] pos) (tCall sp [] E0 t) := by
  obtain ⟨f, fd, g1, g2, g3, g4, _⟩ := G.ex
  exact pe_call g1 hr hg g2 g3 g4 .nil pass0 ha hdb he hpl
/-- powers of any base, as long as the result stays far below the line -/
def CPowW (i j : Int) : Prop := 0 ≤ j ∧ (Builtin.Int.intBits i : Int) * j ≤ 2 ^ 27
theorem op_powW : OpR X (binaryOp .Pow) (rI CPowW fun i j => .int (i ^ j.toNat)) := opI fun _ _ _ _ _ _ _ c q => pow_int c.1 c.2 q
end

theorem if_true_of' {c : Bool} {A B : Prop} (hc : c = true) (h : A) : if c = true then A else B := by
  subst hc
  exact iteT h
theorem log_of {n : Nat} (h : n < 2 ^ 1000) : n.log2 < 1920 := Nat.lt_of_lt_of_le (PySem.Flt.log2_lt_of (by decide) h) (by decide)
theorem len_app (x y : Str) : (x ++ y).length = x.length + y.length := by
  rw [len_tl, len_tl, len_tl, tl_append, List.length_append]
section
variable {X : Cx}
theorem pe_cs {x z : Str} {pos : Pos} (h : ∃ t, X.mg x = some (.str z t)) (hg : Gl X x) (hd : (x == ("__debug__" : Str)) = false := by decide) : PE X (.Name x pos) (tC (.str z)) := by
  obtain ⟨t, e⟩ := h
  exact pe_glob hg e ⟨t, rfl⟩ hd
theorem pe_ci {x : Str} {i : Int} {pos : Pos} (h : ∃ t, X.mg x = some (.int i t)) (hg : Gl X x) (hd : (x == ("__debug__" : Str)) = false := by decide) : PE X (.Name x pos) (tC (.int i)) := by
  obtain ⟨t, e⟩ := h
  exact pe_glob hg e ⟨t, rfl⟩ hd
end
theorem emp_app (x : Str) : Str.empty ++ x = x := ext_tl (by rw [tl_append]; rfl)
/-! ### the same rules with the written part named (an element of a comprehension may not speak of its block) -/
section
variable {X : Cx} {K : PySem.W.Frag}
def rJoinK (K : PySem.W.Frag) : V → List V → Hp → VK → Prop := fun x xs H Q =>
  ∃ (a : Str) (p : Addr) (ys : List Str), x = .str a ∧ xs = [.ref p] ∧
    (SqL K H p (ys.map V.str) ∨ SqT K H p (ys.map V.str)) ∧
    (ys.map (·.length)).sum + ys.length * a.length ≤ 16777216 ∧ Q (.str (Txt.join a ys)) H
theorem pe_joinK {o e : Expr} {to te : TE} {apos pos : Pos} (hK : X.K = K) (ho : PE X o to) (he : PE X e te) (hs : starEach [e] X.env = [(false, eval e X.env)] := by rfl)
    (hbase : attributeBase o "join" X.env (eval o X.env) = eval o X.env := by rfl) (hline : (apos.endLine == pos.line) = true := by rfl) : PE X (.Call (.Attribute o "join" apos) [e] [] pos) (tM1 (rJoinK K) to te) := by
  subst hK
  exact pe_join ho he hs hbase hline
def rListK (K : PySem.W.Frag) : List V → Hp → VK → Prop := fun xs H Q => ∃ (p : Addr) (ys : List V), xs = [.ref p] ∧ (SqL K H p ys ∨ SqT K H p ys) ∧
  ∀ l, H l = none → Q (.ref l) (upd H l (.lst ys))
theorem pe_listK {e : Expr} {t : TA} {p pos : Pos} (hK : X.K = K) (hg : Gl X "list") (hm : X.mg "list" = none) (ha : PA X [e] t)
    (he : starEach (e :: []) X.env = (false, eval e X.env) :: starEach [] X.env := by rfl) (hpl : (backTo pos (starEach [] X.env)).any (·.1) = false := by rfl) : PE X (.Call (.Name "list" p) [e] [] pos) (tCB (rListK K) t) := by
  subst hK
  exact pe_callTy call_list_of hg hm (by decide +kernel) ha (by decide) (by decide) he hpl
def rTupleK (K : PySem.W.Frag) : List V → Hp → VK → Prop := fun xs H Q => ∃ (p : Addr) (ys : List V), xs = [.ref p] ∧
  ((SqL K H p ys ∧ ∀ l, H l = none → Q (.ref l) (upd H l (.tup ys))) ∨ (SqT K H p ys ∧ Q (.ref p) H))
theorem pe_tupleK {e : Expr} {t : TA} {p pos : Pos} (hK : X.K = K) (hg : Gl X "tuple") (hm : X.mg "tuple" = none) (ha : PA X [e] t)
    (he : starEach (e :: []) X.env = (false, eval e X.env) :: starEach [] X.env := by rfl) (hpl : (backTo pos (starEach [] X.env)).any (·.1) = false := by rfl) : PE X (.Call (.Name "tuple" p) [e] [] pos) (tCB (rTupleK K) t) := by
  subst hK
  exact pe_callTy call_tuple_of hg hm (by decide +kernel) ha (by decide) (by decide) he hpl
theorem ix_tupK (hK : X.K = K) : IxR X (rIxT K) := by
  subst hK
  exact ix_tup
end
/-! ### readings opened one layer -/
theorem into_set {te : TE} {g : TG} {r : TS} {D : Ends} {σ : L2.St} {H : Hp} (h : te σ H fun x H1 => g x σ H1 (r D)) : tSeq (tAsg te g) r D σ H := h
theorem into_drop {te : TE} {r : TS} {D : Ends} {σ : L2.St} {H : Hp} (h : te σ H fun _ H1 => r D σ H1) : tSeq (tDrop te) r D σ H := h
theorem into_dput {td ty tv : TE} {r : TS} {D : Ends} {σ : L2.St} {H : Hp} (h : tv σ H fun v H1 => td σ H1 fun x H2 => ty σ H2 fun y H3 => ∃ a H', x = .ref a ∧ DPut H3 a y v H' ∧ r D σ H') : tSeq (sDPut td ty tv) r D σ H := h
theorem into_not {t : TT} {σ : L2.St} {H : Hp} {Q : Bool → Hp → Prop} (h : t σ H fun c H1 => Q (!c) H1) : tNot t σ H Q := h
theorem into_b {t : TE} {σ : L2.St} {H : Hp} {Q : Bool → Hp → Prop} (h : t σ H fun x H1 => ∃ c, x = .bl c ∧ Q c H1) : tB t σ H Q := h
theorem into_cb {r : List V → Hp → VK → Prop} {t : TA} {σ : L2.St} {H : Hp} {Q : VK} (h : t σ H fun vs H1 => r vs H1 Q) : tCB r t σ H Q := h
theorem into_ret {te : TE} {D : Ends} {σ : L2.St} {H : Hp} (h : te σ H D.rt) : tRet te D σ H := h
theorem into_andV {ta tb : TE} {σ : L2.St} {H : Hp} {Q : VK} (h : ta σ H fun x H1 => ∃ c, x = .bl c ∧ if c = true then tb σ H1 Q else Q (.bl false) H1) : tAndV ta tb σ H Q := h
theorem into_fld {K : PySem.W.Frag} {ta tv : TE} {fl : Str} {D : Ends} {σ : L2.St} {H : Hp} (h : tv σ H fun v H1 => ta σ H1 fun x H2 => ∃ a C dx fs, x = .ref a ∧ H2 a = some (.ins C dx fs) ∧ Cls K C ∧ NoAttr K C fl ∧ fs.length < 1000 ∧ D.nx σ (upd H2 a (.ins C dx (putF fl v fs)))) : sFld K ta tv fl D σ H := h
theorem into_pairC {v : V} {tv : TE} {r : List (TE × TE)} {σ : L2.St} {H : Hp} {Q : List (V × V) → Hp → Prop} (h : tv σ H fun y H2 => tPairs r σ H2 fun ps H3 => Q ((v, y) :: ps) H3) : tPairs ((tC v, tv) :: r) σ H Q := h
theorem into_name {i : Nat} {v : V} {σ : L2.St} {H : Hp} {Q : L2.St → Hp → Prop} (h : Q (σ.set i (some v)) H) : gName i v σ H Q := h
theorem into_seq {t r : TS} {D : Ends} {σ : L2.St} {H : Hp} (h : t { D with nx := r D } σ H) : tSeq t r D σ H := h
theorem into_args1 {te : TE} {σ : L2.St} {H : Hp} {Q : List V → Hp → Prop} (h : te σ H fun x H1 => Q [x] H1) : tCons te tNil σ H Q := h
theorem into_next {D : Ends} {σ : L2.St} {H : Hp} (h : D.nx σ H) : tNext D σ H := h
theorem into_if {t : TT} {A B r : TS} {D : Ends} {σ : L2.St} {H : Hp} (h : t σ H fun c H1 => if c = true then A { D with nx := r D } σ H1 else B { D with nx := r D } σ H1) : tSeq (tIfS t A B) r D σ H := h
theorem into_or {ta tb : TT} {σ : L2.St} {H : Hp} {Q : Bool → Hp → Prop} (h : ta σ H fun c H1 => if c = true then Q true H1 else tb σ H1 Q) : tOr ta tb σ H Q := h
/-! ### heaps -/
/-- G is what of H is fixed; p, the pot, stands outside -/
structure Beside (p : Addr) (G H : Hp) : Prop where
  out : G p = none
  sub : Same G H
theorem same_upd {G : Hp} {a : Addr} {o : HO} (h : G a = none) : Same G (upd G a o) := fun b z e => by
  rw [upd_ne (ne_of_none e h)]
  exact e
/-- a new object, at an address where H tracks nothing -/
theorem Beside.new {p a : Addr} {G H : Hp} {o : HO} (b : Beside p G H) (hp : H p ≠ none) (ha : H a = none) : Beside p (upd G a o) (upd H a o) ∧ Same G (upd G a o) ∧ G a = none := by
  have g : G a = none := b.sub.free ha
  have npa : p ≠ a := fun z => hp (z ▸ ha)
  refine ⟨⟨?_, fun c z e => ?_⟩, same_upd g, g⟩
  · rw [upd_ne npa]
    exact b.out
  · by_cases q : c = a
    · subst q
      rw [upd_same] at e ⊢
      exact e
    · rw [upd_ne q] at e ⊢
      exact b.sub _ _ e
/-- the pot's own change -/
theorem Beside.pot {p : Addr} {G H : Hp} {o : HO} (b : Beside p G H) : Beside p G (upd H p o) := ⟨b.out, fun c z e => by
  have q : c ≠ p := fun y => by
    rw [y, b.out] at e
    cases e
  rw [upd_ne q]
  exact b.sub _ _ e⟩
/-- the pot at p, asked at most n times -/
def PotAt (p : Addr) (H : Hp) (n : Nat) : Prop := ∃ a b c : Int, H p = some (.lst [.int a, .int b, .int c]) ∧ 0 ≤ a ∧ 0 ≤ b ∧ b < 2305843009213693921 ∧ 0 ≤ c ∧ c ≤ (n : Int) ∧ n ≤ 1000000
theorem PotAt.some {p : Addr} {H : Hp} {n : Nat} (h : PotAt p H n) : H p ≠ none := by
  obtain ⟨a, b, c, e, _⟩ := h
  rw [e]
  exact fun z => nomatch z
theorem PotAt.new {p a : Addr} {H : Hp} {n : Nat} {o : HO} (h : PotAt p H n) (ha : H a = none) : PotAt p (upd H a o) n := by
  obtain ⟨x, y, z, e, r⟩ := h
  exact ⟨x, y, z, by rw [upd_ne (ne_of_none e ha)]; exact e, r⟩
theorem PotAt.more {p : Addr} {H : Hp} {n m : Nat} (h : PotAt p H n) (l : n ≤ m) (l2 : m ≤ 1000000) : PotAt p H m := by
  obtain ⟨x, y, z, e, h1, h2, h3, h4, h5, _⟩ := h
  exact ⟨x, y, z, e, h1, h2, h3, h4, by omega, l2⟩
end Ct

namespace Ct
open PySem PySem.Spec PyProof.Rows L2 TL
def top (i : Nat) : Stmt := PySem.Challenge.pw_chargeturns_k01_names_and_numbers_refuse.main.body.getD i (.Pass ⟨0, 0, 0, 0⟩)
theorem b_len : bootBuiltins "len" = some (.builtin "len") := by decide +kernel
theorem b_abs : bootBuiltins "abs" = some (.builtin "abs") := by decide +kernel
theorem b_sum : bootBuiltins "sum" = some (.builtin "sum") := by decide +kernel
theorem b_all : bootBuiltins "all" = some (.builtin "all") := by decide +kernel
theorem b_min : bootBuiltins "min" = some (.builtin "min") := by decide +kernel
theorem b_max : bootBuiltins "max" = some (.builtin "max") := by decide +kernel
theorem b_repr : bootBuiltins "repr" = some (.builtin "repr") := by decide +kernel
theorem b_isinstance : bootBuiltins "isinstance" = some (.builtin "isinstance") := by decide +kernel
theorem b_int : bootBuiltins "int" = some (.type "int") := by decide +kernel
theorem b_str : bootBuiltins "str" = some (.type "str") := by decide +kernel
theorem b_bool : bootBuiltins "bool" = some (.type "bool") := by decide +kernel
theorem b_list : bootBuiltins "list" = some (.type "list") := by decide +kernel
theorem b_tuple : bootBuiltins "tuple" = some (.type "tuple") := by decide +kernel
/-- the built-ins' names are the module's own nowhere -/
structure Plain (mg : Str → Option Value) : Prop where
  n_len : mg "len" = none
  n_abs : mg "abs" = none
  n_sum : mg "sum" = none
  n_all : mg "all" = none
  n_min : mg "min" = none
  n_max : mg "max" = none
  n_repr : mg "repr" = none
  n_isinstance : mg "isinstance" = none
  n_int : mg "int" = none
  n_str : mg "str" = none
  n_bool : mg "bool" = none
  n_list : mg "list" = none
  n_tuple : mg "tuple" = none
  n_dict : mg "dict" = none
  n_range : mg "range" = none
  n_enumerate : mg "enumerate" = none
  gcd : mg "gcd" = some (.builtin "math.gcd")
  c_DIGITS : ∃ t, mg "DIGITS" = some (.str "0123456789" t)
  c_PIECE : ∃ t, mg "PIECE" = some (.int 18 t)
  c_SHIFT : ∃ t, mg "SHIFT" = some (.int 1000000000000000000 t)
  c_GROUND : ∃ t, mg "GROUND" = some (.str "gnd" t)
  c_LETTERS : ∃ t, mg "LETTERS" = some (.str "abcdefghijklmnopqrstuvwxyz" t)
  c_LONGEST_NAME : ∃ t, mg "LONGEST_NAME" = some (.int 6 t)
  c_MOST_SOURCES : ∃ t, mg "MOST_SOURCES" = some (.int 4 t)
  c_MOST_PARTS : ∃ t, mg "MOST_PARTS" = some (.int 8 t)
  c_MOST_JOININGS : ∃ t, mg "MOST_JOININGS" = some (.int 6 t)
end Ct

namespace Ct
open PySem PySem.Spec PyProof.Rows L2 TL
abbrev s_l_take : Stmt := top 46
abbrev N_l_take : List Str := ["pot", "upto", "digit", "prime", "blend"]
theorem sc_l_take : FnScope N_l_take ["pot", "upto"] (defScope s_l_take) := ⟨rfl, rfl, rfl, by decide +kernel, rfl, by decide +kernel, by decide +kernel⟩
/-- a draw: some number from 0 to below u -/
def spTake : Sp := fun vs H Q _ => ∃ (p : Addr) (G : Hp) (n : Nat) (u : Int), vs = [.ref p, .int u] ∧ Beside p G H ∧ PotAt p H n ∧ n + 1 ≤ 1000000 ∧ 0 < u ∧ u < 1073741824 ∧
  ∀ (d : Int) (G' H' : Hp), 0 ≤ d → d < u → Same G G' → Beside p G' H' → PotAt p H' (n + 1) → Q (.int d) H'
theorem prime_at (c : Int) : ∃ q : Int, (0 < q ∧ q < 2147483648) ∧ atI [V.int 2147483647, V.int 2147483629, V.int 2147483587, V.int 2147483579, V.int 2147483563] (c % 5) = some (.int q) := by
  have h : c % 5 = 0 ∨ c % 5 = 1 ∨ c % 5 = 2 ∨ c % 5 = 3 ∨ c % 5 = 4 := by omega
  rcases h with h | h | h | h | h <;> rw [h]
  · exact ⟨2147483647, by decide, rfl⟩
  · exact ⟨2147483629, by decide, rfl⟩
  · exact ⟨2147483587, by decide, rfl⟩
  · exact ⟨2147483579, by decide, rfl⟩
  · exact ⟨2147483563, by decide, rfl⟩
theorem sq_small {c : Int} (h0 : 0 ≤ c) (h1 : c ≤ 1000001) : 0 ≤ 97844 * c * c ∧ 97844 * c * c ≤ 97844 * 1000001 * 1000001 := by
  have a : 97844 * c ≤ 97844 * 1000001 := by omega
  exact ⟨Int.mul_nonneg (by omega) h0, Int.mul_le_mul a h1 h0 (by decide)⟩
section
variable {P : Program} {w : World} {K : PySem.W.Frag} {mg : Str → Option Value} {base : Heap}
theorem k_take (D : Lies K mg "_law_take" s_l_take) (T : Plain mg) : Keeps P w K mg base 1 "_law_take" ["pot", "upto"] spTake := by
  refine D.keeps sc_l_take (fun _ _ _ _ _ _ us hl => bindsL2 (fun _ _ => rfl) us hl) (fun vs H Q E h => ?_) (fun f cdv A outer s H vs Q E hr h => ?_)
  · obtain ⟨p, G, n, u, rfl, _⟩ := h
    rfl
  · obtain ⟨p, G, n, u, rfl, bs, ⟨a, b, c, hp, ha, hb, hb2, hc, hc2, hn⟩, hn1, hu0, hu30, k⟩ := h
    refine ⟨_, (pss_cons (ps_if (pt_cmpR op_gt (pe_ix ix_list (pv 0) pe_int (fun _ _ => rfl)) pe_int (nomark _))
        (pss_cons (ps_set (i := 2) sc_l_take.nd rfl (Or.inl rfl) (pe_op op_mod (pe_callTy call_int1 (by rfl) T.n_int b_int (pa_cons (pe_ix ix_list (pv 0) pe_int (fun _ _ => rfl)) pa_nil)) (pv 1)))
        (pss_cons (ps_asg (pe_op op_fdiv (pe_ix ix_list (pv 0) pe_int (fun _ _ => rfl)) (pv 1)) (pg_sub (pv 0) pe_int set_list))
        (pss_one (ps_ret (pv 2)))))
        pss_nil)
      (pss_cons (ps_asg (pe_op op_add (pe_ix ix_list (pv 0) pe_int (fun _ _ => rfl)) pe_int) (pg_sub (pv 0) pe_int set_list))
      (pss_cons (ps_set (i := 3) sc_l_take.nd rfl (Or.inl rfl) (pe_ix ix_list (pe_lst (pa_cons pe_int (pa_cons pe_int (pa_cons pe_int (pa_cons pe_int (pa_cons pe_int pa_nil)))))) (pe_op op_mod (pe_callTy call_int1 (by rfl) T.n_int b_int (pa_cons (pe_ix ix_list (pv 0) pe_int (fun _ _ => rfl)) pa_nil)) pe_int) (fun _ _ => rfl)))
      (pss_cons (ps_set (i := 4) sc_l_take.nd rfl (Or.inl rfl) (pe_op op_mod (pe_callTy call_int1 (by rfl) T.n_int b_int (pa_cons (pe_op op_pow (pe_callTy call_int1 (by rfl) T.n_int b_int (pa_cons (pe_op op_add (pe_op op_add (pe_ix ix_list (pv 0) pe_int (fun _ _ => rfl)) (pe_op op_mul (pe_op op_mul pe_int (pe_ix ix_list (pv 0) pe_int (fun _ _ => rfl))) (pe_ix ix_list (pv 0) pe_int (fun _ _ => rfl)))) pe_int) pa_nil)) pe_int) pa_nil)) (pv 3)))
      (pss_cons (ps_set (i := 4) sc_l_take.nd rfl (Or.inl rfl) (pe_op op_mod (pe_callTy call_int1 (by rfl) T.n_int b_int (pa_cons (pe_op op_mul (pv 4) (pe_op op_add (pe_op op_mod (pe_callTy call_int1 (by rfl) T.n_int b_int (pa_cons (pv 4) pa_nil)) pe_int) (pe_op op_mul pe_int (pe_ix ix_list (pv 0) pe_int (fun _ _ => rfl))))) pa_nil)) pe_int))
      (pss_one (ps_ret (pe_op op_mod (pe_callTy call_int1 (by rfl) T.n_int b_int (pa_cons (pe_op op_fdiv (pv 4) pe_int) pa_nil)) (pv 1))))))))), ?_⟩
    refine ⟨_, rfl, p, _, _, _, rfl, rfl, SqL.of hp, rfl, _, _, rfl, rfl, _, rfl, ?_⟩
    refine ite2 (fun h0 => ?_) (fun h0 => ?_)
    · have a0 : 0 < a := of_decide_eq_true h0
      refine ⟨_, rfl, p, _, _, _, rfl, rfl, SqL.of hp, rfl, .inl ⟨_, rfl, _, rfl, _, _, rfl, rfl, hu0, ?_⟩⟩
      refine ⟨_, rfl, p, _, _, _, rfl, rfl, SqL.of hp, rfl, _, rfl, _, _, rfl, rfl, ⟨hu0, hu30⟩, _, rfl, p, _, _, 0, rfl, rfl, hp, rfl, _, rfl, ?_⟩
      refine k _ G _ (Int.emod_nonneg _ (by omega)) (Int.emod_lt_of_pos _ hu0) (Same.refl G) bs.pot ⟨a / u, b, c, upd_same, Int.ediv_nonneg ha (by omega), hb, hb2, hc, by omega, hn1⟩
    · refine ⟨_, rfl, p, _, _, _, rfl, rfl, SqL.of hp, rfl, _, _, rfl, rfl, _, rfl, p, _, _, 2, rfl, rfl, hp, rfl, ?_⟩
      have hp1 : (upd H p (.lst [.int a, .int b, .int (c + 1)])) p = some (.lst [.int a, .int b, .int (c + 1)]) := upd_same
      refine ⟨by decide, fun l hl => ?_⟩
      have nlp : p ≠ l := ne_of_none hp1 hl
      have hp2 : (upd (upd H p (.lst [.int a, .int b, .int (c + 1)])) l (.lst [V.int 2147483647, V.int 2147483629, V.int 2147483587, V.int 2147483579, V.int 2147483563])) p = some (.lst [.int a, .int b, .int (c + 1)]) := (upd_ne nlp).trans hp1
      obtain ⟨q, q0, hq⟩ := prime_at (c + 1)
      refine ⟨_, rfl, p, _, _, _, rfl, rfl, SqL.of hp2, rfl, .inl ⟨_, rfl, _, _, rfl, rfl, (show (0 : Int) < 5 by decide), l, _, _, .int q, rfl, rfl, SqL.of upd_same, hq, ?_⟩⟩
      have c1 : 0 ≤ c + 1 ∧ c + 1 ≤ 1000001 := by omega
      obtain ⟨m0, m1⟩ := sq_small c1.1 c1.2
      refine ⟨_, rfl, p, _, _, _, rfl, rfl, SqL.of hp2, rfl, _, rfl, p, _, _, _, rfl, rfl, SqL.of hp2, rfl, _, _, rfl, rfl, .inl (by omega), _, rfl, p, _, _, _, rfl, rfl, SqL.of hp2, rfl, _, _, rfl, rfl, .inl (by omega), _, _, rfl, rfl, _, _, rfl, rfl, .inl ⟨_, rfl, ?_⟩⟩
      refine ⟨_, _, rfl, rfl, ⟨by decide, by decide, by omega⟩, .inl ⟨_, rfl, _, rfl, _, _, rfl, rfl, q0.1, ?_⟩⟩
      generalize hz : (b + 97844 * (c + 1) * (c + 1) + 636) ^ (3 : Int).toNat % q = z
      have z0 : 0 ≤ z ∧ z < q := hz ▸ ⟨Int.emod_nonneg _ (by omega), Int.emod_lt_of_pos _ q0.1⟩
      refine ⟨_, rfl, _, rfl, .inl ⟨_, rfl, _, _, rfl, rfl, (show (0 : Int) < 10238 by decide), ?_⟩⟩
      refine ⟨_, rfl, p, _, _, _, rfl, rfl, SqL.of hp2, rfl, _, _, rfl, rfl, .inl (by omega), _, _, rfl, rfl, _, _, rfl, rfl, .inl (by omega), .inl ⟨_, rfl, _, _, rfl, rfl, (show (0 : Int) < 2305843009213693907 by decide), ?_⟩⟩
      generalize (z * (z % 10238 + 162 * (c + 1))) % 2305843009213693907 = y
      refine ⟨_, rfl, _, _, rfl, rfl, ⟨by decide, by decide⟩, .inl ⟨_, rfl, _, rfl, _, _, rfl, rfl, hu0, ?_⟩⟩
      have ba := (bs.pot (o := .lst [.int a, .int b, .int (c + 1)])).new (a := l) (o := .lst [V.int 2147483647, V.int 2147483629, V.int 2147483587, V.int 2147483579, V.int 2147483563]) (fun z => by rw [hp1] at z; cases z) hl
      exact k _ _ _ (Int.emod_nonneg _ (by omega)) (Int.emod_lt_of_pos _ hu0) ba.2.1 ba.1 ⟨a, b, c + 1, hp2, ha, hb, hb2, by omega, by omega, hn1⟩
end
end Ct

namespace Ct
open PySem PySem.Spec PyProof.Rows L2 TL
abbrev s_l_of : Stmt := top 47
abbrev N_l_of : List Str := ["pot", "some"]
theorem sc_l_of : FnScope N_l_of ["pot", "some"] (defScope s_l_of) := ⟨rfl, rfl, rfl, by decide +kernel, rfl, by decide +kernel, by decide +kernel⟩
abbrev s_l_some : Stmt := top 48
abbrev N_l_some : List Str := ["pot", "pool", "many", "rests", "found", "lap"]
theorem sc_l_some : FnScope N_l_some ["pot", "pool", "many"] (defScope s_l_some) := ⟨rfl, rfl, rfl, by decide +kernel, rfl, by decide +kernel, by decide +kernel⟩
/-- an object that H tracks, told beside the fixed ones -/
theorem Beside.add {p a : Addr} {G H : Hp} {o : HO} (b : Beside p G H) (ga : G a = none) (ap : p ≠ a) (ha : H a = some o) : Beside p (upd G a o) H := ⟨by rw [upd_ne ap]; exact b.out, fun c z e => by
  by_cases q : c = a
  · subst q
    rw [upd_same] at e
    exact e ▸ ha
  · rw [upd_ne q] at e
    exact b.sub _ _ e⟩
theorem Beside.back {p : Addr} {G G' H : Hp} (b : Beside p G' H) (s : Same G G') : Beside p G H := ⟨s.free b.out, fun c z e => b.sub _ _ (s _ _ e)⟩
theorem perm_take {α : Type} : ∀ (k : Nat) (l : List α) (y : α), l[k]? = some y → (y :: l.eraseIdx k).Perm l
  | 0, [], _, h => by simp at h
  | 0, z :: l, y, h => by
    simp at h
    subst h
    exact .refl _
  | k + 1, [], _, h => by simp at h
  | k + 1, z :: l, y, h => by
    have r := perm_take k l y (by simpa using h)
    show (y :: z :: l.eraseIdx k).Perm (z :: l)
    exact (List.Perm.swap z y _).trans (r.cons z)
theorem perm_move {α : Type} {k : Nat} {ys rs xs : List α} {y : α} (h : rs[k]? = some y) (q : (ys ++ rs).Perm xs) : ((ys ++ [y]) ++ rs.eraseIdx k).Perm xs := by
  rw [List.append_assoc]
  exact ((perm_take k rs y h).append_left ys).trans q
/-- a change of what is not fixed -/
theorem Beside.drop {p a : Addr} {G H : Hp} {o : HO} (b : Beside p G H) (ga : G a = none) : Beside p G (upd H a o) := ⟨b.out, fun c z e => by
  rw [upd_ne (ne_of_none e ga)]
  exact b.sub _ _ e⟩
theorem PotAt.past {p a : Addr} {H : Hp} {n : Nat} {o : HO} (h : PotAt p H n) (ha : p ≠ a) : PotAt p (upd H a o) n := by
  obtain ⟨x, y, z, e, r⟩ := h
  exact ⟨x, y, z, by rw [upd_ne ha]; exact e, r⟩
theorem seqIndex_nat {j n : Nat} (h : j < n) : seqIndex? (j : Int) n = some j := by
  have e : ¬ ((j : Int) < 0) := by omega
  unfold seqIndex?
  simp only [if_neg e]
  rw [if_pos (by simp; omega)]
  simp
/-- some[take]: one of the items -/
def spOf (K : PySem.W.Frag) : Sp := fun vs H Q _ => ∃ (p a : Addr) (G : Hp) (n : Nat) (xs : List V), vs = [.ref p, .ref a] ∧ Beside p G H ∧ PotAt p H n ∧ n + 1 ≤ 1000000 ∧ SqL K G a xs ∧ 0 < xs.length ∧ xs.length < 1000000 ∧
  ∀ (i : Nat) (v : V) (G' H' : Hp), xs[i]? = some v → Same G G' → Beside p G' H' → PotAt p H' (n + 1) → Q v H'
/-- many of the pool's items, each place once at most -/
def spSome (K : PySem.W.Frag) : Sp := fun vs H Q _ => ∃ (p a : Addr) (G : Hp) (n m : Nat) (xs : List V), vs = [.ref p, .ref a, .int m] ∧ Beside p G H ∧ PotAt p H n ∧ n + m ≤ 1000000 ∧ SqL K G a xs ∧ m ≤ xs.length ∧ xs.length < 1000000 ∧
  ∀ (ys rs : List V) (l : Addr) (G' H' : Hp), (ys ++ rs).Perm xs → ys.length = m → Same G G' → Beside p G' H' → PotAt p H' (n + m) → G' l = some (.lst ys) → G l = none → Q (.ref l) H'
section
variable {P : Program} {w : World} {K : PySem.W.Frag} {mg : Str → Option Value} {base : Heap}
theorem k_of (D : Lies K mg "_law_of" s_l_of) (T : Plain mg) (G_l_take : Keeps P w K mg base 1 "_law_take" ["pot", "upto"] spTake) : Keeps P w K mg base 2 "_law_of" ["pot", "some"] (spOf K) := by
  refine D.keeps sc_l_of (fun _ _ _ _ _ _ us hl => bindsL2 (fun _ _ => rfl) us hl) (fun vs H Q E h => ?_) (fun f cdv A outer s H vs Q E hr h => ?_)
  · obtain ⟨p, a, G, n, xs, rfl, _⟩ := h
    rfl
  · obtain ⟨p, a, G, n, xs, rfl, bs, ht, hn, hS, h0, h1, k⟩ := h
    refine ⟨_, (pss_one (ps_ret (pe_ix ix_list (pv 1) (pe_go G_l_take (hr.mono (by decide)) rfl (pa_cons (pv 0) (pa_cons (pe_callB call_len_seq (by rfl) T.n_len b_len (pa_cons (pv 1) pa_nil)) pa_nil))) (fun _ _ => rfl)))), ?_⟩
    refine ⟨_, rfl, _, rfl, _, rfl, a, _, rfl, .inl (bs.sub.seq hS), p, G, n, _, rfl, bs, ht, hn, by omega, by omega, fun d G' H' d0 d1 s' b' t' => ?_⟩
    obtain ⟨j, rfl⟩ := Int.eq_ofNat_of_zero_le d0
    have hj : j < xs.length := by omega
    exact ⟨a, _, _, xs[j], rfl, rfl, b'.sub.seq (s'.seq hS), atI_nat (by simp [hj]), k j _ G' H' (by simp [hj]) s' b' t'⟩
theorem k_some (D : Lies K mg "_law_some" s_l_some) (T : Plain mg) (G_l_take : Keeps P w K mg base 1 "_law_take" ["pot", "upto"] spTake) : Keeps P w K mg base 2 "_law_some" ["pot", "pool", "many"] (spSome K) := by
  refine D.keeps sc_l_some (fun _ _ _ _ _ _ us hl => bindsL3 (fun _ _ _ => rfl) us hl) (fun vs H Q E h => ?_) (fun f cdv A outer s H vs Q E hr h => ?_)
  · obtain ⟨p, a, G, n, m, xs, rfl, _⟩ := h
    rfl
  · obtain ⟨p, a, G, n, m, xs, rfl, bs, ht, hn, hS, h0, h1, k⟩ := h
    refine ⟨_, (pss_cons (ps_par (i := 3) (j := 4) (by rfl) sc_l_some.nd rfl rfl (by decide) rfl rfl (pa_cons (pe_callTy call_list_of (by rfl) T.n_list b_list (pa_cons (pv 1) pa_nil)) (pa_cons (pe_lst pa_nil) pa_nil)) (by rfl))
      (pss_cons (ps_for PassesOwn.never rfl (pi_range1 rfl T.n_range (pa_cons (pv 2) pa_nil)) (pg_name (i := 5) sc_l_some.nd rfl (Or.inl rfl))
        (pss_one (ps_expr (pe_bm PySem.F.plainAttrs_list PySem.F.slot_list_append PySem.F.type_list_append mt_append (pv 4) (pa_cons (pe_bm PySem.F.plainAttrs_list PySem.F.slot_list_pop PySem.F.type_list_pop mt_popAt (pv 3) (pa_cons (pe_go G_l_take (hr.mono (by decide)) rfl (pa_cons (pv 0) (pa_cons (pe_callB call_len_seq (by rfl) T.n_len b_len (pa_cons (pv 3) pa_nil)) pa_nil))) pa_nil)) pa_nil)))))
      (pss_one (ps_ret (pv 4))))), ?_⟩
    refine ⟨_, rfl, a, _, rfl, .inl (bs.sub.seq hS), fun r hr0 => ?_⟩
    refine ⟨Nat.zero_le _, fun g hg0 => ⟨_, _, rfl, ?_⟩⟩
    have hpp := ht.some
    have gr : G r = none := bs.sub.free hr0
    have npr : p ≠ r := fun z => hpp (z ▸ hr0)
    have nrg : r ≠ g := ne_of_none upd_same hg0
    have hg1 : H g = none := by rw [upd_ne nrg.symm] at hg0; exact hg0
    have gg : G g = none := bs.sub.free hg1
    have npg : p ≠ g := fun z => hpp (z ▸ hg1)
    have b1 := (bs.new (o := .lst xs) hpp hr0)
    have b2 := (b1.1.new (o := .lst []) (by rw [upd_ne npr]; exact hpp) hg0)
    refine ⟨_, rfl, _, rfl, by omega, by omega, for_range (lo := 0) (n := m) (fun i σ H' => ∃ (rs ys : List V) (v : Option V), σ = [some (.ref p), some (.ref a), some (.int m), some (.ref r), some (.ref g), v] ∧ (ys ++ rs).Perm xs ∧ ys.length = i ∧
      Beside p G H' ∧ PotAt p H' (n + i) ∧ H' r = some (.lst rs) ∧ H' g = some (.lst ys)) ⟨xs, [], none, rfl, .refl _, rfl, b2.1.back (b1.2.1.trans b2.2.1), (ht.new hr0).new hg0, by rw [upd_ne nrg]; exact upd_same, upd_same⟩ ?_ ?_⟩
    · rintro i σ H1 hi ⟨rs, ys, v, rfl, q, ei, bs1, ht1, h1r, h1g⟩
      have hlen : ys.length + rs.length = xs.length := by rw [← List.length_append]; exact q.length_eq
      refine ⟨_, rfl, .inl ⟨rfl, _, SqL.of h1g⟩, _, rfl, .inl ⟨rfl, _, SqL.of h1r⟩, _, rfl, _, rfl, r, _, rfl, .inl (SqL.of h1r), ?_⟩
      have a1 := bs1.add gr npr h1r
      have a2 := a1.add (a := g) (by rw [upd_ne nrg.symm]; exact gg) npg h1g
      refine ⟨p, _, n + i, _, rfl, a2, ht1, by omega, by omega, by omega, fun d G' H' d0 d1 s' b' t' => ?_⟩
      obtain ⟨j, rfl⟩ := Int.eq_ofNat_of_zero_le d0
      have hj : j < rs.length := by omega
      have h2r : H' r = some (.lst rs) := b'.sub _ _ (s' _ _ (by rw [upd_ne nrg]; exact upd_same))
      have h2g : H' g = some (.lst ys) := b'.sub _ _ (s' _ _ upd_same)
      refine ⟨r, rs, _, j, rs[j], rfl, rfl, h2r, by omega, by omega, seqIndex_nat hj, by simp [hj], g, ys, _, rfl, rfl, ?_⟩
      refine ⟨by rw [upd_ne nrg.symm]; exact h2g, by show ys.length < 16777216; omega, ?_⟩
      have bs2 : Beside p G H' := b'.back (((same_upd gr).trans (same_upd (by rw [upd_ne nrg.symm]; exact gg))).trans s')
      refine ⟨rs.eraseIdx j, ys ++ [rs[j]], _, rfl, perm_move (by simp [hj]) q, by simp [ei], ?_, ?_, by rw [upd_ne nrg]; exact upd_same, upd_same⟩
      · exact (bs2.drop gr).drop gg
      · exact (t'.past npr).past npg
    · rintro σ H1 ⟨rs, ys, v, rfl, q, ei, bs1, ht1, h1r, h1g⟩
      exact ⟨_, rfl, k ys rs g _ H1 q ei (same_upd gg) (bs1.add gg npg h1g) ht1 upd_same gg⟩
end
end Ct

/-! The data: drawn circuits, how they lie in a heap, their text. -/
namespace Ct
open PySem PySem.Spec PyProof.Rows L2 TL
structure Own where
  sources : List (Str × Int × Int)
  parts : List (Str × Int × Int)
  joinings : List (Str × List (Str × Str × Str))
section
variable (K : PySem.W.Frag) (G : Hp)
def FrAt (v : V) (f : Int × Int) : Prop := ∃ t, v = .ref t ∧ SqT K G t [.int f.1, .int f.2]
def EntAt (v : V) (e : Str × Int × Int) : Prop := ∃ t u, v = .ref t ∧ SqT K G t [.str e.1, u] ∧ FrAt K G u e.2
def TieAt (v : V) (e : Str × Str × Str) : Prop := ∃ t, v = .ref t ∧ SqT K G t [.str e.1, .str e.2.1, .str e.2.2]
def LsAt {β : Type} (R : V → β → Prop) (v : V) (es : List β) : Prop := ∃ a vs, v = .ref a ∧ SqL K G a vs ∧ Paired R vs es
def TpAt {β : Type} (R : V → β → Prop) (v : V) (es : List β) : Prop := ∃ a vs, v = .ref a ∧ SqT K G a vs ∧ Paired R vs es
def JoiAt (v : V) (e : Str × List (Str × Str × Str)) : Prop := ∃ t l, v = .ref t ∧ SqT K G t [.str e.1, l] ∧ LsAt K G (TieAt K G) l e.2
def StrV (v : V) (x : Str) : Prop := v = .str x
def kvs3 (s p j : V) : List (Key × V) := [(.inr "sources", s), (.inr "parts", p), (.inr "joinings", j)]
def OwnAt (v : V) (o : Own) : Prop := ∃ d s p j, v = .ref d ∧ G d = some (.dK (kvs3 s p j)) ∧ LsAt K G (EntAt K G) s o.sources ∧ LsAt K G (EntAt K G) p o.parts ∧ LsAt K G (JoiAt K G) j o.joinings
end
section
variable {K : PySem.W.Frag} {G H : Hp}
theorem SqT.same {a : Addr} {xs : List V} (s : Same G H) (h : SqT K G a xs) : SqT K H a xs := by
  rcases h with (h | ⟨o, h⟩) | h
  · exact .inl (.inl (s _ _ h))
  · exact .inl (.inr ⟨o, s _ _ h⟩)
  · exact .inr h
theorem FrAt.same (s : Same G H) {v : V} {f : Int × Int} : FrAt K G v f → FrAt K H v f := fun ⟨t, e, h⟩ => ⟨t, e, SqT.same s h⟩
theorem EntAt.same (s : Same G H) {v : V} {e : Str × Int × Int} : EntAt K G v e → EntAt K H v e := fun ⟨t, u, e, h, f⟩ => ⟨t, u, e, SqT.same s h, f.same s⟩
theorem TieAt.same (s : Same G H) {v : V} {e : Str × Str × Str} : TieAt K G v e → TieAt K H v e := fun ⟨t, e, h⟩ => ⟨t, e, SqT.same s h⟩
theorem LsAt.same {β : Type} {R R' : V → β → Prop} (s : Same G H) (m : ∀ v b, R v b → R' v b) {v : V} {es : List β} : LsAt K G R v es → LsAt K H R' v es := fun ⟨a, vs, e, h, p⟩ => ⟨a, vs, e, Same.seq s h, p.mono m⟩
theorem JoiAt.same (s : Same G H) {v : V} {e : Str × List (Str × Str × Str)} : JoiAt K G v e → JoiAt K H v e := fun ⟨t, l, e, h, q⟩ => ⟨t, l, e, SqT.same s h, q.same s fun _ _ => TieAt.same s⟩
theorem OwnAt.same (s : Same G H) {v : V} {o : Own} : OwnAt K G v o → OwnAt K H v o := fun ⟨d, a, b, c, e, h, h1, h2, h3⟩ =>
  ⟨d, a, b, c, e, s _ _ h, h1.same s fun _ _ => EntAt.same s, h2.same s fun _ _ => EntAt.same s, h3.same s fun _ _ => JoiAt.same s⟩
theorem Paired.at {α β : Type} {F : α → β → Prop} : ∀ {xs : List α} {ys : List β}, Paired F xs ys → ∀ {i : Nat} {x : α}, xs[i]? = some x → ∃ y, ys[i]? = some y ∧ F x y
  | _, _, .nil, i, x, h => by simp at h
  | _, _, .cons (b := b) f r, 0, x, h => ⟨b, by simp, by simp at h; exact h ▸ f⟩
  | _, _, .cons f r, i + 1, x, h => by
    obtain ⟨y, h1, h2⟩ := Paired.at r (i := i) (x := x) (by simpa using h)
    exact ⟨y, by simpa using h1, h2⟩
/-- a list's own change is none of a tuple's -/
theorem SqT.list {D a : Addr} {xs acc acc' : List V} (hD : H D = some (.lst acc)) (h : SqT K H a xs) : SqT K (upd H D (.lst acc')) a xs := by
  rcases h with (h | ⟨o, h⟩) | h
  · refine .inl (.inl ?_)
    rw [upd_ne (ne_of h hD (by intro z; cases z))]
    exact h
  · refine .inl (.inr ⟨o, ?_⟩)
    rw [upd_ne (ne_of h hD (by intro z; cases z))]
    exact h
  · exact .inr h
/-- nor is a dict's -/
theorem SqT.dict {D a : Addr} {xs : List V} {k k' : List (Key × V)} (hD : H D = some (.dK k)) (h : SqT K H a xs) : SqT K (upd H D (.dK k')) a xs := by
  rcases h with (h | ⟨o, h⟩) | h
  · refine .inl (.inl ?_)
    rw [upd_ne (ne_of h hD (by intro z; cases z))]
    exact h
  · refine .inl (.inr ⟨o, ?_⟩)
    rw [upd_ne (ne_of h hD (by intro z; cases z))]
    exact h
  · exact .inr h
theorem FrAt.dict {D : Addr} {k k' : List (Key × V)} (hD : H D = some (.dK k)) {v : V} {f : Int × Int} : FrAt K H v f → FrAt K (upd H D (.dK k')) v f := fun ⟨t, e, h⟩ => ⟨t, e, SqT.dict hD h⟩
theorem EntAt.dict {D : Addr} {k k' : List (Key × V)} (hD : H D = some (.dK k)) {v : V} {f : Str × Int × Int} : EntAt K H v f → EntAt K (upd H D (.dK k')) v f := fun ⟨t, u, e, h, q⟩ => ⟨t, u, e, SqT.dict hD h, q.dict hD⟩
theorem FrAt.list {D : Addr} {acc acc' : List V} (hD : H D = some (.lst acc)) {v : V} {f : Int × Int} : FrAt K H v f → FrAt K (upd H D (.lst acc')) v f := fun ⟨t, e, h⟩ => ⟨t, e, SqT.list hD h⟩
theorem EntAt.list {D : Addr} {acc acc' : List V} (hD : H D = some (.lst acc)) {v : V} {f : Str × Int × Int} : EntAt K H v f → EntAt K (upd H D (.lst acc')) v f := fun ⟨t, u, e, h, q⟩ => ⟨t, u, e, SqT.list hD h, q.list hD⟩
theorem TieAt.list {D : Addr} {acc acc' : List V} (hD : H D = some (.lst acc)) {v : V} {f : Str × Str × Str} : TieAt K H v f → TieAt K (upd H D (.lst acc')) v f := fun ⟨t, e, h⟩ => ⟨t, e, SqT.list hD h⟩
end
/-! ### a comprehension whose element draws nothing -/
section
variable {K : PySem.W.Frag} {β γ : Type}
theorem take_snoc {es : List β} {i : Nat} {e : β} (h : es[i]? = some e) : es.take (i + 1) = es.take i ++ [e] := by
  rw [List.take_succ, h]
  rfl
theorem comp_pure {a : Addr} {xs : List V} {es : List β} {R : V → β → Prop} {R' : Hp → V → γ → Prop} {f : β → γ} {tl : TE} {g : TG} {te : TE} {vs : List Nat} {σ : L2.St} {H H1 : Hp} {Q : VK}
    (hl : ∀ R : VK, R (.ref a) H1 → tl σ H R) (hS : SqL K H1 a xs) (pr : Paired R xs es) (hz : xs.length < 1000000)
    (mono : ∀ {H H' : Hp}, Same H H' → ∀ v c, R' H v c → R' H' v c) (stab : ∀ {H : Hp} {D : Addr} {acc : List V} (acc' : List V), H D = some (.lst acc) → ∀ v c, R' H v c → R' (upd H D (.lst acc')) v c)
    (turn : ∀ x e H (Z : VK), R x e → e ∈ es → Same H1 H → (∀ y H4, Same H H4 → R' H4 y (f e) → Z y H4) → g x (wipe σ vs) H fun σ2 H2 => wipe σ2 vs = wipe σ vs ∧ te σ2 H2 Z)
    (hd : ∀ H' D acc, H1 D = none → Same H1 H' → H' D = some (.lst acc) → Paired (R' H') acc (es.map f) → Q (.ref D) H') : tLc (iList K tl) g tYes te vs σ H Q := by
  refine hl _ ⟨a, rfl, ⟨_, hS⟩, fun D hD => lc_list (xs := xs) (fun i H' => ∃ acc, H' D = some (.lst acc) ∧ Paired (R' H') acc ((es.take i).map f) ∧ Same H1 H') ⟨[], upd_same, .nil, same_upd hD⟩
    (fun i H' _ ⟨_, _, _, s⟩ => Same.seq s hS) (fun i x H' hx ⟨acc, h1, h2, s⟩ => ?_) fun H' ⟨acc, h1, h2, s⟩ => ?_⟩
  · obtain ⟨e, he, r⟩ := Paired.at pr hx
    simp only [tYes, if_true]
    refine turn x e H' _ r (List.mem_of_getElem? he) s (fun y H4 s4 r4 => ⟨acc, s4 _ _ h1, ?_, acc ++ [y], upd_same, ?_, ?_⟩)
    · have l1 := h2.length
      have l2 := pr.length
      have l3 := (List.getElem?_eq_some_iff.mp hx).1
      rw [List.length_map, List.length_take] at l1
      show acc.length < 16777216
      omega
    · rw [take_snoc he, List.map_append]
      exact (h2.mono fun v c q => stab _ (s4 _ _ h1) v c (mono s4 v c q)).snoc (stab _ (s4 _ _ h1) _ _ r4)
    · exact fun b o z => by
        have nb : b ≠ D := ne_of_none z hD
        rw [upd_ne nb]
        exact s4 _ _ (s _ _ z)
  · rw [show es.take xs.length = es by rw [pr.length, List.take_length]] at h2
    exact hd H' D acc hD s h1 h2
end
end Ct
namespace Ct
open PySem PySem.Spec PyProof.Rows L2 TL
/-! ### what is drawn, and its text -/
def Name (x : Str) : Prop := 1 ≤ x.length ∧ x.length ≤ 6 ∧ (∀ c ∈ tl x, 97 ≤ c ∧ c ≤ 122) ∧ x ≠ "gnd"
def Junc (x : Str) : Prop := x = "gnd" ∨ Name x
def FrOk (f : Int × Int) : Prop := 0 < f.2 ∧ Int.gcd f.1 f.2 = 1 ∧ f.1.natAbs < 2 ^ 1000 ∧ f.2.natAbs < 2 ^ 1000
structure JoiOk (ps : List Str) (j : Str × List (Str × Str × Str)) : Prop where
  name : Name j.1
  few : j.2.length ≤ 8
  once : (j.2.map (·.1)).Nodup
  tie : ∀ t ∈ j.2, t.1 ∈ ps ∧ Junc t.2.1 ∧ Junc t.2.2
structure OwnOk (o : Own) : Prop where
  s_few : o.sources.length ≤ 4
  p_some : 1 ≤ o.parts.length
  p_few : o.parts.length ≤ 8
  j_some : 1 ≤ o.joinings.length
  j_few : o.joinings.length ≤ 6
  src : ∀ e ∈ o.sources, Name e.1 ∧ FrOk e.2
  prt : ∀ e ∈ o.parts, Name e.1 ∧ FrOk e.2 ∧ 0 < e.2.1
  s_once : (o.sources.map (·.1)).Nodup
  p_once : (o.parts.map (·.1)).Nodup
  j_once : (o.joinings.map (·.1)).Nodup
  joi : ∀ j ∈ o.joinings, JoiOk (o.parts.map (·.1)) j
def numText (i : Int) : Str := Str.ofString (toString i)
def fracText (f : Int × Int) : Str := if f.2 = 1 then numText f.1 else numText f.1 ++ "/" ++ numText f.2
def entLine (w : Str) (e : Str × Int × Int) : Str := w ++ e.1 ++ " " ++ fracText e.2
def tieLine (t : Str × Str × Str) : Str := "tie " ++ Txt.join " " [t.1, t.2.1, t.2.2]
def joiLine (x : Str) : Str := "joining " ++ x
def joiRows (j : Str × List (Str × Str × Str)) : List Str := joiLine j.1 :: j.2.map tieLine
def rowsOf (o : Own) : List Str := "circuit" :: (o.sources.map (entLine "source ") ++ o.parts.map (entLine "part ") ++ o.joinings.flatMap joiRows)
def textOf (o : Own) : Str := Txt.join "\n" (rowsOf o)
theorem num_len {i : Int} (h : i.natAbs < 2 ^ 1000) : (numText i).length ≤ 1921 := int_text_len_1921 (log_of h)
theorem frac_len {f : Int × Int} (h1 : f.1.natAbs < 2 ^ 1000) (h2 : f.2.natAbs < 2 ^ 1000) : (fracText f).length ≤ 3850 := by
  have a := num_len h1
  have b := num_len h2
  have c : ("/" : Str).length = 1 := by decide +kernel
  unfold fracText
  split
  · omega
  · rw [len_app, len_app]
    omega
theorem ent_len {w : Str} {e : Str × Int × Int} (hw : w.length ≤ 8) (h : Name e.1 ∧ FrOk e.2) : (w ++ e.1 ++ " ").length ≤ 15 ∧ (entLine w e).length ≤ 3900 := by
  have a := frac_len h.2.2.2.1 h.2.2.2.2
  have b := h.1.2.1
  have c : (" " : Str).length = 1 := by decide +kernel
  unfold entLine
  simp only [len_app]
  omega
theorem sum_le {B : Nat} : ∀ {ys : List Str}, (∀ y ∈ ys, y.length ≤ B) → (ys.map (·.length)).sum ≤ ys.length * B
  | [], _ => by simp
  | y :: ys, h => by
    have a := h y (by simp)
    have b := sum_le (B := B) (ys := ys) fun z hz => h z (by simp [hz])
    rw [List.map_cons, List.sum_cons, List.length_cons, Nat.add_mul]
    omega
theorem flat_len {β : Type} {B : Nat} {f : β → List Str} : ∀ {l : List β}, (∀ x ∈ l, (f x).length ≤ B) → (l.flatMap f).length ≤ l.length * B
  | [], _ => by simp
  | x :: l, h => by
    have a := h x (by simp)
    have b := flat_len (B := B) (f := f) (l := l) fun y hy => h y (by simp [hy])
    rw [List.flatMap_cons, List.length_append, List.length_cons, Nat.add_mul]
    omega
theorem strs_are : ∀ {vs : List V} {xs : List Str}, Paired StrV vs xs → vs = xs.map V.str
  | _, _, .nil => rfl
  | _, _, .cons e r => by
    rw [strs_are r, List.map_cons]
    exact congrArg (· :: _) e
theorem strs_pair : ∀ (xs : List Str), Paired StrV (xs.map V.str) xs
  | [] => .nil
  | x :: xs => .cons rfl (strs_pair xs)
theorem n_sp : ¬ ("parts" : Str) = "sources" := by decide +kernel
theorem n_js : ¬ ("joinings" : Str) = "sources" := by decide +kernel
theorem n_jp : ¬ ("joinings" : Str) = "parts" := by decide +kernel
theorem n_ps : ¬ ("sources" : Str) = "parts" := by decide +kernel
theorem n_sj : ¬ ("sources" : Str) = "joinings" := by decide +kernel
theorem n_pj : ¬ ("parts" : Str) = "joinings" := by decide +kernel
theorem val_s (s p j : V) : valV (kvs3 s p j) (.inr "sources") = some s := by
  unfold valV kvs3
  simp
theorem val_p (s p j : V) : valV (kvs3 s p j) (.inr "parts") = some p := by
  unfold valV kvs3
  simp [n_ps, n_sp]
theorem val_j (s p j : V) : valV (kvs3 s p j) (.inr "joinings") = some j := by
  unfold valV kvs3
  simp [n_sj, n_pj]
theorem get_s {H : Hp} {d : Addr} {s p j : V} (h : H d = some (.dK (kvs3 s p j))) : DGet H d (.str "sources") (some s) := .inl ⟨_, .inr "sources", .inl h, rfl, (val_s s p j).symm⟩
theorem get_p {H : Hp} {d : Addr} {s p j : V} (h : H d = some (.dK (kvs3 s p j))) : DGet H d (.str "parts") (some p) := .inl ⟨_, .inr "parts", .inl h, rfl, (val_p s p j).symm⟩
theorem get_j {H : Hp} {d : Addr} {s p j : V} (h : H d = some (.dK (kvs3 s p j))) : DGet H d (.str "joinings") (some j) := .inl ⟨_, .inr "joinings", .inl h, rfl, (val_j s p j).symm⟩
end Ct
namespace Ct
open PySem PySem.Spec PyProof.Rows L2 TL
/-! ### comprehensions that draw -/
/-- what is told of all but one object -/
def hide (F : Addr) (G : Hp) : Hp := fun b => if b = F then none else G b
theorem hide_ne {F b : Addr} {G : Hp} (h : b ≠ F) : hide F G b = G b := if_neg h
theorem hide_at {F : Addr} {G : Hp} : hide F G F = none := if_pos rfl
theorem same_hide {F : Addr} {G H : Hp} (s : Same G H) (h : G F = none) : Same G (hide F H) := fun b z e => by
  rw [hide_ne (ne_of_none e h)]
  exact s _ _ e
theorem hide_same {F : Addr} {G : Hp} : Same (hide F G) G := fun b z e => by
  unfold hide at e
  split at e
  · cases e
  · exact e
theorem Beside.hide {p F : Addr} {G H : Hp} (b : Beside p G H) : Beside p (hide F G) H := ⟨by unfold Ct.hide; split; rfl; exact b.out, hide_same.trans b.sub⟩
theorem Beside.both {p D : Addr} {G H : Hp} {o : HO} (b : Beside p G H) (h : p ≠ D) : Beside p (upd G D o) (upd H D o) := ⟨by rw [upd_ne h]; exact b.out, fun c z e => by
  by_cases q : c = D
  · subst q
    rw [upd_same] at e ⊢
    exact e
  · rw [upd_ne q] at e ⊢
    exact b.sub _ _ e⟩
theorem same_but {G G' : Hp} {D : Addr} {o : HO} (s : Same G G') (h : G D = none) : Same G (upd G' D o) := fun b z e => by
  rw [upd_ne (ne_of_none e h)]
  exact s _ _ e
theorem SqT.hide {K : PySem.W.Frag} {G : Hp} {D a : Addr} {xs acc : List V} (hD : G D = some (.lst acc)) (h : SqT K G a xs) : SqT K (hide D G) a xs := by
  rcases h with (h | ⟨o, h⟩) | h
  · refine .inl (.inl ?_)
    rw [hide_ne (ne_of h hD (by intro z; cases z))]
    exact h
  · refine .inl (.inr ⟨o, ?_⟩)
    rw [hide_ne (ne_of h hD (by intro z; cases z))]
    exact h
  · exact .inr h
section
variable {K : PySem.W.Frag} {β γ : Type}
theorem comp_pot {p a : Addr} {n c : Nat} {xs : List V} {es : List β} {R : V → β → Prop} {R' : Hp → V → γ → Prop} {P : β → γ → Prop} {tl : TE} {g : TG} {te : TE} {vs : List Nat} {σ : L2.St} {G H : Hp} {Q : VK}
    (bs : Beside p G H) (ht : PotAt p H n) (hn : n + c * es.length ≤ 1000000)
    (hl : ∀ R : VK, R (.ref a) H → tl σ H R) (hS : SqL K G a xs) (pr : Paired R xs es) (hz : xs.length < 1000000)
    (mono : ∀ {H H' : Hp}, Same H H' → ∀ v c, R' H v c → R' H' v c) (stab : ∀ {H : Hp} {D : Addr} {acc : List V} (acc' : List V), H D = some (.lst acc) → ∀ v c, R' H v c → R' (upd H D (.lst acc')) v c)
    (turn : ∀ x e Gi Hi m (Z : VK), R x e → e ∈ es → Same G Gi → Beside p Gi Hi → PotAt p Hi m → m + c ≤ 1000000 →
      (∀ y e' G4 H4, Same Gi G4 → Beside p G4 H4 → PotAt p H4 (m + c) → R' G4 y e' → P e e' → Z y H4) → g x (wipe σ vs) Hi fun σ2 H2 => wipe σ2 vs = wipe σ vs ∧ te σ2 H2 Z)
    (hd : ∀ G' H' D acc fs, G D = none → Same G G' → Beside p G' H' → PotAt p H' (n + c * es.length) → G' D = some (.lst acc) → Paired (R' G') acc fs → Paired P es fs → Q (.ref D) H') : tLc (iList K tl) g tYes te vs σ H Q := by
  refine hl _ ⟨a, rfl, ⟨_, bs.sub.seq hS⟩, fun D hD => lc_list (xs := xs) (fun i H' => ∃ Gi acc fs, Same G Gi ∧ Beside p Gi H' ∧ PotAt p H' (n + c * i) ∧ Gi D = some (.lst acc) ∧ Paired (R' Gi) acc fs ∧ Paired P (es.take i) fs)
    ⟨_, [], [], (bs.new ht.some hD).2.1, (bs.new ht.some hD).1, ht.new hD, upd_same, .nil, .nil⟩
    (fun i H' _ ⟨_, _, _, s, b, _⟩ => b.sub.seq (s.seq hS)) (fun i x H' hx ⟨Gi, acc, fs, s, b, t, gD, h2, h3⟩ => ?_) fun H' ⟨Gi, acc, fs, s, b, t, gD, h2, h3⟩ => ?_⟩
  · obtain ⟨e, he, r⟩ := Paired.at pr hx
    have hi : i + 1 ≤ es.length := (List.getElem?_eq_some_iff.mp he).1
    have hm : c * (i + 1) ≤ c * es.length := Nat.mul_le_mul_left c hi
    rw [Nat.mul_add, Nat.mul_one] at hm
    have npD : p ≠ D := fun z => by
      have := b.out
      rw [z, gD] at this
      cases this
    have g0 : G D = none := bs.sub.free hD
    simp only [tYes, if_true]
    refine turn x e Gi H' (n + c * i) _ r (List.mem_of_getElem? he) s b t (by omega) (fun y e' G4 H4 s4 b4 t4 r4 p4 => ⟨acc, b4.sub _ _ (s4 _ _ gD), ?_, upd G4 D (.lst (acc ++ [y])), acc ++ [y], fs ++ [e'], same_but (s.trans s4) g0, b4.both npD, ?_, upd_same, ?_, ?_⟩)
    · have l1 := h2.length
      have l2 := pr.length
      have l3 := h3.length
      rw [List.length_take] at l3
      show acc.length < 16777216
      omega
    · have := t4.past (o := .lst (acc ++ [y])) npD
      rw [Nat.mul_add, Nat.mul_one, ← Nat.add_assoc]
      exact this
    · exact (h2.mono fun v c q => stab _ (s4 _ _ gD) v c (mono s4 v c q)).snoc (stab _ (s4 _ _ gD) _ _ r4)
    · rw [take_snoc he]
      exact h3.snoc p4
  · rw [pr.length] at t
    rw [show es.take xs.length = es by rw [pr.length, List.take_length]] at h3
    exact hd Gi H' D acc fs (bs.sub.free hD) s b t gD h2 h3
end
end Ct
namespace Ct
open PySem PySem.Spec PyProof.Rows L2 TL
/-! ### written lists of fractions -/
def tFr (f : Int × Int) : TE := tTup (tCons (tC (.int f.1)) (tCons (tC (.int f.2)) tNil))
def tFrs : List (Int × Int) → TA
  | [] => tNil
  | f :: r => tCons (tFr f) (tFrs r)
section
variable {K : PySem.W.Frag}
theorem frs_read {p : Addr} {n : Nat} {σ : L2.St} : ∀ (fs : List (Int × Int)) {G H : Hp} {Q : List V → Hp → Prop}, Beside p G H → PotAt p H n →
    (∀ vs G' H', Same G G' → Beside p G' H' → PotAt p H' n → Paired (FrAt K G') vs fs → Q vs H') → tFrs fs σ H Q
  | [], G, H, Q, b, t, h => h [] G H (Same.refl G) b t .nil
  | f :: r, G, H, Q, b, t, h => by
    refine ⟨by show 2 ≤ sizeLine; decide, fun a na => ?_⟩
    obtain ⟨b1, s1, g1⟩ := b.new (o := .tup [.int f.1, .int f.2]) t.some na
    exact frs_read r b1 (t.new na) fun vs G' H' s' b' t' pr => h _ G' H' (s1.trans s') b' t' (.cons ⟨a, rfl, SqT.of (s' _ _ upd_same)⟩ pr)
theorem lst_frs {p : Addr} {n : Nat} {σ : L2.St} (fs : List (Int × Int)) {G H : Hp} {Q : VK} (b : Beside p G H) (t : PotAt p H n) (hz : fs.length ≤ 1000)
    (h : ∀ l vs G' H', Same G G' → Beside p G' H' → PotAt p H' n → G' l = some (.lst vs) → Paired (FrAt K G') vs fs → Q (.ref l) H') : tLst (tFrs fs) σ H Q := by
  refine frs_read (K := K) fs b t fun vs G' H' s' b' t' pr => ⟨?_, fun l nl => ?_⟩
  · rw [pr.length]
    exact Nat.le_trans hz (by decide)
  · obtain ⟨b1, s1, g1⟩ := b'.new (o := .lst vs) t'.some nl
    exact h l vs _ _ (s'.trans s1) b1 (t'.new nl) upd_same (pr.mono fun v c q => q.same s1)
theorem TieAt.hide {G : Hp} {F : Addr} {acc : List V} (h : G F = some (.lst acc)) {v : V} {e : Str × Str × Str} : TieAt K G v e → TieAt K (hide F G) v e := fun ⟨t, e, q⟩ => ⟨t, e, SqT.hide h q⟩
end
end Ct
namespace Ct
open PySem PySem.Spec PyProof.Rows L2 TL
/-! ### more comprehensions: over a text, over a tuple -/
section
variable {K : PySem.W.Frag} {β γ : Type}
theorem comp_str {z : Str} {g : Nat → V} {tl : TE} {te : TE} {vs : List Nat} {i : Nat} {σ : L2.St} {H : Hp} {Q : VK} (hl : ∀ R : VK, R (.str z) H → tl σ H R) (hz : z.length < 1000000)
    (hw : ∀ c : Nat, wipe ((wipe σ vs).set i (some (.str ⟨#[c]⟩))) vs = wipe σ vs)
    (turn : ∀ c ∈ TL.tl z, ∀ (H : Hp) (Z : VK), Z (g c) H → te ((wipe σ vs).set i (some (.str ⟨#[c]⟩))) H Z)
    (hd : ∀ D, H D = none → Q (.ref D) (upd H D (.lst ((TL.tl z).map g)))) : tLc (iStr tl) (gName i) tYes te vs σ H Q := by
  refine hl _ ⟨z, rfl, fun D hD => lc_it walk_str (fun j H' => H' = upd H D (.lst (((TL.tl z).take j).map g))) rfl (fun _ _ _ _ => trivial) ?_ ?_⟩
  · rintro j H1 x H2 hj rfl ⟨rfl, c, hc, rfl⟩
    have hc2 : (TL.tl z)[j]? = some c := by simpa using hc
    simp only [tYes, if_true]
    refine ⟨hw c, turn c (List.mem_of_getElem? hc2) _ _ ⟨_, upd_same, ?_, ?_⟩⟩
    · rw [List.length_map, List.length_take]
      have := len_tl z
      show _ < 16777216
      omega
    · rw [upd_upd, take_snoc hc2, List.map_append]
      rfl
  · rintro H1 rfl
    have e : (TL.tl z).take z.cps.size = TL.tl z := List.take_of_length_le (by simp [TL.tl])
    rw [e]
    exact hd D hD
theorem comp_pureT {a : Addr} {xs : List V} {es : List β} {R : V → β → Prop} {R' : Hp → V → γ → Prop} {f : β → γ} {tl : TE} {g : TG} {te : TE} {vs : List Nat} {σ : L2.St} {H H1 : Hp} {Q : VK}
    (hl : ∀ R : VK, R (.ref a) H1 → tl σ H R) (hS : SqT K H1 a xs) (pr : Paired R xs es) (hz : xs.length < 1000000)
    (mono : ∀ {H H' : Hp}, Same H H' → ∀ v c, R' H v c → R' H' v c) (stab : ∀ {H : Hp} {D : Addr} {acc : List V} (acc' : List V), H D = some (.lst acc) → ∀ v c, R' H v c → R' (upd H D (.lst acc')) v c)
    (turn : ∀ x e H (Z : VK), R x e → e ∈ es → Same H1 H → (∀ y H4, Same H H4 → R' H4 y (f e) → Z y H4) → g x (wipe σ vs) H fun σ2 H2 => wipe σ2 vs = wipe σ vs ∧ te σ2 H2 Z)
    (hd : ∀ H' D acc, H1 D = none → Same H1 H' → H' D = some (.lst acc) → Paired (R' H') acc (es.map f) → Q (.ref D) H') : tLc (iTup K tl) g tYes te vs σ H Q := by
  refine hl _ ⟨a, rfl, ⟨_, hS⟩, fun D hD => lc_tup (xs := xs) (fun i H' => ∃ acc, H' D = some (.lst acc) ∧ Paired (R' H') acc ((es.take i).map f) ∧ Same H1 H') ⟨[], upd_same, .nil, same_upd hD⟩
    (fun i H' _ ⟨_, _, _, s⟩ => SqT.same s hS) (fun i x H' hx ⟨acc, h1, h2, s⟩ => ?_) fun H' ⟨acc, h1, h2, s⟩ => ?_⟩
  · obtain ⟨e, he, r⟩ := Paired.at pr hx
    simp only [tYes, if_true]
    refine turn x e H' _ r (List.mem_of_getElem? he) s (fun y H4 s4 r4 => ⟨acc, s4 _ _ h1, ?_, acc ++ [y], upd_same, ?_, ?_⟩)
    · have l1 := h2.length
      have l2 := pr.length
      have l3 := (List.getElem?_eq_some_iff.mp hx).1
      rw [List.length_map, List.length_take] at l1
      show acc.length < 16777216
      omega
    · rw [take_snoc he, List.map_append]
      exact (h2.mono fun v c q => stab _ (s4 _ _ h1) v c (mono s4 v c q)).snoc (stab _ (s4 _ _ h1) _ _ r4)
    · exact fun b o z => by
        have nb : b ≠ D := ne_of_none z hD
        rw [upd_ne nb]
        exact s4 _ _ (s _ _ z)
  · rw [show es.take xs.length = es by rw [pr.length, List.take_length]] at h2
    exact hd H' D acc hD s h1 h2
/-- a tuple that begins with this text -/
def HeadAt (K : PySem.W.Frag) (H : Hp) (v : V) (x : Str) : Prop := ∃ t r, v = .ref t ∧ SqT K H t (.str x :: r)
theorem HeadAt.ent {H : Hp} {v : V} {e : Str × Int × Int} : EntAt K H v e → HeadAt K H v e.1 := fun ⟨t, u, h1, h2, _⟩ => ⟨t, _, h1, h2⟩
theorem HeadAt.joi {H : Hp} {v : V} {e : Str × List (Str × Str × Str)} : JoiAt K H v e → HeadAt K H v e.1 := fun ⟨t, u, h1, h2, _⟩ => ⟨t, _, h1, h2⟩
theorem HeadAt.tie {H : Hp} {v : V} {e : Str × Str × Str} : TieAt K H v e → HeadAt K H v e.1 := fun ⟨t, h1, h2⟩ => ⟨t, _, h1, h2⟩
theorem heads {F : V → β → Prop} {H : Hp} {p : β → Str} : ∀ {vs : List V} {es : List β}, Paired F vs es → (∀ v e, F v e → HeadAt K H v (p e)) → Paired (HeadAt K H) vs (es.map p)
  | _, _, .nil, _ => .nil
  | _, _, .cons h r, k => .cons (k _ _ h) (heads r k)
theorem in_strs {x : Str} {xs : List Str} : inV (.str x) (xs.map V.str) = decide (x ∈ xs) := by
  unfold inV
  induction xs with
  | nil => rfl
  | cons y ys ih =>
    rw [List.map_cons, List.any_cons, ih]
    show (decide _ || _) = _
    by_cases h : y = x
    · subst h
      simp [eqV]
    · have h2 : ¬ x = y := fun z => h z.symm
      simp [eqV, h, h2]
theorem strs_flat (xs : List Str) : (xs.map V.str).all flatV = true := by
  rw [List.all_map]
  exact List.all_eq_true.mpr fun _ _ => rfl
end
end Ct
namespace Ct
open PySem PySem.Spec PyProof.Rows L2 TL
end Ct

/-! Numbers as texts: what the reader of fractions asks of them. -/
namespace Ct
open PySem PySem.Spec PyProof.Rows L2 TL
theorem numL_head {n : Nat} : n ≠ 0 → ∃ c r, numL n = c :: r ∧ c ≠ 48 := by
  induction n using Nat.strongRecOn with
  | _ n ih =>
    intro h
    by_cases h10 : n < 10
    · exact ⟨48 + n, [], numL_lt h10, by omega⟩
    · obtain ⟨c, r, e, hc⟩ := ih (n / 10) (by omega) (by omega)
      exact ⟨c, r ++ [48 + n % 10], by rw [numL_step (by omega), e]; rfl, hc⟩
theorem tl_numText (i : Int) : tl (numText i) = if i < 0 then 45 :: numL i.natAbs else numL i.natAbs := by
  unfold numText
  split
  · rename_i h
    obtain ⟨n, rfl⟩ : ∃ n : Nat, i = Int.negSucc n := ⟨i.natAbs - 1, by omega⟩
    have e : toString (Int.negSucc n) = "-" ++ toString (n + 1) := rfl
    rw [e, tl_ofString, String.toList_append, List.map_append, ← tl_ofString (toString (n + 1))]
    have q := tl_num (n + 1)
    have z : toString (((n + 1 : Nat)) : Int) = toString (n + 1) := rfl
    rw [z] at q
    rw [q]
    rfl
  · rename_i h
    obtain ⟨n, rfl⟩ := Int.eq_ofNat_of_zero_le (show 0 ≤ i by omega)
    exact tl_num n
/-- the digits alone -/
def dig (i : Int) : Str := ⟨(numL i.natAbs).toArray⟩
theorem tl_dig (i : Int) : tl (dig i) = numL i.natAbs := rfl
theorem tl_cut1 (z : Str) : tl (cutS z none (some 1)) = (tl z).take 1 := by
  unfold cutS
  rw [tl_mk]
  show ((tl z).drop 0).take (min 1 z.length - 0) = _
  rw [List.drop_zero, len_tl]
  cases tl z with
  | nil => rfl
  | cons c r =>
    have e : min 1 (c :: r).length - 0 = 1 := by simp
    rw [e]
theorem tl_cutR (z : Str) : tl (cutS z (some 1) none) = (tl z).drop 1 := by
  unfold cutS
  rw [tl_mk]
  show ((tl z).drop (min 1 z.length)).take (z.length - min 1 z.length) = _
  rw [len_tl]
  cases tl z with
  | nil => rfl
  | cons c r =>
    have e : min 1 (c :: r).length = 1 := by simp
    rw [e]
    simp
theorem minus_tl : tl ("-" : Str) = [45] := by decide +kernel
theorem zero_tl : tl ("0" : Str) = [48] := by decide +kernel
theorem digits_tl : tl ("0123456789" : Str) = [48, 49, 50, 51, 52, 53, 54, 55, 56, 57] := by decide +kernel
theorem letters_tl : tl ("abcdefghijklmnopqrstuvwxyz" : Str) = [97, 98, 99, 100, 101, 102, 103, 104, 105, 106, 107, 108, 109, 110, 111, 112, 113, 114, 115, 116, 117, 118, 119, 120, 121, 122] := by decide +kernel
theorem in_digits {c : Nat} (h : 48 ≤ c ∧ c ≤ 57) : decide (c ∈ tl ("0123456789" : Str)) = true := by
  rw [digits_tl]
  refine decide_eq_true ?_
  simp
  omega
theorem in_letters {c : Nat} (h : 97 ≤ c ∧ c ≤ 122) : decide (c ∈ tl ("abcdefghijklmnopqrstuvwxyz" : Str)) = true := by
  have k : ∀ d, d < 123 → 97 ≤ d → decide (d ∈ tl ("abcdefghijklmnopqrstuvwxyz" : Str)) = true := by
    rw [letters_tl]
    decide +kernel
  exact k c (by omega) h.1
theorem num_digit {n c : Nat} (h : c ∈ numL n) : 48 ≤ c ∧ c ≤ 57 := numL_digits n c h
theorem num_neg {i : Int} (h : i < 0) : cutS (numText i) none (some 1) = "-" ∧ cutS (numText i) (some 1) none = dig i := by
  refine ⟨ext_tl ?_, ext_tl ?_⟩
  · rw [tl_cut1, tl_numText, if_pos h, minus_tl]
    rfl
  · rw [tl_cutR, tl_numText, if_pos h]
    rfl
theorem num_pos {i : Int} (h : ¬ i < 0) : cutS (numText i) none (some 1) ≠ "-" ∧ numText i = dig i := by
  refine ⟨fun z => ?_, ext_tl ?_⟩
  · have e := congrArg tl z
    rw [tl_cut1, tl_numText, if_neg h, minus_tl] at e
    cases q : numL i.natAbs with
    | nil => exact numL_ne _ q
    | cons c r =>
      rw [q] at e
      have hc : c = 45 := by simpa using e
      have := num_digit (n := i.natAbs) (c := c) (by rw [q]; exact List.mem_cons_self)
      omega
  · rw [tl_numText, if_neg h]
    rfl
/-- the first digit is no nought, but in 0 itself -/
theorem num_first (i : Int) : ∃ c r, numL i.natAbs = c :: r ∧ (c ≠ 48 ∨ i = 0) := by
  by_cases h : i = 0
  · subst h
    exact ⟨48, [], numL_lt (by decide), .inr rfl⟩
  · obtain ⟨c, r, e, hc⟩ := numL_head (n := i.natAbs) (by omega)
    exact ⟨c, r, e, .inl hc⟩
theorem big_pow {n : Nat} (h : n < 2 ^ 1000) : n < 10 ^ 302 := Nat.lt_trans h (by decide +kernel)
theorem numText_len {i : Int} (h : i.natAbs < 2 ^ 1000) : (numText i).length ≤ 303 := by
  have := numL_len (k := 302) (by decide) (big_pow h)
  rw [len_tl, tl_numText]
  split
  · rw [List.length_cons]; omega
  · omega
theorem num_free {i : Int} {s : Nat} (h : s < 45 ∨ 57 < s ∨ s = 47) : s ∉ tl (numText i) := by
  rw [tl_numText]
  intro hm
  split at hm
  · rcases List.mem_cons.mp hm with q | q
    · omega
    · have := num_digit q
      omega
  · have := num_digit hm
    omega
end Ct

/-! enumerate(xs, start=k) over a list; a call by keywords alone. -/
namespace Ct
open PySem PySem.Spec PyProof.Rows L2 TL
def ItFrom (K : PySem.W.Frag) (k : Int) (a : Addr) : It where
  go := fun i H => ∃ xs x, SqL K H a xs ∧ xs[i]? = some x
  yld := fun i H v H' => ∃ T x, v = .ref T ∧ H T = none ∧ H' = upd H T (.tup [.int (k + (i : Nat)), x]) ∧
    ∀ xs, SqL K H a xs → xs[i]? = some x
  stop := fun i H => ∃ xs, SqL K H a xs ∧ xs.length ≤ i
theorem turn_from {P : Program} {w : World} {K : PySem.W.Frag} {elts : List Expr} {kk : Nat} {tpos : Pos} (k : Int) (a e it : Addr) :
    Turn P w K (.Tuple elts kk tpos) (ItFrom K k a) [e, it] e fun i h => (∃ o, IsEnum h e it (k + ((i : Nat) : Int)) o) ∧ h.IsListIter it a i ∧ e ≠ it ∧ e ≠ a ∧ a ≠ it where
  mem := List.mem_cons_self
  obj := by
    rintro i h ⟨⟨w0, hE⟩, ⟨w1, hI, _, hF⟩, _⟩ b hb
    rcases List.mem_cons.mp hb with rfl | hb
    · exact ⟨_, hE, fun v z => nomatch z⟩
    · obtain rfl := List.mem_singleton.mp hb
      exact ⟨w1, hI, fun v z => by rw [hF] at z; cases z⟩
  keep := by
    rintro i h h' ⟨⟨w0, hE⟩, hI, n1, n2, n3⟩ kp
    exact ⟨⟨w0, kp e List.mem_cons_self _ hE⟩, hI.at fun o z => kp it (List.mem_cons_of_mem _ List.mem_cons_self) o z, n1, n2, n3⟩
  item := by
    rintro X rfl rfl rfl hc i pins s σ H E I hf ⟨⟨w0, hE⟩, hI, n1, n2, n3⟩ ⟨xs, x, hxs, hxi⟩
    obtain ⟨zs, rz, pz, lz⟩ := I.list hxs
    obtain ⟨y, hy, ry⟩ := rz.get hxi
    have lt1 := Heap.lt_size hE
    have lt2 : it < s.heap.objs.size := by
      obtain ⟨_, z, _⟩ := hI
      exact Heap.lt_size z
    have Dl := Draws.list (prog := X.prog) (w := X.w) (A := X.A.in1) (I.ok.hd hc) it a n3 zs.toArray
    have hyi : i < zs.toArray.size := by
      have := (List.getElem?_eq_some_iff.mp hy).1
      simpa using this
    refine wpAny_pyNext_enum_itemC (i := i) Dl hE ⟨hI, pz.isList⟩ hyi n1 (by simp [n1, n2]) fun x2 h1 tk hx2 hO st1 hT hsz hk => ?_
    obtain rfl : y = x2 := by
      have e2 : zs[i]? = some x2 := by simpa using hx2
      rw [hy] at e2
      exact Option.some.inj e2
    refine ⟨_, rfl, wpAny_letOwnedTupleGo_enum (s := { s with heap := h1, toks := tk + 1 }) hO fun h2 hE2 sb => ?_⟩
    have hT2 := (sb.2 _ (Nat.ne_of_gt lt1)).trans hT
    have ob : ObjOk X.prog X.w (upd H s.heap.objs.size (.tup [.int (k + (i : Nat)), x])) h2 s.heap.objs.size (.tup [.int (k + (i : Nat)), x]) :=
      ⟨by show 2 ≤ sizeLine; decide, [.int (k + (i : Nat)) tk, y], .cons ⟨_, rfl⟩ (.cons ry .nil), ⟨_, hT2, rfl, _, rfl⟩⟩
    have J := I.turnedNew (t' := tk + 1) (ch := [e, it]) (fun b o hb q => (sb.2 b (fun z => hb (z ▸ List.mem_cons_self))).trans (hk b o (fun z => hb (z ▸ List.mem_cons_self)) (fun z => hb (by simp [z])) q)) hf (Nat.le_refl _) ob
    refine ⟨.ref s.heap.objs.size, _, J, rfl, ⟨_, x, rfl, I.hok.fresh (Nat.le_refl _), rfl, fun ys hys => by rw [I.list_inj hys hxs]; exact hxi⟩, ⟨⟨y, ?_⟩, st1.1.at fun o q => (sb.2 it (Ne.symm n1)).trans q, n1, n2, n3⟩, fun b hb => ?_⟩
    · rw [show (k + ((i + 1 : Nat) : Int)) = k + (i : Int) + 1 by omega]
      exact hE2
    · have hlt : b < s.heap.objs.size := by
        rcases List.mem_cons.mp hb with rfl | hb
        · exact lt1
        · obtain rfl := List.mem_singleton.mp hb
          exact lt2
      rw [upd_ne (Nat.ne_of_lt hlt)]
      exact (hf b hb).1
  done := by
    rintro X rfl rfl rfl hc i pins s σ H E I hf ⟨⟨w0, hE⟩, hI, n1, n2, n3⟩ ⟨xs, hxs, hle⟩
    obtain ⟨zs, rz, pz, lz⟩ := I.list hxs
    have hx : zs.toArray[i]? = none := by
      have := rz.length
      simp
      omega
    have De : Draws X.prog X.w X.A.in1 it [it, a] i (fun _ _ => False) (fun j h => j = i ∧ h.IsListIter it a i ∧ h.IsList a zs.toArray) :=
      { live := fun _ _ st => let ⟨o, ho, _⟩ := st.2.1; ⟨o, ho⟩
        frame := fun _ _ _ st kp => ⟨st.1, st.2.1.at fun o q => kp it (by simp) o q, st.2.2.at fun o q => kp a (by simp) o q⟩
        item := fun j _ _ _ hj st _ => absurd (st.1 ▸ hj) (Nat.lt_irrefl _)
        done := fun s2 Q2 E2 st hE2 => wpAny_nextOf_list_end (I.ok.hd hc) st.2.1 st.2.2 hx fun h2 y q1 q2 => hE2 h2 y q1 q2 }
    obtain ⟨f0, f1, f2, f3, f4, f5⟩ := hf it (by simp)
    exact wpAny_pyNext_enum_endD De hE ⟨rfl, hI, pz.isList⟩ fun h2 eb => ⟨rfl, I.turned (t' := s.toks) (fun b o hb q => eb b o hb q) f0 f1 f3 f4 f5⟩
  self := fun A i s Q E st h => let ⟨⟨_, z⟩, _⟩ := st; wpAny_pyIter_enum z h
/-- how a for over enumerate(e, start=k) is read -/
def iFrom (K : PySem.W.Frag) (k : Int) (ta : TA) : TI := fun σ H R => ta σ H fun vs H1 => ∃ a xs, vs = [.ref a] ∧ SqL K H1 a xs ∧ R (ItFrom K k a) H1
theorem pi_from {X : Cx} {e : Expr} {ta : TA} {p pos kp cp tpos : Pos} {elts : List Expr} {kk j : Nat} {k : Int} (hg : Gl X "enumerate") (hm : X.mg "enumerate" = none) (hk0 : -(2 ^ 63) ≤ k) (hk1 : k < 2 ^ 63) (ha : PA X [e] ta)
    (hs : starEach (e :: []) X.env = (false, eval e X.env) :: starEach [] X.env := by rfl)
    (hpl : ((backTo pos (starEach (e :: []) X.env)).any (·.1) || (backToKw pos (keywordEach [⟨some "start", .Constant (.int k) j cp, kp⟩] X.env)).any (·.1.isNone)) = false := by rfl) : PI X (.Tuple elts kk tpos) (.Call (.Name "enumerate" p) [e] [⟨some "start", .Constant (.int k) j cp, kp⟩] pos) (iFrom X.K k ta) := by
  refine ⟨fun pins s σ H R I h => ?_⟩
  refine wpAny_Call_Name_kw (ld_blt I hg hm boot_enumerate ?_)
  refine PySem.W.callWith_of (P := fun _ => True) hpl (fun _ _ => ⟨.machine, .inr (.inl rfl), fun _ _ _ _ _ z => wpAny_pure z⟩) (PyProof.Rows.evalArgs_kw2 rfl (thn (ha.run pos pins s σ H _ I h) fun us s1 ⟨vs, H1, I1, r1, q1⟩ => ?_) hs)
  obtain ⟨a, xs, rfl, hxs, q⟩ := q1
  refine thn ((pk_cons (nm := some "start") (kpos := kp) (pe_int (X := X) (i := k) (j := j) (pos := cp)) pk_nil).run pos pins s1 σ H1 (fun vs H2 => vs = [.int k] ∧ H2 = H1) I1 ⟨rfl, rfl⟩) fun ws s2 ⟨zs, H2, I2, rz, ez, eH⟩ => ⟨trivial, ?_⟩
  subst ez eH
  cases r1 with
  | cons ra rn =>
    cases rn
    cases ra
    cases rz with
    | cons rk rn2 =>
      cases rn2
      obtain ⟨t, rfl⟩ := rk
      obtain ⟨items, rv, pl, hz⟩ := I2.list hxs
      refine enum_begins_start (begins_list a items.toArray) pl.isList hk0 hk1 fun h1 hE hI hsz kp => wpAny_pyIter_enum hE ?_
      have I3 : Inv X pins σ H2 { s2 with heap := h1 } := I2.kept (t' := s2.toks) kp
      have lt : a < s2.heap.objs.size := by
        obtain ⟨_, z, _⟩ := pl.isList
        exact Heap.lt_size z
      refine ⟨s2.heap.objs.size + 1, [s2.heap.objs.size + 1, s2.heap.objs.size], _, _, H2, rfl, I3, turn_from k a (s2.heap.objs.size + 1) s2.heap.objs.size, ⟨⟨.none, ?_⟩, ⟨_, hI, rfl, rfl⟩, Nat.succ_ne_self _, Nat.ne_of_gt (Nat.lt_succ_of_lt lt), Nat.ne_of_lt lt⟩, fun b hb => ?_, q⟩
      · rw [show k + ((0 : Nat) : Int) = k by omega]
        exact hE
      have ge : s2.heap.objs.size ≤ b := by
        rcases List.mem_cons.mp hb with rfl | hb
        · exact Nat.le_add_right _ _
        · obtain rfl := List.mem_singleton.mp hb
          exact Nat.le_refl _
      exact I2.fpOk ge (I2.hok.fresh ge)
end Ct

/-! A text times an int; noughts ahead of digits. -/
namespace Ct
open PySem PySem.Spec PyProof.Rows L2 TL
theorem foldl_app {α : Type} : ∀ (ls : List (Array α)) (a : Array α), (ls.foldl (· ++ ·) a).toList = a.toList ++ (ls.map Array.toList).flatten
  | [], a => by simp
  | x :: ls, a => by
    rw [List.foldl_cons, foldl_app ls]
    simp
/-- the text's signs so many times -/
def repS (x : Str) (n : Int) : Str := ⟨(List.replicate n.toNat x.cps.toList).flatten.toArray⟩
def rRepS : R2 := fun x y H Q => ∃ (z : Str) (n : Int), x = .str z ∧ y = .int n ∧ -1000000 ≤ n ∧ n ≤ 1000 ∧ z.length ≤ 1000 ∧ Q (.str (repS z n)) H
theorem str_exL {x y : Str} (h : x.cps.toList = y.cps.toList) : x = y := by
  cases x
  cases y
  congr
  exact Array.toList_inj.mp h
theorem len_flat_rep {α : Type} (l : List α) : ∀ n : Nat, (List.replicate n l).flatten.length = n * l.length
  | 0 => by simp
  | n + 1 => by rw [List.replicate_succ, List.flatten_cons, List.length_append, len_flat_rep l n, Nat.succ_mul]; omega
variable {X : Cx}
theorem op_repS : OpR X (binaryOp .Mult) rRepS := by
  intro pins s σ H x y v u Q I rx ry h
  obtain ⟨z, n, rfl, rfl, h1, h2, h3, q⟩ := h
  obtain ⟨t, rfl⟩ := rx
  obtain ⟨t', rfl⟩ := ry
  have hm : z.length * n.toNat ≤ 1000 * 1000 := Nat.mul_le_mul h3 (by omega)
  have zl : z.length = z.cps.toList.length := by
    show z.cps.size = _
    rw [Array.length_toList]
  refine PySem.P.mul_str ?_ (fun g1 g2 => ?_) (fun g1 g2 => ?_) ?_
  · rw [decide_eq_false (by omega), decide_eq_false (by omega)]
    rfl
  · have : n ≤ 1000 := h2
    have p : 1000 ≤ (2 ^ 63 - 1) / n := by
      refine (Int.le_ediv_iff_mul_le (by omega)).mpr ?_
      omega
    omega
  · show decide (z.length * n.toNat > sizeLine) = false
    refine decide_eq_false ?_
    have : sizeLine = 16777216 := by decide
    omega
  · by_cases c1 : n < 1
    · rw [if_pos c1]
      have e : repS z n = Str.empty := str_exL (by
        show (List.replicate n.toNat z.cps.toList).flatten.toArray.toList = _
        rw [show n.toNat = 0 by omega]
        rfl)
      exact ⟨by decide, .str Str.empty, H, I.tok _, ⟨_, rfl⟩, e ▸ q⟩
    · rw [if_neg c1]
      cases c2 : (n == 1 || z.length == 0) with
      | true =>
        rw [if_pos rfl]
        have e : repS z n = z := str_exL (by
          show (List.replicate n.toNat z.cps.toList).flatten.toArray.toList = _
          rcases Bool.or_eq_true _ _ ▸ c2 with c | c
          · rw [show n.toNat = 1 by have := beq_iff_eq.mp c; omega]
            simp
          · have c := beq_iff_eq.mp c
            have e0 : z.cps.toList = [] := List.eq_nil_of_length_eq_zero (by omega)
            rw [e0]
            simp)
        exact ⟨.str z, H, I, ⟨_, rfl⟩, e ▸ q⟩
      | false =>
        rw [if_neg (by decide)]
        have e : (⟨(List.replicate n.toNat z.cps).foldl (· ++ ·) #[]⟩ : Str) = repS z n := str_exL (by
          show ((List.replicate n.toNat z.cps).foldl (· ++ ·) #[]).toList = (List.replicate n.toNat z.cps.toList).flatten.toArray.toList
          rw [foldl_app]
          simp)
        rw [e]
        refine ⟨?_, .str (repS z n), H, I.tok _, ⟨_, rfl⟩, q⟩
        show (List.replicate n.toNat z.cps.toList).flatten.toArray.size ≤ _
        rw [List.size_toArray, len_flat_rep, ← zl, Nat.mul_comm]
        exact Nat.le_trans hm (by decide)
/-! ### noughts ahead of digits -/
open PySem.NumText in
theorem val_acc : ∀ (b : List Nat) (n : Nat), b.foldl (fun acc c => acc * 10 + (c - 48)) n = n * 10 ^ b.length + digitsVal b
  | [], n => by simp [digitsVal]
  | c :: b, n => by
    unfold digitsVal
    rw [List.foldl_cons, List.foldl_cons, val_acc b, val_acc b (0 * 10 + (c - 48)), List.length_cons, Nat.pow_succ]
    generalize digitsVal b = y
    grind
open PySem.NumText in
theorem val_app (a b : List Nat) : digitsVal (a ++ b) = digitsVal a * 10 ^ b.length + digitsVal b := by
  unfold digitsVal
  rw [List.foldl_append, val_acc]
  rfl
open PySem.NumText in
theorem val_noughts : ∀ k : Nat, digitsVal (List.replicate k 48) = 0
  | 0 => rfl
  | k + 1 => by
    rw [show k + 1 = 1 + k by omega, ← List.replicate_append_replicate, val_app, val_noughts k, show digitsVal (List.replicate 1 48) = 0 from rfl, Nat.zero_mul]
theorem take_more {α : Type} (l : List α) (a b : Nat) : l.take (a + b) = l.take a ++ (l.drop a).take b := List.take_add
open PySem.NumText in
theorem val_take {l : List Nat} {a b : Nat} (h : a + b ≤ l.length) : digitsVal (l.take (a + b)) = digitsVal (l.take a) * 10 ^ b + digitsVal ((l.drop a).take b) := by
  rw [take_more, val_app]
  have : ((l.drop a).take b).length = b := by
    rw [List.length_take, List.length_drop]
    omega
  rw [this]
theorem cut_mid {z : Str} {a b : Nat} (h : a ≤ b) (hb : b ≤ z.length) : tl (cutS z (some (a : Int)) (some (b : Int))) = ((tl z).drop a).take (b - a) := by
  unfold cutS
  rw [tl_mk, HT.sIx_nat, HT.sIx_nat, Nat.min_eq_left (Nat.le_trans h hb), Nat.min_eq_left hb]
theorem rg18 : ∀ m : Nat, m < 20 → Builtin.Range.small 0 ((18 * m : Nat) : Int) 18 = true ∧ Builtin.Range.rangeSize 0 ((18 * m : Nat) : Int) 18 = m := by decide +kernel
end Ct

namespace Ct
open PySem PySem.Spec PyProof.Rows L2 TL
abbrev s_is_integer : Stmt := top 12
abbrev N_is_integer : List Str := ["value"]
theorem sc_is_integer : FnScope N_is_integer ["value"] (defScope s_is_integer) := ⟨rfl, rfl, rfl, by decide +kernel, rfl, by decide +kernel, by decide +kernel⟩
abbrev s_is_fraction : Stmt := top 13
abbrev N_is_fraction : List Str := ["value", "top", "bottom"]
theorem sc_is_fraction : FnScope N_is_fraction ["value"] (defScope s_is_fraction) := ⟨rfl, rfl, rfl, by decide +kernel, rfl, by decide +kernel, by decide +kernel⟩
abbrev s_is_above_nought : Stmt := top 14
abbrev N_is_above_nought : List Str := ["value"]
theorem sc_is_above_nought : FnScope N_is_above_nought ["value"] (defScope s_is_above_nought) := ⟨rfl, rfl, rfl, by decide +kernel, rfl, by decide +kernel, by decide +kernel⟩
abbrev s_read_fraction : Stmt := top 16
abbrev N_read_fraction : List Str := ["word", "top", "stroke", "bottom", "number"]
theorem sc_read_fraction : FnScope N_read_fraction ["word"] (defScope s_read_fraction) := ⟨rfl, rfl, rfl, by decide +kernel, rfl, by decide +kernel, by decide +kernel⟩
abbrev s_is_integer_text : Stmt := top 17
abbrev N_is_integer_text : List Str := ["word", "digits", "sign"]
theorem sc_is_integer_text : FnScope N_is_integer_text ["word"] (defScope s_is_integer_text) := ⟨rfl, rfl, rfl, by decide +kernel, rfl, by decide +kernel, by decide +kernel⟩
abbrev s_read_integer : Stmt := top 19
abbrev N_read_integer : List Str := ["word", "digits", "padded", "number", "start"]
theorem sc_read_integer : FnScope N_read_integer ["word"] (defScope s_read_integer) := ⟨rfl, rfl, rfl, by decide +kernel, rfl, by decide +kernel, by decide +kernel⟩
abbrev s_is_name : Stmt := top 24
abbrev N_is_name : List Str := ["value", "sign"]
theorem sc_is_name : FnScope N_is_name ["value"] (defScope s_is_name) := ⟨rfl, rfl, rfl, by decide +kernel, rfl, by decide +kernel, by decide +kernel⟩
abbrev s_names_of : Stmt := top 25
abbrev N_names_of : List Str := ["told", "entry"]
theorem sc_names_of : FnScope N_names_of ["told"] (defScope s_names_of) := ⟨rfl, rfl, rfl, by decide +kernel, rfl, by decide +kernel, by decide +kernel⟩
abbrev s_is_another : Stmt := top 42
abbrev N_is_another : List Str := ["name", "told", "most"]
theorem sc_is_another : FnScope N_is_another ["name", "told", "most"] (defScope s_is_another) := ⟨rfl, rfl, rfl, by decide +kernel, rfl, by decide +kernel, by decide +kernel⟩
abbrev s_is_junction : Stmt := top 43
abbrev N_is_junction : List Str := ["word"]
theorem sc_is_junction : FnScope N_is_junction ["word"] (defScope s_is_junction) := ⟨rfl, rfl, rfl, by decide +kernel, rfl, by decide +kernel, by decide +kernel⟩
def spIsInt : Sp := fun vs H Q _ => ∃ i : Int, vs = [.int i] ∧ Q (.bl true) H
def spIsFr (K : PySem.W.Frag) : Sp := fun vs H Q _ => ∃ (t : Addr) (f : Int × Int), vs = [.ref t] ∧ SqT K H t [.int f.1, .int f.2] ∧ 0 < f.2 ∧ Int.gcd f.1 f.2 = 1 ∧ Q (.bl true) H
def spIsSize (K : PySem.W.Frag) : Sp := fun vs H Q _ => ∃ (t : Addr) (f : Int × Int), vs = [.ref t] ∧ SqT K H t [.int f.1, .int f.2] ∧ 0 < f.2 ∧ Int.gcd f.1 f.2 = 1 ∧ 0 < f.1 ∧ Q (.bl true) H
def spIsNum : Sp := fun vs H Q _ => ∃ i : Int, vs = [.str (numText i)] ∧ i.natAbs < 2 ^ 1000 ∧ ∀ H', Same H H' → Q (.bl true) H'
def spReadI : Sp := fun vs H Q _ => ∃ i : Int, vs = [.str (numText i)] ∧ i.natAbs < 2 ^ 1000 ∧ Q (.int i) H
def spRead (K : PySem.W.Frag) : Sp := fun vs H Q _ => ∃ f : Int × Int, vs = [.str (fracText f)] ∧ FrOk f ∧ ∀ t H', Same H H' → H' t = some (.tup [.int f.1, .int f.2]) → Q (.ref t) H'
def spIsName : Sp := fun vs H Q _ => ∃ x : Str, vs = [.str x] ∧ Name x ∧ ∀ H', Same H H' → Q (.bl true) H'
def spNames (K : PySem.W.Frag) : Sp := fun vs H Q _ => ∃ (a : Addr) (us : List V) (xs : List Str), vs = [.ref a] ∧ SqL K H a us ∧ Paired (HeadAt K H) us xs ∧ xs.length < 1000000 ∧
  ∀ l H', Same H H' → H l = none → H' l = some (.lst (xs.map V.str)) → Q (.ref l) H'
def spNamesT (K : PySem.W.Frag) : Sp := fun vs H Q _ => ∃ (a : Addr) (us : List V) (xs : List Str), vs = [.ref a] ∧ SqT K H a us ∧ Paired (HeadAt K H) us xs ∧ xs.length < 1000000 ∧
  ∀ l H', Same H H' → H l = none → H' l = some (.lst (xs.map V.str)) → Q (.ref l) H'
def spAnother (K : PySem.W.Frag) : Sp := fun vs H Q _ => ∃ (x : Str) (a : Addr) (us : List V) (xs : List Str) (m : Int), vs = [.str x, .ref a, .int m] ∧ Name x ∧ SqL K H a us ∧ Paired (HeadAt K H) us xs ∧ (xs.length : Int) < m ∧ m ≤ 10 ∧ x ∉ xs ∧
  ∀ H', Same H H' → Q (.bl true) H'
def spJunc : Sp := fun vs H Q _ => ∃ x : Str, vs = [.str x] ∧ Junc x ∧ ∀ H', Same H H' → Q (.bl true) H'
theorem tyx_tup {K : PySem.W.Frag} {H : Hp} {t : Addr} {xs : List V} (h : SqT K H t xs) : TyX K H (.ref t) (.type "tuple") := by
  rcases h with (h | ⟨o, h⟩) | ⟨o, its, n, h, c, _⟩
  · exact .base (.tup h)
  · exact .fTuple h
  · exact .kTuple h c
theorem pull_false {c : Bool} {A B : Prop} (hc : c = false) (h : B) : if c = true then A else B := by
  subst hc
  exact iteF h
section
variable {P : Program} {w : World} {K : PySem.W.Frag} {mg : Str → Option Value} {base : Heap}
theorem k_is_integer (D : Lies K mg "is_integer" s_is_integer) (T : Plain mg) : Keeps P w K mg base 1 "is_integer" ["value"] spIsInt := by
  refine D.keeps sc_is_integer (fun _ _ _ _ _ _ us hl => bindsL1 (fun _ => rfl) us hl) (fun vs H Q E h => ?_) (fun f cdv A outer s H vs Q E hr h => ?_)
  · obtain ⟨i, rfl, _⟩ := h
    rfl
  · obtain ⟨i, rfl, k⟩ := h
    refine ⟨_, (pss_one (ps_ret (pe_and (pe_callB call_isi (by rfl) T.n_isinstance b_isinstance (pa_cons (pv 0) (pa_cons (pe_bltn (v := .ty "int") (by rfl) T.n_int b_int rfl) pa_nil))) (pe_one (pe_not (pe_callB call_isi (by rfl) T.n_isinstance b_isinstance (pa_cons (pv 0) (pa_cons (pe_bltn (v := .ty "bool") (by rfl) T.n_bool b_bool rfl) pa_nil)))))))), ?_⟩
    refine ⟨_, rfl, _, _, _, _, true, rfl, .ty _, .base (.int i), kit_ty (by decide +kernel), true, rfl, iteT ?_⟩
    exact ⟨_, rfl, _, _, _, _, false, rfl, .ty _, .base (.int i), kit_ty (by decide +kernel), false, rfl, k⟩
theorem k_is_fraction (D : Lies K mg "is_fraction" s_is_fraction) (T : Plain mg) (G_is_integer : Keeps P w K mg base 1 "is_integer" ["value"] spIsInt) : Keeps P w K mg base 2 "is_fraction" ["value"] (spIsFr K) := by
  refine D.keeps sc_is_fraction (fun _ _ _ _ _ _ us hl => bindsL1 (fun _ => rfl) us hl) (fun vs H Q E h => ?_) (fun f cdv A outer s H vs Q E hr h => ?_)
  · obtain ⟨t, f, rfl, _⟩ := h
    rfl
  · obtain ⟨t, ⟨a, b⟩, rfl, ht, h0, h1, k⟩ := h
    refine ⟨_, (pss_cons (ps_if (PW.pt (pw_or (pt_not (pt_val (pe_callB call_isi (by rfl) T.n_isinstance b_isinstance (pa_cons (pv 0) (pa_cons (pe_bltn (v := .ty "tuple") (by rfl) T.n_tuple b_tuple rfl) pa_nil))))) (pw_or1 (pt_cmpR op_ne (pe_callB call_len_seq (by rfl) T.n_len b_len (pa_cons (pv 0) pa_nil)) pe_int (nomark _)))))
        (pss_one (ps_ret pe_bl))
        pss_nil)
      (pss_cons (ps_asg (pv 0) (pg_tup rfl (pgs_cons (pg_name (i := 1) sc_is_fraction.nd rfl (Or.inl rfl)) (pgs_cons (pg_name (i := 2) sc_is_fraction.nd rfl (Or.inl rfl)) pgs_nil))))
      (pss_cons (ps_if (PW.pt (pw_or (pt_not (pt_val (pe_go G_is_integer (hr.mono (by decide)) rfl (pa_cons (pv 1) pa_nil)))) (pw_or1 (pt_not (pt_val (pe_go G_is_integer (hr.mono (by decide)) rfl (pa_cons (pv 2) pa_nil)))))))
        (pss_one (ps_ret pe_bl))
        pss_nil)
      (pss_one (ps_ret (pe_and (pe_cmpR op_gt (pv 2) pe_int (nomark _)) (pe_one (pe_cmpR op_eq (pe_callBfun cr_gcd rfl T.gcd (pa_cons (pv 1) (pa_cons (pv 2) pa_nil))) pe_int (nomark _))))))))), ?_⟩
    refine ⟨_, rfl, _, _, _, _, true, rfl, .ty _, tyx_tup ht, kit_ty (by decide +kernel), true, rfl, pull_false rfl ⟨_, rfl, t, _, rfl, .inr ht, rfl, false, by rw [show decide (V.int (([V.int a, V.int b].length : Nat) : Int) = V.int 2) = true from decide_eq_true rfl]; rfl, iteF ?_⟩⟩
    refine ⟨_, rfl, t, _, rfl, ht, rfl, _, _, rfl, _, _, rfl, ⟨rfl, ?_⟩⟩
    refine ⟨_, rfl, a, rfl, true, rfl, pull_false rfl ⟨_, rfl, b, rfl, true, rfl, iteF ?_⟩⟩
    refine ⟨_, rfl, _, _, rfl, rfl, _, rfl, if_true_of' (decide_eq_true h0) ?_⟩
    refine ⟨_, rfl, _, rfl, a, b, rfl, rfl, ?_⟩
    have e : (V.int ((Nat.gcd a.natAbs b.natAbs : Nat) : Int)) = V.int 1 := by
      have : Nat.gcd a.natAbs b.natAbs = 1 := h1
      rw [this]
      rfl
    show Q (.bl (decide (V.int ((Nat.gcd a.natAbs b.natAbs : Nat) : Int) = V.int 1))) H
    rw [decide_eq_true e]
    exact k
theorem k_is_above_nought (D : Lies K mg "is_above_nought" s_is_above_nought) (T : Plain mg) (G_is_fraction : Keeps P w K mg base 2 "is_fraction" ["value"] (spIsFr K)) : Keeps P w K mg base 3 "is_above_nought" ["value"] (spIsSize K) := by
  refine D.keeps sc_is_above_nought (fun _ _ _ _ _ _ us hl => bindsL1 (fun _ => rfl) us hl) (fun vs H Q E h => ?_) (fun f cdv A outer s H vs Q E hr h => ?_)
  · obtain ⟨t, f, rfl, _⟩ := h
    rfl
  · obtain ⟨t, f, rfl, ht, h0, h1, h2, k⟩ := h
    refine ⟨_, (pss_one (ps_ret (pe_and (pe_go G_is_fraction (hr.mono (by decide)) rfl (pa_cons (pv 0) pa_nil)) (pe_one (pe_cmpR op_gt (pe_ix ix_tup (pv 0) pe_int (fun _ _ => rfl)) pe_int (nomark _)))))), ?_⟩
    refine ⟨_, rfl, t, f, rfl, ht, h0, h1, true, rfl, iteT ⟨_, rfl, t, _, _, _, rfl, rfl, ht, rfl, _, _, rfl, rfl, ?_⟩⟩
    show Q (.bl (decide (0 < f.1))) H
    rw [decide_eq_true h2]
    exact k
theorem k_is_integer_text (D : Lies K mg "_is_integer_text" s_is_integer_text) (T : Plain mg) : Keeps P w K mg base 1 "_is_integer_text" ["word"] spIsNum := by
  refine D.keeps sc_is_integer_text (fun _ _ _ _ _ _ us hl => bindsL1 (fun _ => rfl) us hl) (fun vs H Q E h => ?_) (fun f cdv A outer s H vs Q E hr h => ?_)
  · obtain ⟨i, rfl, _⟩ := h
    rfl
  · obtain ⟨i, rfl, hi, k⟩ := h
    have l1 := numText_len hi
    have lz : (numText i).length ≤ sizeLine := Nat.le_trans l1 (by decide)
    obtain ⟨c, r, ec, hc⟩ := num_first i
    refine ⟨_, (Evl.pss_cut (ps_set (i := 1) sc_is_integer_text.nd rfl (Or.inl rfl) (pe_ifExp (pt_cmpR op_eq (pe_slice sl_str (pv 0) po_none (po_some pe_int)) pe_str (nomark _)) (pe_slice sl_str (pv 0) (po_some pe_int) po_none) (pv 0)))
      (pss_cons (ps_if (PW.pt (pw_or (pt_cmpR op_eq (pv 1) pe_str (nomark _)) (pw_or1 (pt_not (pt_val (pe_callB (cr_all rfl) (by rfl) T.n_all b_all (pa_cons (pe_lc (own := [("sign", 2)]) (g := gName 2) (tt := tYes) rfl sc_is_integer_text.nd (pi_str (pv 1)) (blkOk_by (N := N_is_integer_text) (sc := defScope s_is_integer_text) (by decide +kernel)) (fun _ _ _ _ _ => pg_name (i := 2) sc_is_integer_text.nd rfl (Or.inl rfl)) (fun _ _ _ _ _ => pts_nil) (fun _ _ _ _ _ => by exact (pe_cmpR op_in_sign (pv 2) (pe_cs T.c_DIGITS rfl) (by rfl)))) pa_nil)))))))
        (pss_one (ps_ret pe_bl))
        pss_nil)
      (pss_one (ps_ret (pe_or (pe_cmpR op_ne (pe_ix ix_str (pv 1) pe_int (fun _ _ => rfl)) pe_str (nomark _)) (pe_one (pe_cmpR op_eq (pv 0) pe_str (nomark _)))))))), ?_⟩
    have ld : (dig i).length ≤ 302 := by
      rw [len_tl, tl_dig]
      exact numL_len (by decide) (big_pow hi)
    have ne : dig i ≠ "" := fun z => by
      have := congrArg tl z
      rw [tl_dig, ec] at this
      cases this
    refine ⟨fun σ' H' => σ' = [some (.str (numText i)), some (.str (dig i)), none] ∧ H' = H, ?_, ?_⟩
    · refine ⟨_, rfl, (1 : Int), rfl, _, rfl, lz, rfl, _, rfl, ite2 (fun h0 => ?_) (fun h0 => ?_)⟩
      · have e0 := V.str.inj (of_decide_eq_true h0)
        by_cases hn : i < 0
        · refine ⟨_, rfl, (1 : Int), rfl, _, rfl, lz, ?_⟩
          refine ⟨?_, rfl⟩
          rw [(num_neg hn).2]
          rfl
        · exact absurd e0 (num_pos hn).1
      · have e0 : cutS (numText i) none (some 1) ≠ "-" := fun z => h0 (decide_eq_true (by rw [z]))
        by_cases hn : i < 0
        · exact absurd (num_neg hn).1 e0
        · refine ⟨_, rfl, ?_, rfl⟩
          have e3 := (num_pos hn).2
          show [some (V.str (numText i)), some (V.str (numText i)), none] = [some (V.str (numText i)), some (V.str (dig i)), none]
          rw [← e3]
    · rintro σ' H' ⟨rfl, rfl⟩
      refine ⟨_, rfl, rfl, _, rfl, pull_false (decide_eq_false fun z => ne (V.str.inj z)) ?_⟩
      refine into_not (into_b (into_cb (into_args1 (comp_str (g := fun c => .bl (decide (c ∈ tl ("0123456789" : Str)))) (fun R q => ⟨_, rfl, q⟩) (Nat.lt_of_le_of_lt ld (by decide)) (fun _ => rfl) (fun c hc H Z hz => ⟨_, rfl, c, _, rfl, rfl, hz⟩) fun D hD => ?_))))
      refine ⟨D, (tl (dig i)).map fun c => decide (c ∈ tl ("0123456789" : Str)), rfl, SqL.of (by rw [List.map_map]; exact upd_same), ?_⟩
      have all : ((tl (dig i)).map fun c => decide (c ∈ tl ("0123456789" : Str))).all id = true := by
        rw [List.all_map]
        exact List.all_eq_true.mpr fun x hx => in_digits (num_digit hx)
      rw [all]
      refine ⟨true, rfl, iteF ?_⟩
      refine ⟨_, rfl, _, (0 : Int), c, rfl, rfl, Nat.le_trans ld (by decide), ?_, ?_⟩
      · show atI (tl (dig i)) 0 = some c
        rw [tl_dig, ec]
        exact atI_nat (j := 0) rfl
      · refine ⟨rfl, ?_⟩
        rcases hc with hc | rfl
        · have e1 : (⟨#[c]⟩ : Str) ≠ "0" := fun z => hc (by
            have := congrArg tl z
            rw [zero_tl] at this
            simpa [tl] using this)
          have e2 : (!decide (V.str (⟨#[c]⟩ : Str) = V.str "0")) = true := by
            rw [decide_eq_false fun z => e1 (V.str.inj z)]
            rfl
          exact ⟨true, congrArg V.bl e2, iteT (k _ (same_upd hD))⟩
        · have e0 : c = 48 := by
            have z : numL (0 : Int).natAbs = [48] := numL_lt (by decide)
            rw [z] at ec
            exact (List.cons.inj ec).1.symm
          subst e0
          refine ⟨false, rfl, iteF ⟨_, rfl, rfl, ?_⟩⟩
          have e3 : numText 0 = "0" := ext_tl (by decide +kernel)
          show Q (.bl (decide (V.str (numText 0) = V.str "0"))) _
          rw [decide_eq_true (congrArg V.str e3)]
          exact k _ (same_upd hD)
theorem k_read_integer (D : Lies K mg "_read_integer" s_read_integer) (T : Plain mg) : Keeps P w K mg base 1 "_read_integer" ["word"] spReadI := by
  refine D.keeps sc_read_integer (fun _ _ _ _ _ _ us hl => bindsL1 (fun _ => rfl) us hl) (fun vs H Q E h => ?_) (fun f cdv A outer s H vs Q E hr h => ?_)
  · obtain ⟨i, rfl, _⟩ := h
    rfl
  · obtain ⟨i, rfl, hi, k⟩ := h
    have l1 := numText_len hi
    have lz : (numText i).length ≤ sizeLine := Nat.le_trans l1 (by decide)
    refine ⟨_, (Evl.pss_cut (ps_set (i := 1) sc_read_integer.nd rfl (Or.inl rfl) (pe_ifExp (pt_cmpR op_eq (pe_slice sl_str (pv 0) po_none (po_some pe_int)) pe_str (nomark _)) (pe_slice sl_str (pv 0) (po_some pe_int) po_none) (pv 0)))
      (pss_cons (ps_set (i := 2) sc_read_integer.nd rfl (Or.inl rfl) (pe_op op_add_str (pe_op op_repS pe_str (pe_op op_mod (pe_un un_neg (pe_callB call_len_str (by rfl) T.n_len b_len (pa_cons (pv 1) pa_nil))) (pe_ci T.c_PIECE rfl))) (pv 1)))
      (pss_cons (ps_set (i := 3) sc_read_integer.nd rfl (Or.inl rfl) pe_int)
      (pss_cons (ps_for PassesOwn.never rfl (pi_range3 rfl T.n_range (pa_cons pe_int (pa_cons (pe_callB call_len_str (by rfl) T.n_len b_len (pa_cons (pv 2) pa_nil)) (pa_cons (pe_ci T.c_PIECE rfl) pa_nil)))) (pg_name (i := 4) sc_read_integer.nd rfl (Or.inl rfl))
        (pss_one (ps_set (i := 3) sc_read_integer.nd rfl (Or.inl rfl) (pe_op op_add (pe_op op_mul (pv 3) (pe_ci T.c_SHIFT rfl)) (pe_callTy call_int_str (by rfl) T.n_int b_int (pa_cons (pe_slice sl_str (pv 2) (po_some (pv 4)) (po_some (pe_op op_add (pv 4) (pe_ci T.c_PIECE rfl)))) pa_nil))))))
      (pss_one (ps_ret (pe_ifExp (pt_cmpR op_eq (pe_slice sl_str (pv 0) po_none (po_some pe_int)) pe_str (nomark _)) (pe_un un_neg (pv 3)) (pv 3)))))))), ?_⟩
    have ld : (dig i).length ≤ 302 := by
      rw [len_tl, tl_dig]
      exact numL_len (by decide) (big_pow hi)
    refine ⟨fun σ' H' => σ' = [some (.str (numText i)), some (.str (dig i)), none, none, none] ∧ H' = H, ?_, ?_⟩
    · refine ⟨_, rfl, (1 : Int), rfl, _, rfl, lz, rfl, _, rfl, ite2 (fun h0 => ?_) (fun h0 => ?_)⟩
      · have e0 := V.str.inj (of_decide_eq_true h0)
        by_cases hn : i < 0
        · refine ⟨_, rfl, (1 : Int), rfl, _, rfl, lz, ?_⟩
          refine ⟨?_, rfl⟩
          rw [(num_neg hn).2]
          rfl
        · exact absurd e0 (num_pos hn).1
      · have e0 : cutS (numText i) none (some 1) ≠ "-" := fun z => h0 (decide_eq_true (by rw [z]))
        by_cases hn : i < 0
        · exact absurd (num_neg hn).1 e0
        · refine ⟨_, rfl, ?_, rfl⟩
          have e3 := (num_pos hn).2
          show [some (V.str (numText i)), some (V.str (numText i)), none, none, none] = [some (V.str (numText i)), some (V.str (dig i)), none, none, none]
          rw [← e3]
    · rintro σ' H' ⟨rfl, rfl⟩
      have dl : (dig i).length = (numL i.natAbs).length := by rw [len_tl, tl_dig]
      have d0 : 0 < (numL i.natAbs).length := List.length_pos_iff.mpr (numL_ne _)
      generalize hL : (numL i.natAbs).length = L at *
      obtain ⟨kk, hkk⟩ : ∃ kk : Nat, ((-(L : Int)) % 18) = (kk : Int) := ⟨((-(L : Int)) % 18).toNat, by omega⟩
      have k18 : kk < 18 := by omega
      obtain ⟨m, hm⟩ : ∃ m : Nat, 18 * m = kk + L := ⟨(kk + L) / 18, by omega⟩
      have ezero : ("0" : Str).length = 1 := by decide +kernel
      refine ⟨_, rfl, dig i, rfl, Nat.le_trans ld (by decide), _, rfl, _, _, rfl, rfl, by show (0 : Int) < 18; decide, "0", (kk : Int), rfl, by show V.int (-((dig i).length : Int) % 18) = V.int (kk : Int); rw [dl, hkk], by omega, by omega, by rw [ezero]; decide, ?_⟩
      have tr : tl (repS "0" (kk : Int)) = List.replicate kk 48 := by
        show (List.replicate (kk : Int).toNat (tl ("0" : Str))).flatten.toArray.toList = _
        rw [zero_tl, Int.toNat_natCast]
        have : ∀ n : Nat, (List.replicate n ([48] : List Nat)).flatten = List.replicate n 48 := by
          intro n
          induction n with
          | zero => rfl
          | succ n ih => rw [List.replicate_succ, List.flatten_cons, ih]; rfl
        rw [this]
      have lr : (repS "0" (kk : Int)).length = kk := by rw [len_tl, tr, List.length_replicate]
      refine ⟨_, rfl, _, _, rfl, rfl, by rw [lr]; show kk + (dig i).length ≤ 16777216; omega, ?_⟩
      have tp : tl (repS "0" (kk : Int) ++ dig i) = List.replicate kk 48 ++ numL i.natAbs := by rw [tl_append, tr, tl_dig]
      have lp : (repS "0" (kk : Int) ++ dig i).length = 18 * m := by
        rw [len_app, lr, dl, hm]
      have dg : ∀ c ∈ tl (repS "0" (kk : Int) ++ dig i), 48 ≤ c ∧ c ≤ 57 := by
        rw [tp]
        intro c hc
        rcases List.mem_append.mp hc with hc | hc
        · rw [List.eq_of_mem_replicate hc]
          omega
        · exact num_digit hc
      have va : PySem.NumText.digitsVal (tl (repS "0" (kk : Int) ++ dig i)) = i.natAbs := by
        rw [tp, val_app, val_noughts, Nat.zero_mul, Nat.zero_add, numL_val]
      generalize repS "0" (kk : Int) ++ dig i = pad at *
      have m20 : m < 20 := by omega
      refine into_name ?_
      dsimp only
      refine into_set ?_
      refine into_name ?_
      refine ⟨_, rfl, pad, rfl, by rw [lp]; show 18 * m ≤ 16777216; omega, 0, ((18 * m : Nat) : Int), 18, m, by rw [lp], ⟨by decide, by decide, (rg18 m m20).1, (rg18 m m20).2⟩, for_rangeC (lo := 0) (c := 18) (n := m) (fun j σ' H2 => ∃ v4 : Option V, σ' = [some (.str (numText i)), some (.str (dig i)), some (.str pad), some (.int (PySem.NumText.digitsVal ((tl pad).take (18 * j)) : Nat)), v4] ∧ H2 = H') ⟨none, rfl, rfl⟩ ?_ ?_⟩
      · rintro j σ' H2 hj ⟨v4, rfl, rfl⟩
        have e0 : (0 : Int) + (j : Nat) * 18 = ((18 * j : Nat) : Int) := by omega
        refine into_name ?_
        dsimp only
        refine ⟨_, rfl, _, _, rfl, rfl, .inr ⟨by decide, by decide⟩, _, rfl, _, rfl, ((18 * j : Nat) : Int), by rw [← e0], _, rfl, _, _, rfl, rfl, ((18 * j + 18 : Nat) : Int), ?_, pad, rfl, by rw [lp]; show 18 * m ≤ 16777216; omega, ?_⟩
        · show V.int (0 + (j : Nat) * 18 + 18) = _
          congr 1
          omega
        have cut := cut_mid (z := pad) (a := 18 * j) (b := 18 * j + 18) (by omega) (by rw [lp]; omega)
        have piece : (((tl pad).drop (18 * j)).take 18).length = 18 := by
          rw [List.length_take, List.length_drop, ← len_tl, lp]
          omega
        rw [show 18 * j + 18 - 18 * j = 18 by omega] at cut
        have cl : (cutS pad (some ((18 * j : Nat) : Int)) (some ((18 * j + 18 : Nat) : Int))).length = 18 := by rw [len_tl, cut, piece]
        have rd : PySem.intText? (cutS pad (some ((18 * j : Nat) : Int)) (some ((18 * j + 18 : Nat) : Int))) = some ((PySem.NumText.digitsVal (((tl pad).drop (18 * j)).take 18) : Nat) : Int) := by
          have q := PySem.intText_digits (x := cutS pad (some ((18 * j : Nat) : Int)) (some ((18 * j + 18 : Nat) : Int))) (by
            intro c hc
            have hc : c ∈ tl (cutS pad (some ((18 * j : Nat) : Int)) (some ((18 * j + 18 : Nat) : Int))) := hc
            rw [cut] at hc
            exact dg c (List.mem_of_mem_drop (List.mem_of_mem_take hc))) (by
            intro z
            have z : tl (cutS pad (some ((18 * j : Nat) : Int)) (some ((18 * j + 18 : Nat) : Int))) = [] := z
            rw [cut] at z
            rw [z] at piece
            exact absurd piece (by decide)) (by rw [cl]; decide)
          rw [q]
          show some (((PySem.NumText.digitsVal (tl _) : Nat)) : Int) = _
          rw [cut]
        refine ⟨_, _, rfl, rd, by rw [cl]; decide, _, _, rfl, rfl, ?_⟩
        refine ⟨some (.int (0 + (j : Nat) * 18)), ?_, rfl⟩
        have vt := val_take (l := tl pad) (a := 18 * j) (b := 18) (by rw [← len_tl, lp]; omega)
        rw [show 18 * (j + 1) = 18 * j + 18 by omega, vt, Int.natCast_add, Int.natCast_mul]
        rfl
      · rintro σ' H2 ⟨v4, rfl, rfl⟩
        have full : (tl pad).take (18 * m) = tl pad := List.take_of_length_le (by rw [← len_tl, lp]; exact Nat.le_refl _)
        rw [full, va]
        refine ⟨_, rfl, (1 : Int), rfl, _, rfl, lz, rfl, _, rfl, ite2 (fun h0 => ?_) (fun h0 => ?_)⟩
        · have e0 := V.str.inj (of_decide_eq_true h0)
          by_cases hn : i < 0
          · refine ⟨_, rfl, _, rfl, ?_⟩
            have : (-((i.natAbs : Nat) : Int)) = i := by omega
            show Q (.int (-((i.natAbs : Nat) : Int))) _
            rw [this]
            exact k
          · exact absurd e0 (num_pos hn).1
        · have e0 : cutS (numText i) none (some 1) ≠ "-" := fun z => h0 (decide_eq_true (by rw [z]))
          by_cases hn : i < 0
          · exact absurd (num_neg hn).1 e0
          · refine ⟨_, rfl, ?_⟩
            have : (((i.natAbs : Nat) : Int)) = i := by omega
            show Q (.int ((i.natAbs : Nat) : Int)) _
            rw [this]
            exact k
theorem k_read_fraction (D : Lies K mg "read_fraction" s_read_fraction) (T : Plain mg) (G_read_integer : Keeps P w K mg base 1 "_read_integer" ["word"] spReadI) (G_is_integer_text : Keeps P w K mg base 1 "_is_integer_text" ["word"] spIsNum) (G_is_fraction : Keeps P w K mg base 2 "is_fraction" ["value"] (spIsFr K)) : Keeps P w K mg base 3 "read_fraction" ["word"] (spRead K) := by
  refine D.keeps sc_read_fraction (fun _ _ _ _ _ _ us hl => bindsL1 (fun _ => rfl) us hl) (fun vs H Q E h => ?_) (fun f cdv A outer s H vs Q E hr h => ?_)
  · obtain ⟨f, rfl, _⟩ := h
    rfl
  · obtain ⟨⟨a, b⟩, rfl, ⟨hb, hg, sa, sb⟩, k⟩ := h
    have sl : tl ("/" : Str) = 47 :: [] := by decide +kernel
    have fr : (47 : Nat) ∉ tl (numText a) := num_free (.inr (.inr rfl))
    have la := numText_len sa
    have lb := numText_len sb
    have lw := frac_len (f := (a, b)) sa sb
    have ls : ("/" : Str).length = 1 := by decide +kernel
    refine ⟨_, (pss_cons (ps_asg (pe_partition (pv 0) pe_str) (pg_tup rfl (pgs_cons (pg_name (i := 1) sc_read_fraction.nd rfl (Or.inl rfl)) (pgs_cons (pg_name (i := 2) sc_read_fraction.nd rfl (Or.inl rfl)) (pgs_cons (pg_name (i := 3) sc_read_fraction.nd rfl (Or.inl rfl)) pgs_nil)))))
      (pss_cons (ps_if (pt_not (pt_val (pe_go G_is_integer_text (hr.mono (by decide)) rfl (pa_cons (pv 1) pa_nil))))
        (pss_one (ps_ret pe_non))
        pss_nil)
      (pss_cons (ps_if (pt_cmpR op_eq (pv 2) pe_str (nomark _))
        (pss_one (ps_ret (pe_tup (pa_cons (pe_go G_read_integer (hr.mono (by decide)) rfl (pa_cons (pv 1) pa_nil)) (pa_cons pe_int pa_nil)))))
        pss_nil)
      (pss_cons (ps_if (pt_not (pt_val (pe_go G_is_integer_text (hr.mono (by decide)) rfl (pa_cons (pv 3) pa_nil))))
        (pss_one (ps_ret pe_non))
        pss_nil)
      (pss_cons (ps_set (i := 4) sc_read_fraction.nd rfl (Or.inl rfl) (pe_tup (pa_cons (pe_go G_read_integer (hr.mono (by decide)) rfl (pa_cons (pv 1) pa_nil)) (pa_cons (pe_go G_read_integer (hr.mono (by decide)) rfl (pa_cons (pv 3) pa_nil)) pa_nil))))
      (pss_cons (ps_if (PW.pt (pw_and (pt_cmpR op_gt (pe_ix ix_tup (pv 4) pe_int (fun _ _ => rfl)) pe_int (nomark _)) (pw_and1 (pt_val (pe_go G_is_fraction (hr.mono (by decide)) rfl (pa_cons (pv 4) pa_nil))))))
        (pss_one (ps_ret (pv 4)))
        pss_nil)
      (pss_one (ps_ret pe_non)))))))), ?_⟩
    refine ⟨_, rfl, ⟨_, rfl⟩, _, _, rfl, rfl, by rw [ls]; rfl, Nat.le_trans lw (by decide), fun q nq => ?_⟩
    by_cases e : b = 1
    · subst e
      have ew : fracText (a, 1) = numText a := by unfold fracText; rw [if_pos rfl]
      rw [ew, partition_none sl fr]
      refine ⟨q, _, rfl, SqT.of upd_same, rfl, _, _, rfl, _, _, rfl, _, _, rfl, ⟨rfl, ?_⟩⟩
      refine ⟨_, rfl, a, rfl, sa, fun H1 s1 => ⟨true, rfl, iteF ?_⟩⟩
      refine ⟨_, rfl, rfl, _, rfl, if_true_of' (decide_eq_true rfl) ?_⟩
      refine ⟨_, rfl, a, rfl, sa, by show 2 ≤ sizeLine; decide, fun t nt => ?_⟩
      exact k t _ ((same_upd nq).trans (s1.trans (same_upd nt))) upd_same
    · have ew : fracText (a, b) = numText a ++ "/" ++ numText b := by unfold fracText; rw [if_neg e]
      rw [ew, partition_app sl fr]
      refine ⟨q, _, rfl, SqT.of upd_same, rfl, _, _, rfl, _, _, rfl, _, _, rfl, ⟨rfl, ?_⟩⟩
      refine ⟨_, rfl, a, rfl, sa, fun H1 s1 => ⟨true, rfl, iteF ?_⟩⟩
      refine ⟨_, rfl, rfl, _, rfl, pull_false (decide_eq_false fun z => ?_) ?_⟩
      · have := congrArg Str.length (V.str.inj z)
        rw [ls] at this
        cases this
      refine ⟨_, rfl, b, rfl, sb, fun H2 s2 => ⟨true, rfl, iteF ?_⟩⟩
      refine ⟨_, rfl, a, rfl, sa, _, rfl, b, rfl, sb, by show 2 ≤ sizeLine; decide, fun t nt => ?_⟩
      refine ⟨_, rfl, t, _, _, _, rfl, rfl, SqT.of upd_same, rfl, _, _, rfl, rfl, _, rfl, if_true_of' (decide_eq_true (show (1 : Int) < b by omega)) ?_⟩
      refine ⟨_, rfl, t, (a, b), rfl, SqT.of upd_same, hb, hg, true, rfl, iteT ?_⟩
      refine ⟨_, rfl, k t _ ((same_upd nq).trans (s1.trans (s2.trans (same_upd nt)))) upd_same⟩
theorem gnd_name {x : Str} (h : Name x) : V.str x ≠ V.str "gnd" := fun z => h.2.2.2 (V.str.inj z)
theorem k_is_name (D : Lies K mg "is_name" s_is_name) (T : Plain mg) : Keeps P w K mg base 1 "is_name" ["value"] spIsName := by
  refine D.keeps sc_is_name (fun _ _ _ _ _ _ us hl => bindsL1 (fun _ => rfl) us hl) (fun vs H Q E h => ?_) (fun f cdv A outer s H vs Q E hr h => ?_)
  · obtain ⟨x, rfl, _⟩ := h
    rfl
  · obtain ⟨x, rfl, hx, k⟩ := h
    refine ⟨_, (pss_cons (ps_if (PW.pt (pw_or (pt_not (pt_val (pe_callB call_isi (by rfl) T.n_isinstance b_isinstance (pa_cons (pv 0) (pa_cons (pe_bltn (v := .ty "str") (by rfl) T.n_str b_str rfl) pa_nil))))) (pw_or1 (pt_cmpR op_eq (pv 0) (pe_cs T.c_GROUND rfl) (nomark _)))))
        (pss_one (ps_ret pe_bl))
        pss_nil)
      (pss_one (ps_ret (pe_and (pe_chain op_le op_le pe_int (pe_callB call_len_str (by rfl) T.n_len b_len (pa_cons (pv 0) pa_nil)) (pe_ci T.c_LONGEST_NAME rfl)) (pe_one (pe_callB (cr_all rfl) (by rfl) T.n_all b_all (pa_cons (pe_lc (own := [("sign", 1)]) (g := gName 1) (tt := tYes) rfl sc_is_name.nd (pi_str (pv 0)) (blkOk_by (N := N_is_name) (sc := defScope s_is_name) (by decide +kernel)) (fun _ _ _ _ _ => pg_name (i := 1) sc_is_name.nd rfl (Or.inl rfl)) (fun _ _ _ _ _ => pts_nil) (fun _ _ _ _ _ => by exact (pe_cmpR op_in_sign (pv 1) (pe_cs T.c_LETTERS rfl) (by rfl)))) pa_nil))))))), ?_⟩
    refine ⟨_, rfl, _, _, _, _, true, rfl, .ty _, .base (.str x), kit_ty (by decide +kernel), true, rfl, pull_false rfl ⟨_, rfl, rfl, _, rfl, pull_false (decide_eq_false (gnd_name hx)) ?_⟩⟩
    refine ⟨_, rfl, x, rfl, Nat.le_trans hx.2.1 (by decide), _, _, rfl, rfl, true, congrArg V.bl (decide_eq_true (by have := hx.1; omega)), iteT ⟨_, _, rfl, rfl, true, congrArg V.bl (decide_eq_true (by have := hx.2.1; omega)), iteT ?_⟩⟩
    refine into_cb (into_args1 (comp_str (g := fun c => .bl (decide (c ∈ tl ("abcdefghijklmnopqrstuvwxyz" : Str)))) (fun R q => ⟨_, rfl, q⟩) (Nat.lt_of_le_of_lt hx.2.1 (by decide)) (fun _ => rfl) (fun c hc H Z hz => ⟨_, rfl, c, _, rfl, rfl, hz⟩) fun D hD => ?_))
    refine ⟨D, (tl x).map fun c => decide (c ∈ tl ("abcdefghijklmnopqrstuvwxyz" : Str)), rfl, SqL.of (by rw [List.map_map]; exact upd_same), ?_⟩
    have all : ((tl x).map fun c => decide (c ∈ tl ("abcdefghijklmnopqrstuvwxyz" : Str))).all id = true := by
      rw [List.all_map]
      exact List.all_eq_true.mpr fun y hy => in_letters (hx.2.2.1 y hy)
    rw [all]
    exact k _ (same_upd hD)
theorem k_names_of (D : Lies K mg "names_of" s_names_of) (T : Plain mg) : Keeps P w K mg base 1 "names_of" ["told"] (spNames K) := by
  refine D.keeps sc_names_of (fun _ _ _ _ _ _ us hl => bindsL1 (fun _ => rfl) us hl) (fun vs H Q E h => ?_) (fun f cdv A outer s H vs Q E hr h => ?_)
  · obtain ⟨a, us, xs, rfl, _⟩ := h
    rfl
  · obtain ⟨a, us, xs, rfl, hS, pr, hz, k⟩ := h
    refine ⟨_, (pss_one (ps_ret (pe_lc (own := [("entry", 1)]) (g := gName 1) (tt := tYes) rfl sc_names_of.nd (pi_list (pv 0)) (blkOk_by (N := N_names_of) (sc := defScope s_names_of) (by decide +kernel)) (fun _ _ _ _ _ => pg_name (i := 1) sc_names_of.nd rfl (Or.inl rfl)) (fun _ _ _ _ _ => pts_nil) (fun _ _ _ _ _ => by exact (pe_ix (ix_tupK (K := K) rfl) (pv 1) pe_int (fun _ _ => rfl)))))), ?_⟩
    refine into_ret (comp_pure (f := fun x : Str => x) (R := HeadAt K H) (R' := fun _ => StrV) (fun R r => ⟨_, rfl, r⟩) hS pr (by rw [pr.length]; exact hz) (fun _ _ _ h => h) (fun _ _ _ _ h => h) (fun v e H0 Z r he s0 hZ => ?_) (fun H2 D acc hD s2 hL hp => ?_))
    · obtain ⟨t, rst, rfl, ht⟩ := r
      exact ⟨rfl, _, rfl, t, _, _, _, rfl, rfl, SqT.same s0 ht, atI_nat (j := 0) rfl, hZ _ _ (Same.refl _) rfl⟩
    · rw [List.map_id'] at hp
      have e := strs_are hp
      subst e
      exact k D H2 s2 hD hL
theorem k_names_ofT (D : Lies K mg "names_of" s_names_of) (T : Plain mg) : Keeps P w K mg base 1 "names_of" ["told"] (spNamesT K) := by
  refine D.keeps sc_names_of (fun _ _ _ _ _ _ us hl => bindsL1 (fun _ => rfl) us hl) (fun vs H Q E h => ?_) (fun f cdv A outer s H vs Q E hr h => ?_)
  · obtain ⟨a, us, xs, rfl, _⟩ := h
    rfl
  · obtain ⟨a, us, xs, rfl, hS, pr, hz, k⟩ := h
    refine ⟨_, (pss_one (ps_ret (pe_lc (own := [("entry", 1)]) (g := gName 1) (tt := tYes) rfl sc_names_of.nd (pi_tup (pv 0)) (blkOk_by (N := N_names_of) (sc := defScope s_names_of) (by decide +kernel)) (fun _ _ _ _ _ => pg_name (i := 1) sc_names_of.nd rfl (Or.inl rfl)) (fun _ _ _ _ _ => pts_nil) (fun _ _ _ _ _ => by exact (pe_ix (ix_tupK (K := K) rfl) (pv 1) pe_int (fun _ _ => rfl)))))), ?_⟩
    refine into_ret (comp_pureT (f := fun x : Str => x) (R := HeadAt K H) (R' := fun _ => StrV) (fun R r => ⟨_, rfl, r⟩) hS pr (by rw [pr.length]; exact hz) (fun _ _ _ h => h) (fun _ _ _ _ h => h) (fun v e H0 Z r he s0 hZ => ?_) (fun H2 D acc hD s2 hL hp => ?_))
    · obtain ⟨t, rst, rfl, ht⟩ := r
      exact ⟨rfl, _, rfl, t, _, _, _, rfl, rfl, SqT.same s0 ht, atI_nat (j := 0) rfl, hZ _ _ (Same.refl _) rfl⟩
    · rw [List.map_id'] at hp
      have e := strs_are hp
      subst e
      exact k D H2 s2 hD hL
theorem k_is_another (D : Lies K mg "_is_another" s_is_another) (T : Plain mg) (G_is_name : Keeps P w K mg base 1 "is_name" ["value"] spIsName) (G_names_of : Keeps P w K mg base 1 "names_of" ["told"] (spNames K)) :
    Keeps P w K mg base 2 "_is_another" ["name", "told", "most"] (spAnother K) := by
  refine D.keeps sc_is_another (fun _ _ _ _ _ _ us hl => bindsL3 (fun _ _ _ => rfl) us hl) (fun vs H Q E h => ?_) (fun f cdv A outer s H vs Q E hr h => ?_)
  · obtain ⟨x, a, us, xs, m, rfl, _⟩ := h
    rfl
  · obtain ⟨x, a, us, xs, m, rfl, hx, hS, pr, hm, hm2, nx, k⟩ := h
    have lu := pr.length
    refine ⟨_, (pss_one (ps_ret (pe_and (pe_go G_is_name (hr.mono (by decide)) rfl (pa_cons (pv 0) pa_nil)) (pe_and (pe_cmpR op_lt (pe_callB call_len_seq (by rfl) T.n_len b_len (pa_cons (pv 1) pa_nil)) (pv 2) (nomark _)) (pe_one (pe_cmpR op_notIn_seq (pv 0) (pe_go G_names_of (hr.mono (by decide)) rfl (pa_cons (pv 1) pa_nil)) (by rfl))))))), ?_⟩
    refine ⟨_, rfl, x, rfl, hx, fun H1 s1 => ⟨true, rfl, iteT ?_⟩⟩
    refine ⟨_, rfl, a, _, rfl, .inl (Same.seq s1 hS), _, rfl, _, _, rfl, rfl, true, congrArg V.bl (decide_eq_true (by omega)), iteT ?_⟩
    refine ⟨_, rfl, _, rfl, a, us, xs, rfl, Same.seq s1 hS, pr.mono fun v c ⟨t, r, e, h⟩ => ⟨t, r, e, SqT.same s1 h⟩, by omega, fun l H2 s2 _ hl => ?_⟩
    refine ⟨l, _, rfl, .inl (SqL.of hl), rfl, strs_flat xs, ?_⟩
    have e : (if true = true then !inV (.str x) (xs.map V.str) else inV (.str x) (xs.map V.str)) = true := by
      rw [if_pos rfl, in_strs, decide_eq_false nx]
      rfl
    rw [e]
    exact k H2 (s1.trans s2)
theorem k_is_junction (D : Lies K mg "_is_junction" s_is_junction) (T : Plain mg) (G_is_name : Keeps P w K mg base 1 "is_name" ["value"] spIsName) : Keeps P w K mg base 2 "_is_junction" ["word"] spJunc := by
  refine D.keeps sc_is_junction (fun _ _ _ _ _ _ us hl => bindsL1 (fun _ => rfl) us hl) (fun vs H Q E h => ?_) (fun f cdv A outer s H vs Q E hr h => ?_)
  · obtain ⟨x, rfl, _⟩ := h
    rfl
  · obtain ⟨x, rfl, hx, k⟩ := h
    refine ⟨_, (pss_one (ps_ret (pe_or (pe_cmpR op_eq (pv 0) (pe_cs T.c_GROUND rfl) (nomark _)) (pe_one (pe_go G_is_name (hr.mono (by decide)) rfl (pa_cons (pv 0) pa_nil)))))), ?_⟩
    rcases hx with rfl | hx
    · exact ⟨_, rfl, rfl, true, congrArg V.bl (decide_eq_true rfl), iteT (k _ (Same.refl _))⟩
    · exact ⟨_, rfl, rfl, false, congrArg V.bl (decide_eq_false (gnd_name hx)), iteF ⟨_, rfl, x, rfl, hx, fun H1 s1 => k _ s1⟩⟩
end
end Ct

namespace Ct
open PySem PySem.Spec PyProof.Rows L2 TL
abbrev s_l_pot : Stmt := top 45
abbrev N_l_pot : List Str := ["script", "place", "cell", "own", "small"]
theorem sc_l_pot : FnScope N_l_pot ["script", "place"] (defScope s_l_pot) := ⟨rfl, rfl, rfl, by decide +kernel, rfl, by decide +kernel, by decide +kernel⟩
abbrev s_l_cells : Stmt := top 49
abbrev N_l_cells : List Str := ["script", "most"]
theorem sc_l_cells : FnScope N_l_cells ["script", "most"] (defScope s_l_cells) := ⟨rfl, rfl, rfl, by decide +kernel, rfl, by decide +kernel, by decide +kernel⟩
abbrev s_l_frac_common : Stmt := top 51
abbrev N_l_frac_common : List Str := ["one", "other"]
theorem sc_l_frac_common : FnScope N_l_frac_common ["one", "other"] (defScope s_l_frac_common) := ⟨rfl, rfl, rfl, by decide +kernel, rfl, by decide +kernel, by decide +kernel⟩
abbrev s_l_frac : Stmt := top 52
abbrev N_l_frac : List Str := ["top", "bottom", "by"]
theorem sc_l_frac : FnScope N_l_frac ["top", "bottom"] (defScope s_l_frac) := ⟨rfl, rfl, rfl, by decide +kernel, rfl, by decide +kernel, by decide +kernel⟩
abbrev s_l_frac_text : Stmt := top 55
abbrev N_l_frac_text : List Str := ["one"]
theorem sc_l_frac_text : FnScope N_l_frac_text ["one"] (defScope s_l_frac_text) := ⟨rfl, rfl, rfl, by decide +kernel, rfl, by decide +kernel, by decide +kernel⟩
abbrev s_l_frac_drawn : Stmt := top 56
abbrev N_l_frac_drawn : List Str := ["pot", "low", "high", "bottom"]
theorem sc_l_frac_drawn : FnScope N_l_frac_drawn ["pot", "low", "high"] (defScope s_l_frac_drawn) := ⟨rfl, rfl, rfl, by decide +kernel, rfl, by decide +kernel, by decide +kernel⟩
/-! ### the numbers -/
def ratio (a b : Int) : Int × Int := (a / (Int.gcd a b : Int), b / (Int.gcd a b : Int))


def spCommon : Sp := fun vs H Q _ => ∃ x y : Int, vs = [.int x, .int y] ∧ Q (.int (Int.gcd x y)) H
def spFrac : Sp := fun vs H Q _ => ∃ a b : Int, vs = [.int a, .int b] ∧ 0 < b ∧ b < 1000000 ∧ ∀ t, H t = none → Q (.ref t) (upd H t (.tup [.int (ratio a b).1, .int (ratio a b).2]))
def spFracText (K : PySem.W.Frag) : Sp := fun vs H Q _ => ∃ (t : Addr) (f : Int × Int), vs = [.ref t] ∧ SqT K H t [.int f.1, .int f.2] ∧ f.1.natAbs < 2 ^ 1000 ∧ f.2.natAbs < 2 ^ 1000 ∧ Q (.str (fracText f)) H
/-- a drawn fraction between low and high -/
def drawn (low high : Int) (f : Int × Int) : Prop := ∃ b d : Int, (b = 1 ∨ b = 2 ∨ b = 3 ∨ b = 5) ∧ 0 ≤ d ∧ d ≤ (high - low) * b ∧ f = ratio (low * b + d) b
def spFracDrawn : Sp := fun vs H Q _ => ∃ (p : Addr) (G : Hp) (n : Nat) (low high : Int), vs = [.ref p, .int low, .int high] ∧ Beside p G H ∧ PotAt p H n ∧ n + 2 ≤ 1000000 ∧ -1000 ≤ low ∧ low ≤ high ∧ high ≤ 1000 ∧
  ∀ (f : Int × Int) (t : Addr) (G' H' : Hp), drawn low high f → Same G G' → Beside p G' H' → PotAt p H' (n + 2) → G' t = some (.tup [.int f.1, .int f.2]) → Q (.ref t) H'
theorem gcd_step (a b : Int) (ha : 0 ≤ a) (hb : 0 < b) : Int.gcd b (a % b) = Int.gcd a b := by
  rw [Int.gcd_comm a b]
  obtain ⟨x, rfl⟩ := Int.eq_ofNat_of_zero_le ha
  obtain ⟨y, rfl⟩ := Int.eq_ofNat_of_zero_le (Int.le_of_lt hb)
  show Nat.gcd y (((x : Int) % (y : Int)).natAbs) = Nat.gcd y x
  rw [← Int.natCast_emod, Int.natAbs_natCast, Nat.gcd_comm y, ← Nat.gcd_rec y x]
theorem gcd_abs (a b : Int) : Int.gcd (if a < 0 then -a else a) (if b < 0 then -b else b) = Int.gcd a b := by
  by_cases h : a < 0 <;> by_cases g : b < 0 <;> simp [h, g]
section
variable {P : Program} {w : World} {K : PySem.W.Frag} {mg : Str → Option Value} {base : Heap}
theorem k_common (D : Lies K mg "_law_frac_common" s_l_frac_common) (T : Plain mg) : Keeps P w K mg base 1 "_law_frac_common" ["one", "other"] spCommon := by
  refine D.keeps sc_l_frac_common (fun _ _ _ _ _ _ us hl => bindsL2 (fun _ _ => rfl) us hl) (fun vs H Q E h => ?_) (fun f cdv A outer s H vs Q E hr h => ?_)
  · obtain ⟨x, y, rfl, _⟩ := h
    rfl
  · obtain ⟨x, y, rfl, k⟩ := h
    refine ⟨_, (pss_cons (ps_par (i := 0) (j := 1) (by rfl) sc_l_frac_common.nd rfl rfl (by decide) rfl rfl (pa_cons (pe_callB call_abs (by rfl) T.n_abs b_abs (pa_cons (pv 0) pa_nil)) (pa_cons (pe_callB call_abs (by rfl) T.n_abs b_abs (pa_cons (pv 1) pa_nil)) pa_nil)) (by rfl))
      (pss_cons (ps_while PassesOwn.never (pt_cmpR op_gt (pv 1) pe_int (nomark _))
        (pss_one (ps_par (i := 0) (j := 1) (by rfl) sc_l_frac_common.nd rfl rfl (by decide) rfl rfl (pa_cons (pv 1) (pa_cons (pe_op op_mod (pe_callTy call_int1 (by rfl) T.n_int b_int (pa_cons (pv 0) pa_nil)) (pv 1)) pa_nil)) (by rfl))))
      (pss_one (ps_ret (pv 0))))), ?_⟩
    refine ⟨_, rfl, _, rfl, _, rfl, _, rfl, _, _, rfl, while_by (fun σ H' => ∃ a b : Int, σ = [some (.int a), some (.int b)] ∧ H' = H ∧ 0 ≤ a ∧ 0 ≤ b ∧ Int.gcd a b = Int.gcd x y) (fun σ _ => match σ with | [_, some (.int b)] => b.toNat | _ => 0) ⟨_, _, rfl, rfl, by split <;> omega, by split <;> omega, gcd_abs x y⟩ ?_ ?_⟩
    · rintro σ H1 ⟨a, b, rfl, rfl, ha, hb, e⟩
      refine ⟨_, rfl, _, _, rfl, rfl, _, rfl, ?_⟩
      refine ite2 (fun h0 => ?_) (fun h0 => ?_)
      · have b0 : 0 < b := of_decide_eq_true h0
        refine ⟨_, rfl, _, rfl, .inl ⟨_, rfl, _, rfl, _, _, rfl, rfl, b0, _, _, rfl, ⟨_, _, rfl, rfl, hb, Int.emod_nonneg _ (by omega), (gcd_step a b ha b0).trans e⟩, ?_⟩⟩
        have := Int.emod_lt_of_pos a b0
        have := Int.emod_nonneg a (show b ≠ 0 by omega)
        show (a % b).toNat < b.toNat
        omega
      · have b0 : b = 0 := by
          have : ¬ 0 < b := fun z => h0 (decide_eq_true z)
          omega
        subst b0
        have ea : (Int.gcd x y : Int) = a := by rw [← e, Int.gcd_zero_right]; omega
        rw [ea] at k
        exact ⟨_, rfl, k⟩
    · exact fun σ H' Q1 Q2 m h => by
        obtain ⟨v, h1, i, j, h2, h3, c, h4, q⟩ := h
        exact ⟨v, h1, i, j, h2, h3, c, h4, m _ _ q⟩
theorem k_frac (D : Lies K mg "_law_frac" s_l_frac) (T : Plain mg) (G_l_frac_common : Keeps P w K mg base 1 "_law_frac_common" ["one", "other"] spCommon) : Keeps P w K mg base 2 "_law_frac" ["top", "bottom"] spFrac := by
  refine D.keeps sc_l_frac (fun _ _ _ _ _ _ us hl => bindsL2 (fun _ _ => rfl) us hl) (fun vs H Q E h => ?_) (fun f cdv A outer s H vs Q E hr h => ?_)
  · obtain ⟨x, y, rfl, _⟩ := h
    rfl
  · obtain ⟨a, b, rfl, b0, b1, k⟩ := h
    have g0 : 0 < (Int.gcd a b : Int) := by have := Int.gcd_pos_of_ne_zero_right a (show b ≠ 0 by omega); omega
    have g1 : (Int.gcd a b : Int) ≤ b := Int.le_of_dvd b0 (Int.gcd_dvd_right a b)
    refine ⟨_, (pss_cons (ps_set (i := 2) sc_l_frac.nd rfl (Or.inl rfl) (pe_go G_l_frac_common (hr.mono (by decide)) rfl (pa_cons (pv 0) (pa_cons (pv 1) pa_nil))))
      (pss_cons (ps_set (i := 2) sc_l_frac.nd rfl (Or.inl rfl) (pe_ifExp (pt_cmpR op_gt (pv 1) pe_int (nomark _)) (pv 2) (pe_un un_neg (pv 2))))
      (pss_one (ps_ret (pe_tup (pa_cons (pe_op op_fdiv (pv 0) (pv 2)) (pa_cons (pe_op op_fdiv (pv 1) (pv 2)) pa_nil))))))), ?_⟩
    refine ⟨_, rfl, _, rfl, a, b, rfl, _, rfl, _, _, rfl, rfl, _, rfl, ?_⟩
    refine if_true_of' (decide_eq_true b0) ⟨_, rfl, _, rfl, _, rfl, _, _, rfl, rfl, ⟨g0, by omega⟩, _, rfl, _, rfl, _, _, rfl, rfl, ⟨g0, by omega⟩, by show 2 ≤ sizeLine; decide, fun t ht => k t ht⟩
theorem k_frac_text (D : Lies K mg "_law_frac_text" s_l_frac_text) (T : Plain mg) : Keeps P w K mg base 1 "_law_frac_text" ["one"] (spFracText K) := by
  refine D.keeps sc_l_frac_text (fun _ _ _ _ _ _ us hl => bindsL1 (fun _ => rfl) us hl) (fun vs H Q E h => ?_) (fun f cdv A outer s H vs Q E hr h => ?_)
  · obtain ⟨t, f, rfl, _⟩ := h
    rfl
  · obtain ⟨t, ⟨a, b⟩, rfl, ht, ha, hb, k⟩ := h
    have la : a.natAbs.log2 < 1920 := log_of ha
    have lb : b.natAbs.log2 < 1920 := log_of hb
    refine ⟨_, (pss_one (ps_ret (pe_ifExp (pt_cmpR op_eq (pe_ix ix_tup (pv 0) pe_int (fun _ _ => rfl)) pe_int (nomark _)) (pe_callTy call_str_int (by rfl) T.n_str b_str (pa_cons (pe_callTy call_int1 (by rfl) T.n_int b_int (pa_cons (pe_ix ix_tup (pv 0) pe_int (fun _ _ => rfl)) pa_nil)) pa_nil)) (pe_op op_add_str (pe_op op_add_str (pe_callTy call_str_int (by rfl) T.n_str b_str (pa_cons (pe_callTy call_int1 (by rfl) T.n_int b_int (pa_cons (pe_ix ix_tup (pv 0) pe_int (fun _ _ => rfl)) pa_nil)) pa_nil)) pe_str) (pe_callTy call_str_int (by rfl) T.n_str b_str (pa_cons (pe_callTy call_int1 (by rfl) T.n_int b_int (pa_cons (pe_ix ix_tup (pv 0) pe_int (fun _ _ => rfl)) pa_nil)) pa_nil)))))), ?_⟩
    refine ⟨_, rfl, t, _, _, _, rfl, rfl, ht, rfl, rfl, _, rfl, ?_⟩
    refine ite2 (fun h0 => ?_) (fun h0 => ?_)
    · have e : b = 1 := V.int.inj (of_decide_eq_true h0)
      refine ⟨_, rfl, t, _, _, _, rfl, rfl, ht, rfl, .inl ⟨_, rfl, _, rfl, la, ?_⟩⟩
      rw [show fracText (a, b) = numText a by unfold fracText; rw [if_pos e]] at k
      exact k
    · have e : ¬ b = 1 := fun z => h0 (decide_eq_true (by rw [z]))
      have na : (numText a).length ≤ 1921 := int_text_len_1921 la
      have nb : (numText b).length ≤ 1921 := int_text_len_1921 lb
      have ns : ("/" : Str).length = 1 := by decide +kernel
      rw [show fracText (a, b) = numText a ++ "/" ++ numText b by unfold fracText; rw [if_neg e]] at k
      refine ⟨_, rfl, t, _, _, _, rfl, rfl, ht, rfl, .inl ⟨_, rfl, _, rfl, la, _, _, rfl, rfl, ?_, _, rfl, t, _, _, _, rfl, rfl, ht, rfl, .inl ⟨_, rfl, _, rfl, lb, _, _, rfl, rfl, ?_, k⟩⟩⟩
      · show (numText a).length + ("/" : Str).length ≤ 16777216
        omega
      · show (numText a ++ "/").length + (numText b).length ≤ 16777216
        rw [len_app]
        omega
end
end Ct

/-! Into statements: what several ways lead to; an if at a block's end; and. -/
namespace Ct
open PySem PySem.Spec PyProof.Rows L2 TL
theorem into_ifE {c : TT} {t u : TS} {D : Ends} {σ : L2.St} {H : Hp} (h : c σ H fun b H1 => if b = true then t D σ H1 else u D σ H1) : tIfS c t u D σ H := h
theorem call_isiL {X : Cx} {K : PySem.W.Frag} (hK : X.K = K) : CallR X (.builtin "isinstance") (rIsi K) := by
  subst hK
  exact call_isi
end Ct

/-! Values of any kind: what the checks of fractions say of them. -/
namespace Ct
open PySem PySem.Spec PyProof.Rows L2 TL
def kD : Key → PyData
  | .inl i => .int i
  | .inr x => .str x
mutual
/-- data of any kind, dicts too -/
inductive AnyV (K : PySem.W.Frag) (H : Hp) : V → PyData → Prop
  | non : AnyV K H .non .none
  | bl (b : Bool) : AnyV K H (.bl b) (.bool b)
  | int (i : Int) : AnyV K H (.int i) (.int i)
  | str (x : Str) : AnyV K H (.str x) (.str x)
  | lst {a : Addr} {xs : List V} {ds : List PyData} : SqL K H a xs → AnyAll K H xs ds → AnyV K H (.ref a) (.list ds)
  | tup {a : Addr} {xs : List V} {ds : List PyData} : SqT K H a xs → AnyAll K H xs ds → AnyV K H (.ref a) (.tuple ds)
  | dct {a : Addr} {kvs : List (Key × V)} {ds : List PyData} : H a = some (.dK kvs) → AnyAll K H (kvs.map (·.2)) ds → AnyV K H (.ref a) (.dict ((kvs.map fun z => kD z.1).zip ds))
inductive AnyAll (K : PySem.W.Frag) (H : Hp) : List V → List PyData → Prop
  | nil : AnyAll K H [] []
  | cons {v : V} {vs : List V} {d : PyData} {ds : List PyData} : AnyV K H v d → AnyAll K H vs ds → AnyAll K H (v :: vs) (d :: ds)
end
section
variable {K : PySem.W.Frag} {H H' : Hp}
theorem AnyAll.length : ∀ {vs : List V} {ds : List PyData}, AnyAll K H vs ds → vs.length = ds.length
  | _, _, .nil => rfl
  | _, _, .cons _ r => by rw [List.length_cons, List.length_cons, r.length]
mutual
theorem AnyV.same (s : Same H H') : ∀ {v : V} {d : PyData}, AnyV K H v d → AnyV K H' v d
  | _, _, .non => .non
  | _, _, .bl b => .bl b
  | _, _, .int i => .int i
  | _, _, .str x => .str x
  | _, _, .lst h r => .lst (Same.seq s h) (AnyAll.same s r)
  | _, _, .tup h r => .tup (SqT.same s h) (AnyAll.same s r)
  | _, _, .dct h r => .dct (s _ _ h) (AnyAll.same s r)
theorem AnyAll.same (s : Same H H') : ∀ {vs : List V} {ds : List PyData}, AnyAll K H vs ds → AnyAll K H' vs ds
  | _, _, .nil => .nil
  | _, _, .cons h r => .cons (AnyV.same s h) (AnyAll.same s r)
end
theorem any_pair {K : PySem.W.Frag} {H : Hp} : ∀ {xs : List V} {ds : List PyData}, AnyAll K H xs ds → Paired (AnyV K H) xs ds
  | _, _, .nil => .nil
  | _, _, .cons h r => .cons h (any_pair r)
def BoV (v : V) (b : Bool) : Prop := v = .bl b
theorem bos_are {acc : List V} {bs : List Bool} (h : Paired BoV acc bs) : acc = bs.map V.bl := by
  induction h with
  | nil => rfl
  | cons r _ ih => rw [show _ = V.bl _ from r, ih]; rfl
def tyName : PyData → String
  | .none => "NoneType"
  | .bool _ => "bool"
  | .int _ => "int"
  | .str _ => "str"
  | .list _ => "list"
  | .tuple _ => "tuple"
  | .dict _ => "dict"
theorem tyx_lst {t : Addr} {xs : List V} (h : SqL K H t xs) : TyX K H (.ref t) (.type "list") := by
  rcases h with (h | ⟨o, h⟩) | ⟨o, its, n, h, c, _⟩
  · exact .base (.lst h)
  · exact .base (.frz h)
  · exact .kList h c
theorem AnyV.ty {v : V} {d : PyData} (h : AnyV K H v d) : TyX K H v (.type (tyName d)) := by
  cases h with
  | non => exact .base .non
  | bl b => exact .base (.bl b)
  | int i => exact .base (.int i)
  | str x => exact .base (.str x)
  | lst h _ => exact tyx_lst h
  | tup h _ => exact tyx_tup h
  | dct h _ => exact .base (.dK h)
def isTup : PyData → Bool
  | .tuple _ => true
  | _ => false
def isInt : PyData → Bool
  | .int _ => true
  | _ => false
def isBool : PyData → Bool
  | .bool _ => true
  | _ => false
def isStr : PyData → Bool
  | .str _ => true
  | _ => false
theorem kit_tup : ∀ d : PyData, PySem.W.kitOne K (.type (tyName d)) (.type "tuple") = some (isTup d)
  | .none => kit_ty (show kitB "NoneType" "tuple" = some false by decide +kernel)
  | .bool _ => kit_ty (show kitB "bool" "tuple" = some false by decide +kernel)
  | .int _ => kit_ty (show kitB "int" "tuple" = some false by decide +kernel)
  | .str _ => kit_ty (show kitB "str" "tuple" = some false by decide +kernel)
  | .list _ => kit_ty (show kitB "list" "tuple" = some false by decide +kernel)
  | .tuple _ => kit_ty (show kitB "tuple" "tuple" = some true by decide +kernel)
  | .dict _ => kit_ty (show kitB "dict" "tuple" = some false by decide +kernel)
theorem kit_str : ∀ d : PyData, PySem.W.kitOne K (.type (tyName d)) (.type "str") = some (isStr d)
  | .none => kit_ty (show kitB "NoneType" "str" = some false by decide +kernel)
  | .bool _ => kit_ty (show kitB "bool" "str" = some false by decide +kernel)
  | .int _ => kit_ty (show kitB "int" "str" = some false by decide +kernel)
  | .str _ => kit_ty (show kitB "str" "str" = some true by decide +kernel)
  | .list _ => kit_ty (show kitB "list" "str" = some false by decide +kernel)
  | .tuple _ => kit_ty (show kitB "tuple" "str" = some false by decide +kernel)
  | .dict _ => kit_ty (show kitB "dict" "str" = some false by decide +kernel)
theorem kit_int : ∀ d : PyData, PySem.W.kitOne K (.type (tyName d)) (.type "int") = some (isInt d || isBool d)
  | .none => kit_ty (show kitB "NoneType" "int" = some false by decide +kernel)
  | .bool _ => kit_ty (show kitB "bool" "int" = some true by decide +kernel)
  | .int _ => kit_ty (show kitB "int" "int" = some true by decide +kernel)
  | .str _ => kit_ty (show kitB "str" "int" = some false by decide +kernel)
  | .list _ => kit_ty (show kitB "list" "int" = some false by decide +kernel)
  | .tuple _ => kit_ty (show kitB "tuple" "int" = some false by decide +kernel)
  | .dict _ => kit_ty (show kitB "dict" "int" = some false by decide +kernel)
theorem kit_bool : ∀ d : PyData, PySem.W.kitOne K (.type (tyName d)) (.type "bool") = some (isBool d)
  | .none => kit_ty (show kitB "NoneType" "bool" = some false by decide +kernel)
  | .bool _ => kit_ty (show kitB "bool" "bool" = some true by decide +kernel)
  | .int _ => kit_ty (show kitB "int" "bool" = some false by decide +kernel)
  | .str _ => kit_ty (show kitB "str" "bool" = some false by decide +kernel)
  | .list _ => kit_ty (show kitB "list" "bool" = some false by decide +kernel)
  | .tuple _ => kit_ty (show kitB "tuple" "bool" = some false by decide +kernel)
  | .dict _ => kit_ty (show kitB "dict" "bool" = some false by decide +kernel)
end
/-- least terms, bottom above 0 -/
def isFr : PyData → Bool
  | .tuple [.int a, .int b] => decide (0 < b) && decide (Int.gcd a b = 1)
  | _ => false
def isSize : PyData → Bool
  | .tuple [.int a, .int b] => decide (0 < b) && decide (Int.gcd a b = 1) && decide (0 < a)
  | _ => false
def spAnyB (K : PySem.W.Frag) (g : PyData → Bool) : Sp := fun vs H Q _ => ∃ (v : V) (d : PyData), vs = [v] ∧ AnyV K H v d ∧ ∀ H', Same H H' → Q (.bl (g d)) H'
section
variable {P : Program} {w : World} {K : PySem.W.Frag} {mg : Str → Option Value} {base : Heap}
theorem k_is_integerA (D : Lies K mg "is_integer" s_is_integer) (T : Plain mg) : Keeps P w K mg base 1 "is_integer" ["value"] (spAnyB K isInt) := by
  refine D.keeps sc_is_integer (fun _ _ _ _ _ _ us hl => match us, hl with | [_], _ => rfl) (fun vs H Q E h => ?_) (fun f cdv A outer s H vs Q E hr h => ?_)
  · obtain ⟨v, d, rfl, _⟩ := h
    rfl
  · obtain ⟨v, d, rfl, hv, k⟩ := h
    refine ⟨_, (pss_one (ps_ret (pe_and (pe_callB call_isi (by rfl) T.n_isinstance b_isinstance (pa_cons (pv 0) (pa_cons (pe_bltn (v := .ty "int") (by rfl) T.n_int b_int rfl) pa_nil))) (pe_one (pe_not (pe_callB call_isi (by rfl) T.n_isinstance b_isinstance (pa_cons (pv 0) (pa_cons (pe_bltn (v := .ty "bool") (by rfl) T.n_bool b_bool rfl) pa_nil)))))))), ?_⟩
    refine ⟨_, rfl, _, _, _, _, _, rfl, .ty _, hv.ty, kit_int d, _, rfl, ?_⟩
    cases d with
    | int i => exact iteT ⟨_, rfl, _, _, _, _, _, rfl, .ty _, hv.ty, kit_bool _, _, rfl, k _ (Same.refl _)⟩
    | bool b => exact iteT ⟨_, rfl, _, _, _, _, _, rfl, .ty _, hv.ty, kit_bool _, _, rfl, k _ (Same.refl _)⟩
    | _ => exact iteF (k _ (Same.refl _))
theorem fr_not_two {ds : List PyData} (h : ds.length ≠ 2) : isFr (.tuple ds) = false := by
  match ds, h with
  | [], _ => rfl
  | [a], _ => cases a <;> rfl
  | [_, _], h => exact absurd rfl h
  | a :: b :: _ :: _, _ => cases a <;> first | rfl | (cases b <;> rfl)
theorem fr_left {x y : PyData} (h : isInt x = false) : isFr (.tuple [x, y]) = false := by
  cases x <;> first | rfl | cases h
theorem fr_right {i : Int} {y : PyData} (h : isInt y = false) : isFr (.tuple [.int i, y]) = false := by
  cases y <;> first | rfl | cases h
theorem two_of {K : PySem.W.Frag} {H : Hp} {xs : List V} {ds : List PyData} (h : AnyAll K H xs ds) (l : xs.length = 2) : ∃ x y a b, xs = [x, y] ∧ ds = [a, b] ∧ AnyV K H x a ∧ AnyV K H y b := by
  match xs, ds, h, l with
  | [_, _], _, .cons hx (.cons hy .nil), _ => exact ⟨_, _, _, _, rfl, rfl, hx, hy⟩
theorem not_int {d : PyData} (h : isInt d = true) : ∃ i, d = .int i := by
  cases d <;> first | exact ⟨_, rfl⟩ | cases h
theorem AnyV.int_at {K : PySem.W.Frag} {H : Hp} {v : V} {i : Int} (h : AnyV K H v (.int i)) : v = .int i := by
  cases h
  rfl
theorem k_is_fractionA (D : Lies K mg "is_fraction" s_is_fraction) (T : Plain mg) (G_is_integer : Keeps P w K mg base 1 "is_integer" ["value"] (spAnyB K isInt)) : Keeps P w K mg base 2 "is_fraction" ["value"] (spAnyB K isFr) := by
  refine D.keeps sc_is_fraction (fun _ _ _ _ _ _ us hl => match us, hl with | [_], _ => rfl) (fun vs H Q E h => ?_) (fun f cdv A outer s H vs Q E hr h => ?_)
  · obtain ⟨v, d, rfl, _⟩ := h
    rfl
  · obtain ⟨v, d, rfl, hv, k⟩ := h
    refine ⟨_, (pss_cons (ps_if (PW.pt (pw_or (pt_not (pt_val (pe_callB call_isi (by rfl) T.n_isinstance b_isinstance (pa_cons (pv 0) (pa_cons (pe_bltn (v := .ty "tuple") (by rfl) T.n_tuple b_tuple rfl) pa_nil))))) (pw_or1 (pt_cmpR op_ne (pe_callB call_len_seq (by rfl) T.n_len b_len (pa_cons (pv 0) pa_nil)) pe_int (nomark _)))))
        (pss_one (ps_ret pe_bl))
        pss_nil)
      (pss_cons (ps_asg (pv 0) (pg_tup rfl (pgs_cons (pg_name (i := 1) sc_is_fraction.nd rfl (Or.inl rfl)) (pgs_cons (pg_name (i := 2) sc_is_fraction.nd rfl (Or.inl rfl)) pgs_nil))))
      (pss_cons (ps_if (PW.pt (pw_or (pt_not (pt_val (pe_go G_is_integer (hr.mono (by decide)) rfl (pa_cons (pv 1) pa_nil)))) (pw_or1 (pt_not (pt_val (pe_go G_is_integer (hr.mono (by decide)) rfl (pa_cons (pv 2) pa_nil)))))))
        (pss_one (ps_ret pe_bl))
        pss_nil)
      (pss_one (ps_ret (pe_and (pe_cmpR op_gt (pv 2) pe_int (nomark _)) (pe_one (pe_cmpR op_eq (pe_callBfun cr_gcd rfl T.gcd (pa_cons (pv 1) (pa_cons (pv 2) pa_nil))) pe_int (nomark _))))))))), ?_⟩
    refine ⟨_, rfl, _, _, _, _, _, rfl, .ty _, hv.ty, kit_tup d, _, rfl, ?_⟩
    have k0 := k H (Same.refl _)
    cases hv with
    | tup ht hx =>
      rename_i t xs ds
      refine iteF ⟨_, rfl, t, _, rfl, .inr ht, rfl, _, rfl, ?_⟩
      by_cases hl : xs.length = 2
      · obtain ⟨x, y, a, b, rfl, rfl, ha, hb⟩ := two_of hx hl
        refine pull_false (by rw [show decide (V.int (([x, y].length : Nat) : Int) = V.int 2) = true from decide_eq_true rfl]; rfl) ?_
        refine ⟨_, rfl, t, _, rfl, ht, rfl, _, _, rfl, _, _, rfl, ⟨rfl, ?_⟩⟩
        refine ⟨_, rfl, x, a, rfl, ha, fun H1 s1 => ⟨_, rfl, ?_⟩⟩
        cases ea : isInt a with
        | false =>
          have z := k H1 s1
          rw [fr_left ea] at z
          exact iteT (iteT z)
        | true =>
          obtain ⟨i, rfl⟩ := not_int ea
          obtain rfl := ha.int_at
          refine pull_false rfl ⟨_, rfl, y, b, rfl, hb.same s1, fun H2 s2 => ⟨_, rfl, ?_⟩⟩
          have z := k H2 (s1.trans s2)
          cases eb : isInt b with
          | false =>
            rw [fr_right eb] at z
            exact iteT z
          | true =>
            obtain ⟨j, rfl⟩ := not_int eb
            obtain rfl := hb.int_at
            refine iteF ⟨_, rfl, _, _, rfl, rfl, _, rfl, ?_⟩
            by_cases h0 : 0 < j
            · refine if_true_of' (decide_eq_true h0) ⟨_, rfl, _, rfl, i, j, rfl, rfl, ?_⟩
              have e : decide (V.int ((Nat.gcd i.natAbs j.natAbs : Nat) : Int) = V.int 1) = decide (Int.gcd i j = 1) := by
                refine decide_eq_decide.mpr ⟨fun q => ?_, fun q => ?_⟩
                · have := V.int.inj q
                  show Nat.gcd i.natAbs j.natAbs = 1
                  omega
                · have : Nat.gcd i.natAbs j.natAbs = 1 := q
                  rw [this]
                  rfl
              show Q (.bl (decide (V.int ((Nat.gcd i.natAbs j.natAbs : Nat) : Int) = V.int 1))) H2
              rw [e]
              have q : isFr (.tuple [.int i, .int j]) = decide (Int.gcd i j = 1) := by
                show (decide (0 < j) && decide (Int.gcd i j = 1)) = _
                rw [decide_eq_true h0, Bool.true_and]
              rw [q] at z
              exact z
            · have q : isFr (.tuple [.int i, .int j]) = false := by
                show (decide (0 < j) && decide (Int.gcd i j = 1)) = _
                rw [decide_eq_false h0, Bool.false_and]
              rw [q] at z
              exact pull_false (decide_eq_false h0) z
      · have nl : ds.length ≠ 2 := by rw [← hx.length]; exact hl
        rw [fr_not_two nl] at k0
        refine if_true_of' ?_ k0
        rw [show decide (V.int ((xs.length : Nat) : Int) = V.int 2) = false from decide_eq_false fun q => hl (by have := V.int.inj q; omega)]
        rfl
    | _ => exact iteT k0
theorem fr_is {d : PyData} (h : isFr d = true) : ∃ a b : Int, d = .tuple [.int a, .int b] ∧ 0 < b ∧ Int.gcd a b = 1 := by
  match d, h with
  | .tuple [.int a, .int b], h =>
    have q : (decide (0 < b) && decide (Int.gcd a b = 1)) = true := h
    rw [Bool.and_eq_true] at q
    exact ⟨a, b, rfl, of_decide_eq_true q.1, of_decide_eq_true q.2⟩
theorem size_of_fr {a b : Int} (h0 : 0 < b) (h1 : Int.gcd a b = 1) : isSize (.tuple [.int a, .int b]) = decide (0 < a) := by
  show (decide (0 < b) && decide (Int.gcd a b = 1) && decide (0 < a)) = _
  rw [decide_eq_true h0, decide_eq_true h1]
  rfl
theorem size_no {d : PyData} (h : isFr d = false) : isSize d = false := by
  cases q : isSize d with
  | false => rfl
  | true =>
    match d, q with
    | .tuple [.int a, .int b], q =>
      have q : (decide (0 < b) && decide (Int.gcd a b = 1) && decide (0 < a)) = true := q
      have h : (decide (0 < b) && decide (Int.gcd a b = 1)) = false := h
      rw [h] at q
      cases q
theorem AnyV.two {K : PySem.W.Frag} {H : Hp} {v : V} {a b : Int} (h : AnyV K H v (.tuple [.int a, .int b])) : ∃ t, v = .ref t ∧ SqT K H t [.int a, .int b] := by
  cases h with
  | tup ht hx =>
    obtain ⟨x, y, _, _, rfl, e, ha, hb⟩ := two_of hx (by rw [hx.length]; rfl)
    cases e
    obtain rfl := ha.int_at
    obtain rfl := hb.int_at
    exact ⟨_, rfl, ht⟩
theorem k_is_above_noughtA (D : Lies K mg "is_above_nought" s_is_above_nought) (T : Plain mg) (G_is_fraction : Keeps P w K mg base 2 "is_fraction" ["value"] (spAnyB K isFr)) : Keeps P w K mg base 3 "is_above_nought" ["value"] (spAnyB K isSize) := by
  refine D.keeps sc_is_above_nought (fun _ _ _ _ _ _ us hl => match us, hl with | [_], _ => rfl) (fun vs H Q E h => ?_) (fun f cdv A outer s H vs Q E hr h => ?_)
  · obtain ⟨v, d, rfl, _⟩ := h
    rfl
  · obtain ⟨v, d, rfl, hv, k⟩ := h
    refine ⟨_, (pss_one (ps_ret (pe_and (pe_go G_is_fraction (hr.mono (by decide)) rfl (pa_cons (pv 0) pa_nil)) (pe_one (pe_cmpR op_gt (pe_ix ix_tup (pv 0) pe_int (fun _ _ => rfl)) pe_int (nomark _)))))), ?_⟩
    refine ⟨_, rfl, v, d, rfl, hv, fun H1 s1 => ⟨_, rfl, ?_⟩⟩
    have z := k H1 s1
    cases e : isFr d with
    | false =>
      rw [size_no e] at z
      exact iteF z
    | true =>
      obtain ⟨a, b, rfl, h0, h1⟩ := fr_is e
      obtain ⟨t, rfl, ht⟩ := hv.two
      rw [size_of_fr h0 h1] at z
      exact iteT ⟨_, rfl, t, _, _, _, rfl, rfl, SqT.same s1 ht, rfl, _, _, rfl, rfl, z⟩
abbrev s_l_frac_is : Stmt := top 53
abbrev N_l_frac_is : List Str := ["value", "one"]
theorem sc_l_frac_is : FnScope N_l_frac_is ["value"] (defScope s_l_frac_is) := ⟨rfl, rfl, rfl, by decide +kernel, rfl, by decide +kernel, by decide +kernel⟩
abbrev s_l_frac_is_size : Stmt := top 54
abbrev N_l_frac_is_size : List Str := ["value"]
theorem sc_l_frac_is_size : FnScope N_l_frac_is_size ["value"] (defScope s_l_frac_is_size) := ⟨rfl, rfl, rfl, by decide +kernel, rfl, by decide +kernel, by decide +kernel⟩
theorem k_frac_isA (D : Lies K mg "_law_frac_is" s_l_frac_is) (T : Plain mg) (G_l_frac_common : Keeps P w K mg base 1 "_law_frac_common" ["one", "other"] spCommon) : Keeps P w K mg base 2 "_law_frac_is" ["value"] (spAnyB K isFr) := by
  refine D.keeps sc_l_frac_is (fun _ _ _ _ _ _ us hl => match us, hl with | [_], _ => rfl) (fun vs H Q E h => ?_) (fun f cdv A outer s H vs Q E hr h => ?_)
  · obtain ⟨v, d, rfl, _⟩ := h
    rfl
  · obtain ⟨v, d, rfl, hv, k⟩ := h
    refine ⟨_, (pss_cons (ps_if (PW.pt (pw_or (pt_not (pt_val (pe_callB call_isi (by rfl) T.n_isinstance b_isinstance (pa_cons (pv 0) (pa_cons (pe_bltn (v := .ty "tuple") (by rfl) T.n_tuple b_tuple rfl) pa_nil))))) (pw_or1 (pt_cmpR op_ne (pe_callB call_len_seq (by rfl) T.n_len b_len (pa_cons (pv 0) pa_nil)) pe_int (nomark _)))))
        (pss_one (ps_ret pe_bl))
        pss_nil)
      (pss_cons (ps_if (PW.pt (pw_or (pt_not (pt_val (pe_callB (cr_all rfl) (by rfl) T.n_all b_all (pa_cons (pe_lc (own := [("one", 1)]) (g := gName 1) (tt := tYes) rfl sc_l_frac_is.nd (pi_tup (pv 0)) (blkOk_by (N := N_l_frac_is) (sc := defScope s_l_frac_is) (by decide +kernel)) (fun _ _ _ _ _ => pg_name (i := 1) sc_l_frac_is.nd rfl (Or.inl rfl)) (fun _ _ _ _ _ => pts_nil) (fun _ _ _ _ _ => by exact (pe_and (pe_callB (call_isiL (K := K) rfl) (by rfl) T.n_isinstance b_isinstance (pa_cons (pv 1) (pa_cons (pe_bltn (v := .ty "int") (by rfl) T.n_int b_int rfl) pa_nil))) (pe_one (pe_not (pe_callB (call_isiL (K := K) rfl) (by rfl) T.n_isinstance b_isinstance (pa_cons (pv 1) (pa_cons (pe_bltn (v := .ty "bool") (by rfl) T.n_bool b_bool rfl) pa_nil)))))))) pa_nil)))) (pw_or1 (pt_cmpR op_lt (pe_ix ix_tup (pv 0) pe_int (fun _ _ => rfl)) pe_int (nomark _)))))
        (pss_one (ps_ret pe_bl))
        pss_nil)
      (pss_one (ps_ret (pe_cmpR op_eq (pe_go G_l_frac_common (hr.mono (by decide)) rfl (pa_cons (pe_ix ix_tup (pv 0) pe_int (fun _ _ => rfl)) (pa_cons (pe_ix ix_tup (pv 0) pe_int (fun _ _ => rfl)) pa_nil))) pe_int (nomark _)))))), ?_⟩
    refine ⟨_, rfl, _, _, _, _, _, rfl, .ty _, hv.ty, kit_tup d, _, rfl, ?_⟩
    have k0 := k H (Same.refl _)
    cases hv with
    | tup ht hx =>
      rename_i t xs ds
      refine iteF ⟨_, rfl, t, _, rfl, .inr ht, rfl, _, rfl, ?_⟩
      by_cases hl : xs.length = 2
      · obtain ⟨x, y, a, b, rfl, rfl, ha, hb⟩ := two_of hx hl
        refine pull_false (by rw [show decide (V.int (([x, y].length : Nat) : Int) = V.int 2) = true from decide_eq_true rfl]; rfl) ?_
        refine into_next ?_
        dsimp only
        refine (into_if (into_or (into_not (into_b (into_cb (into_args1 (comp_pureT (f := Ct.isInt) (R := AnyV K H) (R' := fun _ => BoV) (fun R r => ⟨_, rfl, r⟩) ht (any_pair hx) (by show 2 < 1000000; decide) (fun _ _ _ h => h) (fun _ _ _ _ h => h)
          (fun v e H1 Z r he s1 hz => ?_) (fun H1 D acc nD s1 hD hp => ?_))))))))
        · refine ⟨rfl, ?_⟩
          have r1 := r.same s1
          refine ⟨_, rfl, _, _, _, _, _, rfl, .ty _, r1.ty, kit_int e, _, rfl, ?_⟩
          cases e with
          | int i => exact iteT ⟨_, rfl, _, _, _, _, _, rfl, .ty _, r1.ty, kit_bool _, _, rfl, hz _ _ (Same.refl _) rfl⟩
          | bool b => exact iteT ⟨_, rfl, _, _, _, _, _, rfl, .ty _, r1.ty, kit_bool _, _, rfl, hz _ _ (Same.refl _) rfl⟩
          | _ => exact iteF (hz _ _ (Same.refl _) rfl)
        have eA := bos_are hp
        subst eA
        refine ⟨D, _, rfl, SqL.of hD, _, rfl, ?_⟩
        have z := k H1 s1
        have ei : ((List.map isInt [a, b]).all id) = (isInt a && isInt b) := by simp
        rw [ei]
        have h1 := SqT.same s1 ht
        cases ea : isInt a with
        | false =>
          rw [fr_left ea] at z
          exact if_true_of' rfl (iteT z)
        | true =>
          obtain ⟨i, rfl⟩ := not_int ea
          obtain rfl := ha.int_at
          cases eb : isInt b with
          | false =>
            rw [fr_right eb] at z
            exact if_true_of' rfl (iteT z)
          | true =>
            obtain ⟨j, rfl⟩ := not_int eb
            obtain rfl := hb.int_at
            refine pull_false rfl ⟨_, rfl, t, _, _, _, rfl, rfl, h1, rfl, _, _, rfl, rfl, _, rfl, ?_⟩
            by_cases h0 : 0 < j
            · refine pull_false (decide_eq_false (by omega)) ⟨_, rfl, t, _, _, _, rfl, rfl, h1, rfl, _, rfl, t, _, _, _, rfl, rfl, h1, rfl, i, j, rfl, rfl, ?_⟩
              have e : decide (V.int ((Int.gcd i j : Nat) : Int) = V.int 1) = decide (Int.gcd i j = 1) := by
                refine decide_eq_decide.mpr ⟨fun q => ?_, fun q => ?_⟩
                · have := V.int.inj q
                  omega
                · rw [q]
                  rfl
              show Q (.bl (decide (V.int ((Int.gcd i j : Nat) : Int) = V.int 1))) H1
              rw [e]
              have q : isFr (.tuple [.int i, .int j]) = decide (Int.gcd i j = 1) := by
                show (decide (0 < j) && decide (Int.gcd i j = 1)) = _
                rw [decide_eq_true h0, Bool.true_and]
              rw [q] at z
              exact z
            · have q : isFr (.tuple [.int i, .int j]) = false := by
                show (decide (0 < j) && decide (Int.gcd i j = 1)) = _
                rw [decide_eq_false h0, Bool.false_and]
              rw [q] at z
              exact if_true_of' (decide_eq_true (by omega)) z
      · have nl : ds.length ≠ 2 := by rw [← hx.length]; exact hl
        rw [fr_not_two nl] at k0
        refine if_true_of' ?_ k0
        rw [show decide (V.int ((xs.length : Nat) : Int) = V.int 2) = false from decide_eq_false fun q => hl (by have := V.int.inj q; omega)]
        rfl
    | _ => exact iteT k0
theorem k_frac_is_sizeA (D : Lies K mg "_law_frac_is_size" s_l_frac_is_size) (T : Plain mg) (G_l_frac_is : Keeps P w K mg base 2 "_law_frac_is" ["value"] (spAnyB K isFr)) : Keeps P w K mg base 3 "_law_frac_is_size" ["value"] (spAnyB K isSize) := by
  refine D.keeps sc_l_frac_is_size (fun _ _ _ _ _ _ us hl => match us, hl with | [_], _ => rfl) (fun vs H Q E h => ?_) (fun f cdv A outer s H vs Q E hr h => ?_)
  · obtain ⟨v, d, rfl, _⟩ := h
    rfl
  · obtain ⟨v, d, rfl, hv, k⟩ := h
    refine ⟨_, (pss_one (ps_ret (pe_and (pe_go G_l_frac_is (hr.mono (by decide)) rfl (pa_cons (pv 0) pa_nil)) (pe_one (pe_cmpR op_gt (pe_ix ix_tup (pv 0) pe_int (fun _ _ => rfl)) pe_int (nomark _)))))), ?_⟩
    refine ⟨_, rfl, v, d, rfl, hv, fun H1 s1 => ⟨_, rfl, ?_⟩⟩
    have z := k H1 s1
    cases e : isFr d with
    | false =>
      rw [size_no e] at z
      exact iteF z
    | true =>
      obtain ⟨a, b, rfl, h0, h1⟩ := fr_is e
      obtain ⟨t, rfl, ht⟩ := hv.two
      rw [size_of_fr h0 h1] at z
      exact iteT ⟨_, rfl, t, _, _, _, rfl, rfl, SqT.same s1 ht, rfl, _, _, rfl, rfl, z⟩
end
end Ct

/-! Promises of defs that are only called where no repr of a container is under way (the law and what it calls itself), and repr of data. -/
namespace Ct
open PySem PySem.Spec PyProof.Rows L2 TL
structure FnG (P : Program) (w : World) (K : PySem.W.Frag) (mg : Str → Option Value) (base : Heap) (k : Nat) (f : Addr) (fd : FuncData) (ps : List Str) (sp : Sp) : Prop where
  len : ∀ vs H Q E, sp vs H Q E → vs.length = ps.length
  run : ∀ (A : Around) (outer : List Env) (s : Shared) (H : Hp) (args : Args) (us : List Value) (vs : List V) (Q : VK),
    Room k A → A.guards = some [] → Env0 P w K mg base A outer s H → BindsTo s fd args (ps.zip us) → Vals vs us → sp vs H Q E0 →
    codeAny (model P w) A (.call (.ref f) args) (CR CX0 outer P w H s Q E0) s
theorem fnG_of {P : Program} {w : World} {K : PySem.W.Frag} {mg : Str → Option Value} {base : Heap} {x qual : Str} {st : Stmt} {f : Addr} {fd : FuncData} {N ps : List Str} {k : Nat} {sp : Sp}
    (D : Fun K x qual st f fd) (S : FnScope N ps (defScope st)) (len : ∀ vs H Q E, sp vs H Q E → vs.length = ps.length)
    (body : ∀ (cdv : Value) (A : Around) (outer : List Env) (s : Shared) (H : Hp) (vs : List V) (Q : VK), A.guards = some [] → Room k (A.deeper (envOfC qual (defScope st) s.heap.objs.size f cdv)) → sp vs H Q E0 →
      ∃ t, PSs (cxOf CX0 P w K mg base N qual (defScope st) f cdv A outer s H E0).nox (defBody st) t ∧ t { nx := fun _ H' => Q .non H', rt := Q } (start N vs) H) : FnG P w K mg base (k + 1) f fd ps sp := by
  obtain ⟨oc, od, kV, doc, pm, an, cdv, ct, osl, efd, look, code⟩ := D.ex
  subst efd
  refine ⟨len, fun A outer s H args us vs Q room hgd e0 bind rv hsp => ?_⟩
  have many := len _ _ _ _ hsp
  have KX : K.In s.heap := e0.mod.kin.keeps fun b ob e => (e0.bs b ob e).1
  have noLim : s.heap.NoLimit := e0.mod.nolimit.keeps fun b ob e => (e0.bs b ob e).1
  have kinds : ∀ y ∈ ps.zip us, (defScope st).names.lookup y.1 = some .local ∨
      ((defScope st).names.lookup y.1 = some .cell ∧ ((cellsFrom (s.heap.objs.size + 1) (defScope st).names []).lookup y.1).isSome = true) := by
    rintro ⟨n, v⟩ hy
    have z := S.par n (List.of_mem_zip hy).1
    exact z.elim .inl fun c => .inr ⟨c, PySem.W.cellsFrom_some _ _ _ (.inl c)⟩
  refine codeAny_call_function room.depth (KX _ _ look) rfl S.co S.gen rfl (PySem.W.codeRec_of KX code) (bind _ _ _ _ ?_)
  refine wpAny_newFunctionEnv_cells S.kind kinds fun env eenv s1 x1 => ?_
  subst eenv
  refine ⟨noLim.keeps x1.toInCall.keep, codeAny_func ?_⟩
  obtain ⟨t, ht, hq⟩ := body cdv A outer s H vs Q hgd (room.deeper _) hsp
  have I : Inv (cxOf CX0 P w K mg base N qual (defScope st) f cdv A outer s H E0) [] (start N vs) H s1 := inv_start S room.hd e0 many rv x1
  refine wpAny_mono (ht.nox.run [] s1 (start N vs) H _ I hq) (fun fl s2 hs => ?_) fun e s2 hs => hs
  have close : ∀ {σ2 : L2.St} {H2 : Hp} {v : V} {u : Value}, Inv (cxOf CX0 P w K mg base N qual (defScope st) f cdv A outer s H E0) [] σ2 H2 s2 → RelV v u → Q v H2 → CE outer P w H s Q u s2 := by
    intro σ2 H2 v u J r q
    exact ⟨v, H2, J.os, J.bare, J.base, J.hok, r, q⟩
  cases fl with
  | ret u =>
    obtain ⟨v, σ2, H2, J, r, q⟩ := hs
    exact close J r q
  | next =>
    obtain ⟨σ2, H2, J, q⟩ := hs
    exact close (v := V.non) (u := Value.none) J rfl q
  | brk =>
    obtain ⟨_, _, _, z⟩ := hs
    exact z.elim
  | cont =>
    obtain ⟨_, _, _, z⟩ := hs
    exact z.elim
/-- called by its name -/
structure KeepsG (P : Program) (w : World) (K : PySem.W.Frag) (mg : Str → Option Value) (base : Heap) (k : Nat) (x : Str) (ps : List Str) (sp : Sp) : Prop where
  ex : ∃ (f : Addr) (fd : FuncData), FnG P w K mg base k f fd ps sp ∧ mg x = some (.ref f) ∧ PySem.W.keepIn K (.ref f) = true ∧ Binds K fd ps []
section
variable {X : Cx}
theorem pe_goG {k : Nat} {x : Str} {p pos : Pos} {e : Expr} {es : List Expr} {ps : List Str} {sp : Sp} {t : TA} (G : KeepsG X.prog X.w X.K X.mg X.base k x ps sp) (hgd : X.A.guards = some []) (hr : Room k X.A) (hg : Gl X x) (ha : PA X (e :: es) t)
    (hdb : (x == ("__debug__" : Str)) = false := by decide) (he : starEach (e :: es) X.env = (false, eval e X.env) :: starEach es X.env := by rfl) (hpl : (backTo pos (starEach es X.env)).any (·.1) = false := by rfl) :
    PE X (.Call (.Name x p) (e :: es) [] pos) (tCall sp [] E0 t) := by
  obtain ⟨f, fd, F, hm, hk, hb⟩ := G.ex
  refine ⟨fun pins s σ H Q I h => wpAny_Call_Name_kw (ld_glob I hg hm ?_ hdb)⟩
  refine PySem.W.callWith_K (h₀ := X.base) I.ok.mod.kin hk (thn (ha.run pos pins s σ H _ I h) fun us s1 z => ?_) he hpl
  obtain ⟨vs, H1, J, rv, q⟩ := z
  have q : sp (vs ++ []) H1 Q E0 := q
  rw [List.append_nil] at q
  refine ⟨J.kIn, ?_⟩
  have many : us.length = ps.length := by
    rw [← rv.length]
    exact F.len _ _ _ _ q
  have bd := hb s1 us J.kIn (by rw [List.append_nil]; exact many)
  rw [List.append_nil] at bd
  refine wpAny_call (codeAny_mono (F.run X.A X.stack s1 H1 ⟨us, []⟩ us vs Q hr hgd J.env0 bd rv q) fun r s2 hq => ?_)
  cases r with
  | error er => exact False.elim hq
  | ok fl =>
    cases fl with
    | ret u => exact J.after hq
    | next => exact hq.elim
    | brk => exact hq.elim
    | cont => exact hq.elim
end
end Ct

/-! repr of any value. -/
namespace Ct
open PySem PySem.Spec PyProof.Rows L2 TL
mutual
theorem AnyV.dp {K : PySem.W.Frag} {H : Hp} : ∀ {v : V} {d : PyData}, AnyV K H v d → d.hasDict = false → Dp K H v d
  | _, _, .non, _ => .non
  | _, _, .bl b, _ => .bl b
  | _, _, .int i, _ => .int i
  | _, _, .str x, _ => .str x
  | _, _, .lst h r, z => .lst h (AnyAll.dp r (by simpa only [PyData.hasDict] using z))
  | _, _, .tup h r, z => .tup h (AnyAll.dp r (by simpa only [PyData.hasDict] using z))
  | _, _, .dct h r, z => by simp only [PyData.hasDict] at z; cases z
theorem AnyAll.dp {K : PySem.W.Frag} {H : Hp} : ∀ {vs : List V} {ds : List PyData}, AnyAll K H vs ds → PyData.hasDictAll ds = false → DpAll K H vs ds
  | _, _, .nil, _ => .nil
  | _, _, .cons h r, z => by
    have z' : (_ || _) = false := z
    rw [Bool.or_eq_false_iff] at z'
    exact .cons (AnyV.dp h z'.1) (AnyAll.dp r z'.2)
end
/-- what repr can tell here: no dict within but a short one of itself -/
def showB (d : PyData) : Bool := d.showable && decide (d.depth ≤ 20) && decide (d.shown.length ≤ 1000) && (!d.hasDict || (match d with | .dict [] => true | .dict [(.str _, .int _)] => true | _ => false))
theorem empty_vals {K : PySem.W.Frag} {H : Hp} {kvs : List (Key × V)} {ds : List PyData} (h : AnyAll K H (kvs.map (·.2)) ds) (e : (kvs.map fun z => kD z.1).zip ds = []) : kvs = [] := by
  have l := h.length
  rw [List.length_map] at l
  cases kvs with
  | nil => rfl
  | cons z r =>
    cases ds with
    | nil => cases l
    | cons d t => cases e
theorem one_vals {K : PySem.W.Frag} {H : Hp} {kvs : List (Key × V)} {ds : List PyData} {x : Str} {i : Int} (h : AnyAll K H (kvs.map (·.2)) ds) (e : (kvs.map fun z => kD z.1).zip ds = [(.str x, .int i)]) : kvs = [(.inr x, .int i)] := by
  have l := h.length
  rw [List.length_map] at l
  match kvs, ds, h, l, e with
  | [(.inr y, v)], [d], h, _, e =>
    have e : [((PyData.str y), d)] = [(PyData.str x, PyData.int i)] := e
    cases e
    cases h with
    | cons hv _ =>
      obtain rfl := hv.int_at
      rfl
  | [(.inl y, v)], [d], h, _, e =>
    have e : [((PyData.int y), d)] = [(PyData.str x, PyData.int i)] := e
    cases e
  | [], [], h, _, e => cases e
  | _ :: _ :: _, _ :: _ :: _, h, _, e =>
    have := congrArg List.length e
    simp at this
theorem call_reprA {X : Cx} (hgd : X.A.guards = some []) (hr : Room 1 X.A) {K : PySem.W.Frag} (hK : X.K = K) : CallR X (.builtin "repr") fun xs H Q => ∃ (z : V) (d : PyData), xs = [z] ∧ AnyV K H z d ∧ showB d = true ∧ Q (.str d.shown) H := by
  subst hK
  intro pins s σ H xs us Q I r h
  obtain ⟨z, d, rfl, hz, sb, q⟩ := h
  have sb' : (d.showable && decide (d.depth ≤ 20) && decide (d.shown.length ≤ 1000) && _) = true := sb
  rw [Bool.and_eq_true, Bool.and_eq_true, Bool.and_eq_true] at sb'
  obtain ⟨⟨⟨sh, dp⟩, sz⟩, hd⟩ := sb'
  have dp := of_decide_eq_true dp
  have sz : d.shown.length ≤ sizeLine := Nat.le_trans (of_decide_eq_true sz) (by show 1000 ≤ 16777216; decide)
  have un := hr.un
  obtain ⟨u, rfl, rv⟩ := r.one
  have go : ∀ (a : Addr) (as : List Addr), Reads s.heap (.ref a) d as → (d.hasDict = true → sysModules ∉ as) → wpAny (model X.prog X.w) X.A (call (.builtin "repr") [.ref a]) (EP X pins σ Q) X.xe s := fun a as rd ns =>
    repr_of_reads' rd sh ns hgd (by omega) (fun b o e => e) (fun h' u tk keep => ⟨.str d.shown, H, I.kept (t' := tk) keep, ⟨u, rfl⟩, q⟩) sz
  have goD : ∀ a : Addr, RelV (.ref a) u → AnyV X.K H (.ref a) d → d.hasDict = false → wpAny (model X.prog X.w) X.A (call (.builtin "repr") [u]) (EP X pins σ Q) X.xe s := fun a ra ha nd => by
    obtain ⟨as, rd⟩ := Dp.reads I d _ _ (ha.dp nd) ra
    cases ra
    exact go a as rd fun z => by rw [nd] at z; cases z
  cases hz with
  | non => cases (show u = Value.none from rv); exact PySem.P.repr_of_none ⟨.str _, H, I.tok _, ⟨_, rfl⟩, q⟩
  | bl b => cases (show u = Value.bool b from rv); exact PySem.P.repr_of_bool ⟨.str _, H, I.tok _, ⟨_, rfl⟩, q⟩
  | int i =>
    obtain ⟨t, e⟩ := (show ∃ t, u = Value.int i t from rv)
    cases e
    have z : i.natAbs.log2 < 1920 := of_decide_eq_true sh
    exact PySem.P.repr_of_int z ⟨.str _, H, I.tok _, ⟨_, rfl⟩, q⟩
  | str x =>
    obtain ⟨t, e⟩ := (show ∃ t, u = Value.str x t from rv)
    cases e
    exact PySem.P.repr_of_str ⟨.str _, H, I.tok _, ⟨_, rfl⟩, q⟩ sz
  | @lst a xs ds h1 h2 =>
    refine goD a rv (.lst h1 h2) ?_
    rw [Bool.or_eq_true] at hd
    rcases hd with hd | hd
    · simpa using hd
    · cases hd
  | @tup a xs ds h1 h2 =>
    refine goD a rv (.tup h1 h2) ?_
    rw [Bool.or_eq_true] at hd
    rcases hd with hd | hd
    · simpa using hd
    · cases hd
  | @dct a kvs ds h1 h2 =>
    cases (show u = Value.ref a from rv)
    obtain ⟨_, hs, vs, rel, dd⟩ := dk_of I.hok h1
    obtain ⟨o, es, ep, ho, ex, hdt, _, pr, _⟩ := dd
    have nS : a ≠ sysModules := by simpa using hs
    have hd' : (match (PyData.dict ((kvs.map fun z => kD z.1).zip ds)) with | .dict [] => true | .dict [(.str _, .int _)] => true | _ => false) = true := by
      rw [Bool.or_eq_true] at hd
      rcases hd with hd | hd
      · simp [PyData.hasDict] at hd
      · exact hd
    have two : (kvs.map fun z => kD z.1).zip ds = [] ∨ ∃ x i, (kvs.map fun z => kD z.1).zip ds = [(PyData.str x, PyData.int i)] := by
      generalize (kvs.map fun z => kD z.1).zip ds = l at hd'
      split at hd'
      · rename_i e
        cases e
        exact .inl rfl
      · rename_i e
        cases e
        exact .inr ⟨_, _, rfl⟩
      · cases hd'
    rcases two with hm | ⟨x, i, hm⟩
    · have ek := empty_vals h2 hm
      subst ek
      cases rel
      have : es.toList = [] := by cases hq : es.toList with | nil => rfl | cons e r => rw [hq] at pr; cases pr
      refine go a [a] (by rw [hm]; exact .dict (as := []) (bs := []) ho ex.1 hdt (by rw [this]; exact .nil) (by rw [this]; exact .nil)) fun _ hm => ?_
      simp only [List.mem_singleton] at hm
      exact nS hm.symm
    · have ek := one_vals h2 hm
      subst ek
      cases rel with
      | @cons _ q0 _ qs r1 r2 =>
        cases r2
        obtain ⟨k0, w0⟩ := q0
        obtain ⟨k1, k2⟩ := r1
        have k1 : (Sum.inr x : Key) = k0 := k1
        subst k1
        obtain ⟨t, ew⟩ := (show ∃ t, w0 = Value.int i t from k2)
        subst ew
        have one : ∃ e0 : DictEntry, es.toList = [e0] ∧ (mixKind X.prog X.w).is (.inr x) e0.key = true ∧ e0.val = .int i t := by
          generalize es.toList = l at pr
          cases pr with
          | cons p1 p2 p3 =>
            cases p3
            exact ⟨_, rfl, p1, p2⟩
        obtain ⟨e0, el, p1, p2⟩ := one
        rcases keyIs_shape (show keyIs (.inr x) e0.key = true from p1) with ⟨j, t2, e1, _⟩ | ⟨y, t2, e1, e2⟩
        · cases e1
        · cases e1
          refine go a [a] ?_ fun _ hm => ?_
          · rw [hm]
            exact .dict (as := []) (bs := []) ho ex.1 hdt (by rw [el]; show ReadsAll s.heap [e0.key] [.str x] []; rw [e2]; exact .cons (as := []) (bs := []) (.str x t2) .nil) (by rw [el]; show ReadsAll s.heap [e0.val] [.int i] []; rw [p2]; exact .cons (as := []) (bs := []) (.int i t) .nil)
          · simp only [List.mem_singleton] at hm
            exact nS hm.symm
end Ct

/-! d.update(of another dict) -/
namespace Ct
open PySem PySem.Spec PyProof.Rows L2 TL
def rUpd : V → List V → Hp → VK → Prop := fun x xs H Q => ∃ (a b : Addr) (kvs more : List (Key × V)), x = .ref a ∧ xs = [.ref b] ∧ H a = some (.dK kvs) ∧ H b = some (.dK more) ∧ a ≠ b ∧ kvs.length + more.length ≤ 1000000 ∧ Q .non (upd H a (.dK (mergeK kvs more)))
theorem mt_update {X : Cx} : MtM X "dict.update" rUpd := by
  intro pins s σ H x xs v us Q I rx rxs h
  obtain ⟨a, b, kvs, more, rfl, rfl, ha, hb, ne, few, q⟩ := h
  cases rx
  obtain ⟨u, rfl, ru⟩ := rxs.one
  cases ru
  obtain ⟨z1, h1, vs1, r1, d1⟩ := dk_of I.hok ha
  obtain ⟨z2, h2, vs2, r2, d2⟩ := dk_of I.hok hb
  refine call_meetsIn PySem.F.slot_dict_update d1.typeIs PySem.F.entry_dict_update (PySem.F.args_dict_update_2 _ _) (meets_dict_update (mixKind X.prog X.w) a b ne h2) ⟨vs1, vs2, d1, d2, by rw [← Paired.length r1, ← Paired.length r2]; show _ ≤ 16777216; omega, fun h' dd' _ hs => ?_⟩
  have hz : (mergeK kvs more).length ≤ sizeLine := by
    have := length_mergeK more kvs
    show _ ≤ 16777216
    omega
  have he : ∃ q, h'.get? a = some q := let ⟨q, _, _, hq, _⟩ := dd'; ⟨q, hq⟩
  exact ⟨.non, _, d_write I (by rw [ha]; exact True.intro) hs he (dk_new hz h1 (r2.merge r1) dd'), rfl, q⟩
theorem pt_truthK {X : Cx} {K : PySem.W.Frag} {a : Expr} {ta : TE} (hK : X.K = K) (ha : PE X a ta) (he : ∀ whole, isTrue a X.env whole = (do let v ← whole; standAt a.pos; holding [v] (truthy v))) :
    PT X a (fun σ H Q => ta σ H fun x H' => ∃ k, TruV K x H' k ∧ Q k H') := by
  subst hK
  exact pt_truth ha he
end Ct

/-! An error that is caught and kept beyond its except suite. -/
namespace Ct
open PySem PySem.Spec PyProof.Rows L2 TL
/-- an error of the class C with its dict at d, kept at a -/
def ErrO (C : Value) (d : Option Addr) (a : Addr) : HO := .ext fun h => ∃ (oe : Obj) (vs : Array Value), h.get? a = some oe ∧ Zc C d oe ∧ oe.data = .fields vs
theorem errO_ok {P : Program} {w : World} {H : Hp} {h : Heap} {a : Addr} {C : Value} {d : Option Addr} {oe : Obj} {vs : Array Value} (e : h.get? a = some oe) (z : Zc C d oe) (hd : oe.data = .fields vs) : ObjOk P w H h a (ErrO C d a) :=
  ⟨⟨oe, vs, e, z, hd⟩, ⟨oe, e⟩, fun _ _ ⟨o, v, q, r⟩ k => ⟨o, v, k o q, r⟩⟩
section
variable {X : Cx} {pins : List (Addr × Obj)} {σ : L2.St} {H : Hp} {s : Shared}
/-- an object of ours that nobody tracks is tracked from now on -/
theorem track {a : Addr} {o : HO} {oe : Obj} (I : Inv X pins σ H s) (ha : s.heap.get? a = some oe) (hd : ∀ v, oe.data ≠ .cell v) (nL : a ≠ X.env.locals) (na : H a = none) (n0 : X.s_0.heap.get? a = none)
    (np : ∀ p ∈ X.pn ++ pins, p.1 ≠ a) (ok : ObjOk X.prog X.w (upd H a o) s.heap a o) : Inv X pins σ (upd H a o) s := by
  refine ⟨I.ok, I.os, I.bare, ⟨I.base.keep, I.base.slot, fun b ob e n hx => ?_, I.base.there, fun b xs e => ?_, fun b ob u e => ?_, fun b ps e => ?_⟩, I.loc, I.cell, ?_, fun y c e => ?_, fun p hp => ?_, fun b u e => ?_, I.len⟩
  · rw [upd_ne (fun z => by rw [z, n0] at e; cases e)]
    exact I.base.free b ob e n hx
  · have q := I.base.tups b xs e
    rw [upd_ne (ne_of_none q na)]
    exact q
  · have q := I.base.frzs b ob u e
    rw [upd_ne (ne_of_none q na)]
    exact q
  · obtain ⟨m, q⟩ := I.base.tbls b ps e
    exact ⟨m, by rw [upd_ne (ne_of_none q na)]; exact q⟩
  · rw [upd_ne (Ne.symm nL)]
    exact I.free
  · obtain ⟨v, o', ho, hd'⟩ := I.cell y c e
    rw [upd_ne (fun z => by rw [z, ha] at ho; cases ho; exact hd _ hd')]
    exact I.freeC y c e
  · obtain ⟨e, n, r⟩ := I.pin p hp
    exact ⟨e, by rw [upd_ne (np p hp)]; exact n, r⟩
  · by_cases hb : b = a
    · subst hb
      rw [upd_same] at e
      cases e
      exact ok
    · rw [upd_ne hb] at e
      exact (I.hok b u e).stay (fun c v _ q => q) (fun c q => by rw [upd_ne (ne_of_none q na)]; exact q) fun c xs q => by rw [upd_ne (ne_of_none q na)]; exact q
end
/-- what 'except x as n' wishes where the error is kept: slot i is n's -/
def wKeep (K : PySem.W.Frag) (c : Value) (i : Nat) (ts : Addr → Value → Option Addr → TS) (Wout : WX) (D : Ends) : WX := fun cls d σ H =>
  ∃ b, PySem.W.exmOne K cls c = some b ∧ (b = true → ∀ a, H a = none → ts a cls d { nx := fun σ' H' => D.nx (σ'.set i none) (upd H' a (ErrO cls d a)), rt := fun v H' => D.rt v (upd H' a (ErrO cls d a)), bk := fun σ' H' => D.bk (σ'.set i none) (upd H' a (ErrO cls d a)), ct := fun σ' H' => D.ct (σ'.set i none) (upd H' a (ErrO cls d a)) } (σ.set i (some (.ref a))) H) ∧
    (b = false → Wout cls d σ H)
section
variable {X : Cx} {x n : Str} {c : Value} {i : Nat} {body suite : List Stmt} {b₀ : Stmt} {np pos pos' : Pos} {tb : WX → TS} {ts : Addr → Value → Option Addr → TS} {Wout : WX}
theorem ps_try_keep (hs : X.stack = X.env :: X.outer) (hf : X.env.frame = some X.env.locals) (hex : X.ex = []) (hN : X.N.Nodup) (hi : X.N[i]? = some n) (hln : X.env.kindOf n = some .local) (hc : Names X x c) (tk : Takes X Wout)
    (hb : ∀ (W : WX) (pn : List (Addr × Obj)) (xe : Value → Shared → Prop), Takes (X.tr pn xe) W → PassesOwn (model X.prog X.w) X.A X.env xe → PSs (X.tr pn xe) body (tb W))
    (hsu : ∀ (a : Addr) (oe : Obj) (cls : Value) (d : Option Addr) (pn : List (Addr × Obj)), Zc cls d oe → (∃ vs, oe.data = .fields vs) → PSs (X.suite a ((a, oe) :: pn)) (b₀ :: suite) (ts a cls d)) :
    PS X (.Try body [.ExceptHandler (some (.Name x np)) (some n) (b₀ :: suite) pos'] [] [] pos) (fun D σ H => tb (wKeep X.K c i ts Wout D) D σ H) := by
  refine ⟨fun pins s σ H D I h => ?_⟩
  have ok := I.ok
  have hfr : X.A.frames = some (X.env :: X.outer) := by rw [ok.frames, hs]
  have hloc : Loc X.env.scope n := .inl hln
  refine wpAny_Try_except ?_
  refine wpAny_mono ((hb (wKeep X.K c i ts Wout D) (X.pn ++ pins) (fun e s₁ => wpAny (model X.prog X.w) X.A (noteFrame e X.env) (fun _ s₂ => wpAny (model X.prog X.w) X.A (setFlight e none) (fun _ s₃ =>
    wpAny (model X.prog X.w) X.A (handleBy e X.env [.ExceptHandler (some (.Name x np)) (some n) (b₀ :: suite) pos']) (SP X pins D) X.xe s₃) X.xe s₂) X.xe s₁) (fun u s' xx => ?_) PassesOwn.looking).run [] s σ H D (I.toTry _) h) (fun f s1 hsp => ?_) (fun e s1 he => he)
  · obtain ⟨a, B, sI, pins', σ', H', cls, d, rfl, J', nb, up, sky, na, os, ag, b, hb1, hyes, hno⟩ := xx
    have J : Inv X pins σ' H' sI := J'.ofTry ok
    have sky' : Sky B (X.env :: X.outer) a (Zc cls d) X.env.locals s'.heap := by rw [← hs]; exact sky
    show wpAny (model X.prog X.w) X.A (noteFrame (.ref a) X.env) _ _ _
    refine Sky.land Zc.steady hfr hf sky' fun h3 fl3 up3 => ?_
    have J3 : Inv X pins σ' H' { s' with heap := h3 } := J.landed nb fl3.1 (up.trans up3) os ag
    obtain ⟨oe3, vs3, he3, hz3, hd3⟩ := fl3.there
    have notFr : ∀ {h : Heap} {o : Obj} {vs : Array Value}, h.FunFrames B (X.env :: X.outer) → h.get? a = some o → o.data = .fields vs → a ∉ frs (X.env :: X.outer) := fun {h o vs} ff e dd hm => by
      obtain ⟨_, o', e', hnf⟩ := ff.mem hm
      rw [e] at e'; cases e'
      exact hnf _ dd
    have nfr := notFr fl3.2.2.1 he3 hd3
    have nL : a ≠ X.env.locals := fun z => nfr (List.mem_filterMap.mpr ⟨X.env, List.mem_cons_self, by rw [hf, z]⟩)
    have nF : a ∉ X.fs := fun hm => by
      obtain ⟨e, he, q⟩ := List.mem_filterMap.mp hm
      exact nfr (List.mem_filterMap.mpr ⟨e, List.mem_cons_of_mem _ he, q⟩)
    -- the error is new to the def and no pin stands there
    have inB : ∀ b o, sI.heap.get? b = some o → b ∉ frs (X.env :: X.outer) → b ≠ a := fun b o e hb z => by
      have q := nb b o e (by rw [hs]; exact hb)
      rw [z, fl3.2.1] at q
      cases q
    have n0 : X.s_0.heap.get? a = none := by
      cases e : X.s_0.heap.get? a with
      | none => rfl
      | some o =>
        obtain ⟨o', e'⟩ := J.base.there a o e (by rw [hex]; exact fun z => nomatch z)
        exact absurd rfl (inB a o' e' nfr)
    have npn : ∀ p ∈ X.pn ++ pins, p.1 ≠ a := fun p hp => by
      obtain ⟨e, _, ne, nf, _⟩ := J.pin p hp
      refine inB p.1 p.2 e fun hm => ?_
      obtain ⟨v, hv, q⟩ := List.mem_filterMap.mp hm
      rcases List.mem_cons.mp hv with z | z
      · rw [z, hf] at q
        exact ne (Option.some.inj q).symm
      · exact nf (List.mem_filterMap.mpr ⟨v, z, q⟩)
    have S3 := J3.suite he3 hd3 na nL nF
    refine wpAny_handleBy_cons (codeAny_handlers_test ?_) (by intro q; cases q)
    have LT : PySem.W.Looks (model X.prog X.w) h3 (typeOf (.ref a)) cls := fun A Q E s k q => wpAny_typeOf_ref (k _ _ he3) (by rw [hz3.1]; exact q)
    have LM := PySem.W.exm_one (M := model X.prog X.w) (J3.kIn) LT hb1
    have test : ∀ {Q : Value → Shared → Prop} {E : Value → Shared → Prop}, Q c { s' with heap := h3 } → wpAny (model X.prog X.w) (X.A.mark (some (.ref a))) (eval (.Name x np) X.env) Q E { s' with heap := h3 } := fun {Q E} q => by
      obtain ⟨hg, hdbg, hm | ⟨hm, hv, hnn⟩⟩ := hc
      · exact ld_glob (X := X.suite a ((a, oe3) :: (X.pn ++ pins))) S3 hg hm q hdbg
      · exact ld_blt (X := X.suite a ((a, oe3) :: (X.pn ++ pins))) S3 hg hm hv q hnn hdbg
    refine test (LM.here ?_)
    cases b with
    | true =>
      refine codeAny_handlers_suite_as ?_
      refine HandSPX.lands_againZ fl3 fun h4 fl4 up4 => ?_
      have J4 : Inv X pins σ' H' { s' with heap := h4 } := J.landed nb fl4.1 ((up.trans up3).trans up4) os ag
      obtain ⟨oe4, vs4, he4, hz4, hd4⟩ := fl4.there
      have S4 := J4.suite he4 hd4 na nL nF
      refine store_ok (X := X.suite a ((a, oe4) :: (X.pn ++ pins))) (v := .ref a) S4 hN hi hloc rfl (fun s5 S5 => ?_) (.inr hln)
      refine wpAny_mono ((hsu a oe4 cls d (X.pn ++ pins) hz4 ⟨_, hd4⟩).run [] s5 _ H' _ S5 (hyes rfl a na)) (fun f s6 hsp => ?_) (fun _ _ z => False.elim z)
      have end_ : ∀ {σ6 : L2.St} {H6 : Hp} {Q : Shared → Prop}, Inv (X.suite a ((a, oe4) :: (X.pn ++ pins))) [] σ6 H6 s6 → (∀ s7, Inv X pins (σ6.set i none) (upd H6 a (ErrO cls d a)) s7 → Q s7) →
          wpAny (model X.prog X.w) X.A (do bindName X.env n .none; unbindBehindTheSuite X.env n pos') (fun _ s7 => Q s7) X.xe s6 := fun {σ6 H6 Q} S6 hq => by
        have S6' : Inv X ((a, oe4) :: pins) σ6 H6 s6 := (S6.unsuite ok).pins_of fun p hp => by
          refine S6.pin p ?_
          rcases List.mem_cons.mp hp with z | z
          · rw [z]
            exact List.mem_append_left _ List.mem_cons_self
          · exact List.mem_append_left _ (List.mem_cons_of_mem _ (List.mem_append_right _ z))
        refine gone_ok S6' hN hi hln fun s7 J7 => ?_
        obtain ⟨e7, n7, _, _, d7⟩ := J7.pin (a, oe4) (List.mem_append_right _ List.mem_cons_self)
        have J8 : Inv X pins (σ6.set i none) H6 s7 := J7.pins_of fun p hp => J7.pin p (List.mem_append_right _ (List.mem_cons_of_mem _ hp))
        exact hq s7 (track J8 e7 d7 nL n7 n0 npn (errO_ok e7 hz4 hd4))
      cases f with
      | next =>
        obtain ⟨σ6, H6, S6, q6⟩ := hsp
        exact end_ S6 fun s7 J7 => ⟨_, _, J7, q6⟩
      | brk =>
        obtain ⟨σ6, H6, S6, q6⟩ := hsp
        exact end_ S6 fun s7 J7 => ⟨_, _, J7, q6⟩
      | cont =>
        obtain ⟨σ6, H6, S6, q6⟩ := hsp
        exact end_ S6 fun s7 J7 => ⟨_, _, J7, q6⟩
      | ret u =>
        obtain ⟨v6, σ6, H6, S6, r6, q6⟩ := hsp
        exact end_ S6 fun s7 J7 => ⟨_, _, _, J7, r6, q6⟩
    | false =>
      show wpAny _ X.A (handleBy (.ref a) X.env []) _ _ _
      refine wpAny_handleBy_nil ?_
      obtain ⟨k1, k2, k3, oe, vs, T, oT, ts', he, hz, hd, h1, hr⟩ := id fl3
      unfold PySem.passOn
      refine wpAny_bind (wpAny_field he hd h1 ?_)
      rw [if_neg (show ¬ ((Value.ref T == Value.none) = true) from by simp)]
      have fin : wpAny (model X.prog X.w) X.A (setFlight (.ref a) X.env.frame) (fun _ s4 => wpAny (model X.prog X.w) X.A (throw (.ref a) : Sem Flow) (SP X pins D) X.xe s4) X.xe { s' with heap := h3 } := by
        rw [hf]
        refine HandSPX.setFlight_upZ fl3 fun h4 hh4 up4 => wpAny_throw (tk _ _ ?_)
        exact ⟨a, B, sI, pins, σ', H', cls, d, rfl, J, nb, (up.trans up3).trans up4, .inr (.inr (by rw [hs]; exact hh4)), na, os, ag, hno rfl⟩
      first
        | exact wpAny_bind (wpAny_pure (wpAny_bind fin))
        | exact wpAny_bind fin
  · cases f with
    | next =>
      obtain ⟨σ', H', J', q⟩ := hsp
      exact wpAny_execs_nil ⟨σ', H', J'.ofTry ok, q⟩
    | brk =>
      obtain ⟨σ', H', J', q⟩ := hsp
      exact ⟨σ', H', J'.ofTry ok, q⟩
    | cont =>
      obtain ⟨σ', H', J', q⟩ := hsp
      exact ⟨σ', H', J'.ofTry ok, q⟩
    | ret u =>
      obtain ⟨v, σ', H', J', r, q⟩ := hsp
      exact ⟨v, σ', H', J'.ofTry ok, r, q⟩
end
/-! ### a kept error asked -/
section
variable {X : Cx} {pins : List (Addr × Obj)} {σ : L2.St} {H : Hp} {s : Shared}
theorem err_at {a : Addr} {C : Value} {d : Option Addr} (I : Inv X pins σ H s) (e : H a = some (ErrO C d a)) : ∃ (oe : Obj) (vs : Array Value), s.heap.get? a = some oe ∧ Zc C d oe ∧ oe.data = .fields vs := by
  have x : ObjOk X.prog X.w H s.heap a (.ext fun h => ∃ (oe : Obj) (vs : Array Value), h.get? a = some oe ∧ Zc C d oe ∧ oe.data = .fields vs) := I.hok a _ e
  exact x.1
theorem err_inst {a D dd : Addr} {fs : List (Str × V)} (I : Inv X pins σ H s) (e : H a = some (ErrO (.ref D) (some dd) a)) (ed : H dd = some (.xd fs)) :
    ∃ (oe od : Obj) (mA : Str → Option Value), PySem.W.InstAt s.heap a oe D (some od) ∧ (∀ f, RelO (fs.lookup f) (mA f)) ∧ ∀ f, PySem.W.lookIn f od = some (mA f) := by
  obtain ⟨oe, vs, ha, hz, hd⟩ := err_at I e
  have hx : ObjOk X.prog X.w H s.heap dd (.xd fs) := I.hok dd _ ed
  obtain ⟨mA, hns, hr⟩ := hx
  obtain ⟨od, ho, hl⟩ := lookIn_ns hns
  exact ⟨oe, od, mA, ⟨ha, hz.1, by unfold PySem.W.notCls; rw [hd] <;> rfl, by rw [hz.2]; exact ho⟩, hr, hl⟩
/-- isinstance(e, c), e a kept error -/
def rIsKept (K : PySem.W.Frag) : List V → Hp → VK → Prop := fun xs H Q => ∃ (a D dd : Addr) (fs : List (Str × V)) (c : V) (cv : Value) (b : Bool), xs = [.ref a, c] ∧ H a = some (ErrO (.ref D) (some dd) a) ∧ H dd = some (.xd fs) ∧ ExcC K D ∧ ClsV c cv ∧ PySem.W.kitOne K (.ref D) cv = some b ∧ Q (.bl b) H
/-- isinstance of a kept error, or of any other value -/
def rIsErr (K : PySem.W.Frag) : List V → Hp → VK → Prop := fun xs H Q => rIsKept K xs H Q ∨ rIsi K xs H Q
theorem call_isKept : CallR X (.builtin "isinstance") (rIsKept X.K) := by
  intro pins s σ H xs us Q I r h
  obtain ⟨a, D, dd, fs, c, cv, b, rfl, ea, ed, C, k, e, q⟩ := h
  obtain ⟨u1, u2, rfl, r1, r2⟩ := vals2 r
  have e2 := k.eq r2
  subst e2
  cases r1
  obtain ⟨oe, od, mA, J, _, _⟩ := err_inst I ea ed
  have hcl : (PySem.W.clsIn X.K D).isSome = true := by
    obtain ⟨cd, hc, _⟩ := PySem.W.any_some C.hd
    rw [hc]
    rfl
  exact PySem.W.kia_one (PySem.W.kitx_exc hcl C.hg C.hk C.hs C.ha C.hn C.ht C.hm) I.kIn J e (fun z => nomatch z) fun tk => ⟨.bl b, H, I.tok tk, rfl, q⟩
theorem call_isErr {K : PySem.W.Frag} (hK : X.K = K) : CallR X (.builtin "isinstance") (rIsErr K) := by
  subst hK
  intro pins s σ H xs us Q I r h
  rcases h with h | h
  · exact call_isKept pins s σ H xs us Q I r h
  · exact call_isi pins s σ H xs us Q I r h
/-- e.f of a kept error -/
def tKept (K : PySem.W.Frag) (f : Str) (te : TE) : TE := fun σ H Q => te σ H fun x H1 => ∃ (a D dd : Addr) (fs : List (Str × V)) (v : V), x = .ref a ∧ H1 a = some (ErrO (.ref D) (some dd) a) ∧ H1 dd = some (.xd fs) ∧ XfC K D ∧ PySem.W.findIn K (.ref D) f = some none ∧ fs.lookup f = some v ∧ Q v H1
theorem pe_kept {e : Expr} {te : TE} {pos : Pos} {n : Str} (he : PE X e te) (hb : attributeBase e n X.env (eval e X.env) = eval e X.env := by rfl) : PE X (.Attribute e n pos) (tKept X.K n te) := by
  refine ⟨fun pins s σ H Q I h => ?_⟩
  refine attr_of hb (thn (he.run pins s σ H _ I h) fun u s1 hh => ?_)
  obtain ⟨x, H1, I1, rx, a, D, dd, fs, v, ex, ea, ed, T, hno, l, q⟩ := hh
  subst ex
  obtain rfl : u = Value.ref a := rx
  obtain ⟨oe, od, mA, J, hr, hl⟩ := err_inst I1 ea ed
  obtain ⟨u, hu, ru⟩ := RelO.some_of (v := v) (o := mA n) (by rw [← l]; exact hr n)
  exact HandSPX.exc_get I1.kIn J T.ga T.gg T.exC (PySem.W.findObj_own T.hdC hno rfl (by rw [hl, hu])) (handed_of ru) ⟨v, H1, I1.tok _, ru, q⟩
end
end Ct

/-! Lambdas without parameters handed to defs, from one def to the next. -/
namespace Ct
open PySem PySem.Spec PyProof.Rows L2 TL
/-- lf may be called without arguments in every state behind (s0, H0); it does what tl says -/
structure LamH (P : Program) (w : World) (K : PySem.W.Frag) (mg : Str → Option Value) (base : Heap) (j : Nat) (fs0 : List Addr) (s0 : Shared) (H0 : Hp) (lf : Addr) (tl : XK → Hp → VK → Prop) : Prop where
  obj : PySem.W.FnAt lf s0.heap
  free : H0 lf = none
  nfr : lf ∉ fs0
  run : ∀ (A : Around) (outer : List Env) (s : Shared) (H : Hp) (Q : VK) (E : XK), Room j A → Env0 P w K mg base A outer s H → (∃ fs, lf ∉ fs ∧ Un fs [] H0 H s0.heap s.heap) → tl E H Q →
    codeAny (model P w) A (.call (.ref lf) ⟨[], []⟩) (CR (L2.CX P w) outer P w H s Q E) s
section
variable {P : Program} {w : World} {K : PySem.W.Frag} {mg : Str → Option Value} {base : Heap} {j : Nat} {fs0 fs fs1 : List Addr} {s0 s : Shared} {H0 H : Hp} {lf : Addr} {tl : XK → Hp → VK → Prop}
theorem LamH.at_ (L : LamH P w K mg base j fs0 s0 H0 lf tl) (u : Un fs [] H0 H s0.heap s.heap) (h : lf ∉ fs) : PySem.W.FnAt lf s.heap ∧ H lf = none := by
  obtain ⟨oc, od, fd, sl, e⟩ := L.obj
  exact ⟨⟨oc, od, fd, sl, u.keep _ _ e L.free h (fun z => nomatch z)⟩, u.free _ _ e L.free (fun z => nomatch z)⟩
theorem LamH.on (L : LamH P w K mg base j fs0 s0 H0 lf tl) (u : Un fs [] H0 H s0.heap s.heap) (h : lf ∉ fs) (h1 : lf ∉ fs1) : LamH P w K mg base j fs1 s H lf tl where
  obj := (L.at_ u h).1
  free := (L.at_ u h).2
  nfr := h1
  run := fun A outer s2 H2 Q E r e ⟨fs2, n2, u2⟩ t => L.run A outer s2 H2 Q E r e
    ⟨fs ++ fs2, fun z => (List.mem_append.mp z).elim h n2, (u.mono (fun b hb => List.mem_append_left _ hb) (fun _ hb => hb)).trans (u2.mono (fun b hb => List.mem_append_right _ hb) (fun _ hb => hb))⟩ t
end
/-- what may be wished more weakly -/
def tlClo (tl : XK → Hp → VK → Prop) : XK → Hp → VK → Prop := fun E H Q => ∃ (E0 : XK) (Q0 : VK), tl E0 H Q0 ∧ (∀ c d H', E0 c d H' → E c d H') ∧ ∀ v H', Q0 v H' → Q v H'
theorem cx_mono {P : Program} {w : World} {outer : List Env} {H : Hp} {s : Shared} {E E' : XK} {u : Value} {s' : Shared} (h : ∀ c d H', E c d H' → E' c d H') (x : L2.CX P w outer H s E u s') : L2.CX P w outer H s E' u s' := by
  obtain ⟨a, B, H', cls, d, e1, e2, e3, e4, e5, e6, e7, e8⟩ := x
  exact ⟨a, B, H', cls, d, e1, e2, e3, e4, e5, e6, e7, h _ _ _ e8⟩
theorem LamH.clo {P : Program} {w : World} {K : PySem.W.Frag} {mg : Str → Option Value} {base : Heap} {j : Nat} {fs0 : List Addr} {s0 : Shared} {H0 : Hp} {lf : Addr} {tl : XK → Hp → VK → Prop} (L : LamH P w K mg base j fs0 s0 H0 lf tl) : LamH P w K mg base j fs0 s0 H0 lf (tlClo tl) :=
  ⟨L.obj, L.free, L.nfr, fun A outer s H Q E r e u ⟨E0, Q0, t, hE, hQ⟩ => codeAny_mono (L.run A outer s H Q0 E0 r e u t) fun r s' hq => by
    cases r with
    | error er => exact cx_mono hE hq
    | ok fl =>
      cases fl with
      | ret u =>
        obtain ⟨v, H', a, b, c, d, e, q⟩ := hq
        exact ⟨v, H', a, b, c, d, e, hQ _ _ q⟩
      | next => exact hq
      | brk => exact hq
      | cont => exact hq⟩
/-- what a def does that is given such a thing -/
abbrev TL1 := (XK → Hp → VK → Prop) → Addr → List V → Hp → VK → Prop
structure GivesL (P : Program) (w : World) (K : PySem.W.Frag) (mg : Str → Option Value) (base : Heap) (gd : Bool) (j k : Nat) (x : Str) (ps : List Str) (TT : TL1) : Prop where
  ex : ∃ (f : Addr) (fd : FuncData), mg x = some (.ref f) ∧ PySem.W.keepIn K (.ref f) = true ∧ Binds K fd ps [] ∧ (∀ tl lf vs H Q, TT tl lf vs H Q → vs.length = ps.length) ∧
    ∀ (A : Around) (outer : List Env) (s : Shared) (H : Hp) (args : Args) (us : List Value) (lf : Addr) (vs : List V) (Q : VK) (tl : XK → Hp → VK → Prop), Room k A → (gd = true → A.guards = some []) → Env0 P w K mg base A outer s H → LamH P w K mg base j (frs outer) s H lf tl →
      BindsTo s fd args (ps.zip us) → Vals vs us → TT tl lf vs H Q → codeAny (model P w) A (.call (.ref f) args) (CR CX0 outer P w H s Q E0) s
section
variable {P : Program} {w : World} {K : PySem.W.Frag} {mg : Str → Option Value} {base : Heap}
theorem Lies.givesL {gd : Bool} {j k : Nat} {x : Str} {st : Stmt} {N ps : List Str} {TT : TL1} (D : Lies K mg x st) (S : FnScope N ps (defScope st))
    (hb : ∀ (kV doc pm : Value) (an : Option Addr) (cdv ct : Value) (us : List Value), us.length = ps.length → bindArgs (PySem.W.fnOf x x (defArgs st) (defBody st) (defScope st) .none kV doc pm an cdv ct) ⟨us, []⟩ = pure (ps.zip us))
    (len : ∀ tl lf vs H Q, TT tl lf vs H Q → vs.length = ps.length)
    (body : ∀ (f : Addr) (cdv : Value) (A : Around) (outer : List Env) (s : Shared) (H : Hp) (lf : Addr) (vs : List V) (Q : VK) (tl : XK → Hp → VK → Prop), (gd = true → A.guards = some []) → Room k (A.deeper (envOfC x (defScope st) s.heap.objs.size f cdv)) → LamH P w K mg base j (frs outer) s H lf tl → TT tl lf vs H Q →
      ∃ t, PSs (cxOf CX0 P w K mg base N x (defScope st) f cdv A outer s H E0).nox (defBody st) t ∧ t { nx := fun _ H' => Q .non H', rt := Q } (start N vs) H) : GivesL P w K mg base gd j (k + 1) x ps TT := by
  obtain ⟨f, fd, F, hm⟩ := D.ex
  refine ⟨f, fd, hm, F.kp, F.binds hb, len, fun A outer s H args us lf vs Q tl hr hgd e0 L bind rv ht => ?_⟩
  obtain ⟨oc, od, kV, doc, pm, an, cdv, ct, osl, efd, look, code⟩ := F.ex
  subst efd
  refine LamX.run_ofS look code S hr e0 bind rv (len _ _ _ _ _ ht) fun hr' => ?_
  obtain ⟨t, h1, h2⟩ := body f cdv A outer s H lf vs Q tl hgd hr' L ht
  exact ⟨t, h1.nox, h2⟩
end
section
variable {Z : Cx} {j k : Nat} {lf : Addr} {tl : XK → Hp → VK → Prop}
theorem lam_un {pins : List (Addr × Obj)} {σ : L2.St} {H : Hp} {s : Shared} (I : Inv Z pins σ H s) (hex : Z.ex = []) : Un Z.fs [] Z.H_0 H Z.s_0.heap s.heap := by
  have := I.base
  rw [hex] at this
  exact this
theorem lam_nst {P : Program} {w : World} {K : PySem.W.Frag} {mg : Str → Option Value} {base : Heap} {pins : List (Addr × Obj)} {σ : L2.St} {H : Hp} {s : Shared} (I : Inv Z pins σ H s) (L : LamH P w K mg base j Z.fs Z.s_0 Z.H_0 lf tl) : lf ∉ frs Z.stack := fun z => by
  obtain ⟨oc, od, fd, sl, e⟩ := L.obj
  rcases List.mem_cons.mp (I.stkSub _ z) with q | q
  · have h1 := Heap.lt_size e
    rw [q] at h1
    exact absurd (Nat.lt_of_lt_of_le h1 I.ok.above) (Nat.lt_irrefl _)
  · exact L.nfr q
/-- a(), a the name of what was handed on -/
theorem pe_callL {a : Str} {i : Nat} {W : WX} {p1 p2 : Pos} (L : LamH Z.prog Z.w Z.K Z.mg Z.base j Z.fs Z.s_0 Z.H_0 lf tl) (hex : Z.ex = []) (tk : Takes Z W) (hr : Room j Z.A)
    (hN : Z.N[i]? = some a) (hv : Vis Z.env.scope a) (hd : (a == ("__debug__" : Str)) = false := by decide) (hcd : (a == ("__classdict__" : Str)) = false := by decide) :
    PE Z (.Call (.Name a p1) [] [] p2) (fun σ H Q => σ[i]? = some (some (.ref lf)) ∧ ∃ E : XK, (∀ cls d H', E cls d H' → W cls d σ H') ∧ tl E H Q) := by
  refine ⟨fun pins s σ H Q I h => ?_⟩
  obtain ⟨hs, E, hW, ht⟩ := h
  refine wpAny_Call_Name_kw (thn ((pe_var (pos := p1) (i := i) hN hv hd hcd).run pins s σ H (fun v H1 => v = .ref lf ∧ H1 = H) I ⟨.ref lf, hs, rfl, rfl⟩) fun u s1 ⟨v, H1, I1, r1, q1⟩ => ?_)
  obtain ⟨ev, eH⟩ := q1
  subst ev
  rw [eH] at I1
  obtain rfl : u = Value.ref lf := r1
  have un := lam_un I1 hex
  refine PySem.W.callWith_F0 (L.at_ un L.nfr).1 ?_
  have rc := L.run Z.A Z.stack s1 H Q E hr I1.env0 ⟨Z.fs, L.nfr, un⟩ ht
  refine wpAny_call (codeAny_mono rc fun r s' hq => ?_)
  cases r with
  | error e => exact tk e s' (XE.of_call I1 hW hq)
  | ok fl =>
    cases fl with
    | ret u => exact I1.after hq
    | next => exact False.elim hq
    | brk => exact False.elim hq
    | cont => exact False.elim hq
/-- x(.., a, ..): it is handed on -/
theorem pe_goL {gd : Bool} {x : Str} {ps : List Str} {TT : TL1} {p pos : Pos} {e : Expr} {es : List Expr} {t : TA} (G : GivesL Z.prog Z.w Z.K Z.mg Z.base gd j k x ps TT) (L : LamH Z.prog Z.w Z.K Z.mg Z.base j Z.fs Z.s_0 Z.H_0 lf tl) (hex : Z.ex = []) (hgd : gd = true → Z.A.guards = some []) (hr : Room k Z.A) (hg : Gl Z x) (ha : PA Z (e :: es) t)
    (hdb : (x == ("__debug__" : Str)) = false := by decide) (he : starEach (e :: es) Z.env = (false, eval e Z.env) :: starEach es Z.env := by rfl) (hpl : (backTo pos (starEach es Z.env)).any (·.1) = false := by rfl) :
    PE Z (.Call (.Name x p) (e :: es) [] pos) (fun σ H Q => t σ H fun vs H1 => TT tl lf vs H1 Q) := by
  obtain ⟨f, fd, hm, hk, hb, len, run⟩ := G.ex
  refine ⟨fun pins s σ H Q I h => wpAny_Call_Name_kw (ld_glob I hg hm ?_ hdb)⟩
  refine PySem.W.callWith_K (h₀ := Z.base) I.ok.mod.kin hk (thn (ha.run pos pins s σ H _ I h) fun us s1 z => ?_) he hpl
  obtain ⟨vs, H1, J, rv, q⟩ := z
  refine ⟨J.kIn, ?_⟩
  have many : us.length = ps.length := by
    rw [← rv.length]
    exact len _ _ _ _ _ q
  have bd := hb s1 us J.kIn (by rw [List.append_nil]; exact many)
  rw [List.append_nil] at bd
  refine wpAny_call (codeAny_mono (run Z.A Z.stack s1 H1 ⟨us, []⟩ us lf vs Q tl hr hgd J.env0 (L.on (lam_un J hex) L.nfr (lam_nst J L)) bd rv q) fun r s' hq => ?_)
  cases r with
  | error e => exact (show False from hq).elim
  | ok fl =>
    cases fl with
    | ret u => exact J.after hq
    | next => exact False.elim hq
    | brk => exact False.elim hq
    | cont => exact False.elim hq
end
/-! ### a lambda made -/
section
variable {X : Cx} {pins : List (Addr × Obj)} {σ : L2.St} {H HZ : Hp} {s s1 : Shared}
/-- LamX's lam_start2, whatever frames may have changed -/
theorem lam_start3 {A : Around} {outer : List Env} {E : XK} {scope : Scope} {f c' : Addr} {h₁ : Heap} {tk : Nat} {fs : List Addr} (I : Inv X pins σ H s) (L : LamX.LamS X.env.scope scope) (e0 : Env0 X.prog X.w X.K X.mg X.base A outer s1 HZ) (hd : A.handled = none)
    (un : Un fs [] H HZ s.heap s1.heap) (hns : h₁.Ns s1.heap.objs.size fun y => ([] : List (Str × Value)).reverse.lookup y) (kp : ∀ b o, s1.heap.get? b = some o → h₁.get? b = some o) :
    Inv (LamX.lamCx X A outer s1 HZ E scope f c') [] σ HZ { s1 with heap := h₁, toks := tk } := by
  have hfree := L.has I.ok
  have cm : ∀ {y c}, (cloFrom X.env.cells scope.names []).lookup y = some c → X.env.cells.lookup y = some c := fun {y c} e => by
    rcases cloFrom_mem (PySem.mem_of_lookup e) with hm | ⟨h1, h2⟩
    · cases hm
    · obtain ⟨c1, hc⟩ := hfree _ h1 rfl
      have hc : X.env.cells.lookup y = some c1 := hc
      have e2 : c = c1 := by
        rw [h2, hc] <;> rfl
      rw [e2]
      exact hc
  have look : ∀ {y}, scope.names.lookup y = some .free → ∃ c, (cloFrom X.env.cells scope.names []).lookup y = some c := fun {y} hl => by
    have hy : (y, NameKind.free) ∈ scope.names := PySem.mem_of_lookup hl
    exact mem_lookup (cloFrom_has (cells := X.env.cells) (acc := []) hy)
  have cellK : ∀ {c : Addr} {v : Option Value}, H c = none → s.heap.IsCell c v → h₁.IsCell c v := fun {c v} n ⟨o, ho, hd⟩ => by
    obtain ⟨sl, q⟩ := un.any ho n (by simp)
    exact ⟨_, kp _ _ q, hd⟩
  have noA : ∀ b : Addr, b ∉ (LamX.lamCx X A outer s1 HZ E scope f c').ex := fun b z => absurd (show b ∈ ([] : List Addr) from z) (by simp)
  refine ⟨⟨e0.mod, L.kind, rfl, rfl, Nat.le_refl _, fun y z c e1 e2 => I.ok.inj y z c (cm e1) (cm e2), fun y hy => ?_, fun y c z _ => ?_, fun _ => hd, Around.frames_deeper e0.frames, .inr ⟨rfl, rfl⟩, fun b z => absurd z (noA b), e0.bs, e0.bsz, fun b _ _ => noA b,
      fun b z => absurd z (noA b), e0.funs, e0.frf⟩,
    rfl, e0.bare, Un.kept kp, ⟨_, hns, fun i y v e1 e2 e3 => ?_⟩, fun y c e => ?_, e0.hok.fresh (Nat.le_refl _), fun y c e => ?_, fun q hq => absurd (show q ∈ ([] : List (Addr × Obj)) ++ [] from hq) (by simp), e0.hok.kept kp, I.len⟩
  · have hy : scope.names.lookup y = some .cell ∨ scope.names.lookup y = some .free := hy
    rcases hy with hy | hy
    · exact absurd rfl (L.own _ (PySem.mem_of_lookup hy)).2
    · exact look hy
  · have z : false = true := z
    cases z
  · have e3 : Vis scope y := e3
    rcases e3 with k | k | k
    · exact absurd rfl (L.own _ (PySem.mem_of_lookup k)).1
    · exact absurd rfl (L.own _ (PySem.mem_of_lookup k)).2
    · obtain ⟨m, hn, hl⟩ := I.loc
      have hvis : Vis X.env.scope y := (L.free _ (PySem.mem_of_lookup k) rfl).elim (fun k => .inr (.inl k)) (fun k => .inr (.inr k))
      obtain ⟨w', r, q⟩ := hl i y v e1 e2 hvis
      obtain ⟨c2, h2⟩ := look k
      refine ⟨w', r, .inr ⟨.inr k, c2, h2, ?_⟩⟩
      have c1 := cm h2
      rcases q with ⟨k', _⟩ | ⟨_, c3, e', z⟩
      · have k' : X.env.scope.names.lookup y = some .local := k'
        rcases L.free _ (PySem.mem_of_lookup k) rfl with k2 | k2 <;> rw [show X.env.scope.names.lookup y = _ from k2] at k' <;> cases k'
      · rw [c1] at e'
        cases e'
        exact cellK (I.freeC y _ c1) z
  · obtain ⟨w', z⟩ := I.cell y c (cm e)
    exact ⟨w', cellK (I.freeC y c (cm e)) z⟩
  · obtain ⟨v, o, ho, hd⟩ := I.cell y c (cm e)
    exact un.free c o ho (I.freeC y c (cm e)) (by simp)
/-- what a lambda that stands at f may be asked -/
theorem lam_have {scope : Scope} {params : Arguments} {body : Expr} {f c' : Addr} {pm ctv : Value} {k : Nat} {t : XK → TE} {o : Obj} (I : Inv X ((f, o) :: pins) σ H s) (L : LamX.LamS X.env.scope scope)
    (eo : o = PySem.W.kla_obj "<lambda>" (X.env.qual ++ "<lambda>") params body scope (cloFrom X.env.cells scope.names []) pm c' ctv) (hfr : f ∉ frs X.stack)
    (hbind : ∀ (q : Str) (cl : List (Str × Addr)) (pm cv ctv : Value), bindArgs (PySem.W.kla_fn "<lambda>" q params body scope cl pm cv ctv) ⟨[], []⟩ = pure [])
    (hbody : ∀ (A : Around) (outer : List Env) (s : Shared) (H : Hp) (E : XK) (f c' : Addr), Room k (A.deeper (LamX.lamEnv X scope s.heap.objs.size f c')) → PE (LamX.lamCx X A outer s H E scope f c') body (t E)) :
    LamH X.prog X.w X.K X.mg X.base (k + 1) (frs X.stack) s H f (fun E H' Q' => H' c' = some (LamX.CodeO c' (X.env.qual ++ "<lambda>")) ∧ t E σ H' Q') := by
  obtain ⟨pf, nf, _, _, _⟩ := I.pin (f, o) (List.mem_append_right _ List.mem_cons_self)
  have pf : s.heap.get? f = some o := pf
  subst eo
  refine ⟨⟨_, _, _, _, pf⟩, nf, hfr, fun A outer s3 H3 Q E room e0 ⟨fs, nfs, u⟩ ⟨hc, ht⟩ => ?_⟩
  have of1 := u.keep f _ pf nf nfs (fun z => nomatch z)
  obtain ⟨⟨oc, vs, tt, hoc, hdc, hvc⟩, _, _⟩ := e0.hok c' _ hc
  refine PySem.W.kla_callFunE room.depth of1 rfl L.co L.gen rfl ⟨c', oc, vs, tt, rfl, hoc, hdc, hvc⟩ ?_
  rw [hbind]
  have lim : s3.heap.NoLimit := e0.mod.nolimit.keeps fun b o e => (e0.bs b o e).1
  refine wpAny_pure (wpAny_newFunctionEnv (fun y hy => (L.own y hy).2) (fun y hy => absurd hy (by simp)) (fun h₁ hns hsb => ⟨lim.fresh _ hsb, ?_⟩) L.kind)
  show codeAny _ _ (.expr body (LamX.lamEnv X scope s3.heap.objs.size f c')) _ _
  have kp : ∀ b o, s3.heap.get? b = some o → h₁.get? b = some o := fun b o e => hsb.extBut b o (Nat.ne_of_lt (Heap.lt_size e)) (Heap.get?_push_of_some _ e)
  have J : Inv (LamX.lamCx X A outer s3 H3 E scope f c') [] σ H3 { s3 with heap := h₁, toks := s3.toks + ([] : List (Str × Value)).length } := lam_start3 I L e0 room.hd u hns kp
  refine PySem.W.kla_codeExpr (wpAny_mono ((hbody A outer s3 H3 E f c' (room.deeper _)).run [] _ _ H3 Q J ht) (fun v s' hq => ?_) fun e s' hq => hq)
  obtain ⟨w', H', J', rv, q⟩ := hq
  exact ⟨w', H', J'.os, J'.bare, J'.base, J'.hok, rv, q⟩
/-- the readings: a lambda first; behind another argument -/
def tLamG (T : List (Addr × Str)) (q : Str) (TT : TL1) (t : XK → TE) (ta : TA) : TE := fun σ H Q => LamX.Tabs T H ∧ ∀ H1 c' f, LamX.ExtN H H1 → LamX.Tabs T H1 → H1 c' = some (LamX.CodeO c' q) →
  ta σ H1 fun vs H2 => TT (fun E H' Q' => H' c' = some (LamX.CodeO c' q) ∧ t E σ H' Q') f (.ref f :: vs) H2 Q
def tLamG2 (T : List (Addr × Str)) (q : Str) (TT : TL1) (t : XK → TE) (te : TE) (ta : TA) : TE := fun σ H Q => te σ H fun v H0 => LamX.Tabs T H0 ∧ ∀ H1 c' f, LamX.ExtN H0 H1 → LamX.Tabs T H1 → H1 c' = some (LamX.CodeO c' q) →
  ta σ H1 fun vs H2 => TT (fun E H' Q' => H' c' = some (LamX.CodeO c' q) ∧ t E σ H' Q') f (v :: .ref f :: vs) H2 Q
theorem lam_pin {f : Addr} {o : Obj} (I : Inv X pins σ H s) (hs : X.stack = X.env :: X.outer) (hfm : X.env.frame = some X.env.locals) (hf : s.heap.get? f = some o) (hd : ∀ v, o.data ≠ .cell v) (hn : H f = none) (hfr : f ∉ frs X.stack) : Inv X ((f, o) :: pins) σ H s := by
  refine I.pins_of fun p hp => ?_
  rcases List.mem_cons.mp hp with z | z
  · rw [z]
    refine ⟨hf, hn, fun z => hfr ?_, fun z => hfr ?_, hd⟩
    · rw [hs]
      exact List.mem_filterMap.mpr ⟨X.env, List.mem_cons_self, by rw [hfm]; exact congrArg some z.symm⟩
    · rw [hs]
      obtain ⟨v, hv, q⟩ := List.mem_filterMap.mp z
      exact List.mem_filterMap.mpr ⟨v, List.mem_cons_of_mem _ hv, q⟩
  · exact I.pin p (List.mem_append_right _ z)
variable {gd : Bool} {T : List (Addr × Str)} {x : Str} {ps : List Str} {TT : TL1} {c P : Addr} {j k : Nat} {params : Arguments} {body : Expr} {scope : Scope} {t : XK → TE} {ta : TA} {te : TE} {p lpos pos : Pos} {es : List Expr} {e : Expr}
/-- x(lambda: body, ..) -/
theorem pe_lam (G : GivesL X.prog X.w X.K X.mg X.base gd (k + 1) j x ps TT) (hs : X.stack = X.env :: X.outer) (hfm : X.env.frame = some X.env.locals) (hg : Gl X x) (hgd : gd = true → X.A.guards = some []) (hr : Room j X.A)
    (TB : LamX.TabB X.base X.mg c P) (hcode : X.env.code = .ref c) (hmT : (P, X.env.qual ++ "<lambda>") ∈ T) (hu : ∀ p ∈ T, p.1 = P → p.2 = X.env.qual ++ "<lambda>") (L : LamX.LamS X.env.scope scope) (hdef : defaultsOf params X.env = ([], []))
    (hbind : ∀ (q : Str) (cl : List (Str × Addr)) (pm cv ctv : Value), bindArgs (PySem.W.kla_fn "<lambda>" q params body scope cl pm cv ctv) ⟨[], []⟩ = pure [])
    (hbody : ∀ (A : Around) (outer : List Env) (s : Shared) (H : Hp) (E : XK) (f c' : Addr), Room k (A.deeper (LamX.lamEnv X scope s.heap.objs.size f c')) → PE (LamX.lamCx X A outer s H E scope f c') body (t E))
    (ha : PA X es ta) (hdb : (x == ("__debug__" : Str)) = false := by decide) (hpl : (backTo pos (starEach es X.env)).any (·.1) = false := by rfl)
    (he : starEach (.Lambda params body scope lpos :: es) X.env = (false, eval (.Lambda params body scope lpos) X.env) :: starEach es X.env := by rfl) :
    PE X (.Call (.Name x p) (.Lambda params body scope lpos :: es) [] pos) (tLamG T (X.env.qual ++ "<lambda>") TT t ta) := by
  obtain ⟨g, fd, hm, hk, hb, len, run⟩ := G.ex
  refine ⟨fun pins s σ H Q I h => ?_⟩
  obtain ⟨hT, h⟩ := h
  refine wpAny_Call_Name_kw (ld_glob I hg hm ?_ hdb)
  refine PySem.W.callWith_K (h₀ := X.base) I.ok.mod.kin hk ?_ he hpl
  rw [he]
  show wpAny _ _ (spliced ((false, eval (.Lambda params body scope lpos) X.env) :: backTo pos (starEach es X.env))) _ _ s
  refine Calls.spliced_cons (LamX.lam_make2 I TB hcode hmT hu hT hdef (L.has I.ok) fun f c' pm' ctv H1 s' I1 eN T1 hf hfn hfr hco => ?_)
  have I2 := lam_pin I1 hs hfm hf (fun v z => nomatch z) hfn hfr
  refine thn (ha.run pos _ s' σ H1 _ I2 (h H1 c' f eN T1 hco)) fun us s2 z => ?_
  obtain ⟨vs, H2, J, rv, q⟩ := z
  refine ⟨J.kIn, ?_⟩
  have rv2 : Vals (V.ref f :: vs) (Value.ref f :: us) := .cons rfl rv
  have many : (Value.ref f :: us).length = ps.length := by
    rw [← rv2.length]
    exact len _ _ _ _ _ q
  have bd := hb s2 (Value.ref f :: us) J.kIn (by rw [List.append_nil]; exact many)
  rw [List.append_nil] at bd
  refine wpAny_call (codeAny_mono (run X.A X.stack s2 H2 ⟨Value.ref f :: us, []⟩ (Value.ref f :: us) f (V.ref f :: vs) Q _ hr hgd J.env0 (lam_have J L rfl hfr hbind hbody) bd rv2 q) fun r s' hq => ?_)
  cases r with
  | error e => exact (show False from hq).elim
  | ok fl =>
    cases fl with
    | ret u =>
      exact (J.pins_of fun p hp => J.pin p (List.mem_append_right _ (List.mem_cons_of_mem _ hp)) : Inv X pins σ H2 s2).after hq
    | next => exact False.elim hq
    | brk => exact False.elim hq
    | cont => exact False.elim hq
end
end Ct

/-! A call by keywords alone, in any sequence. -/
namespace Ct
open PySem PySem.Spec PyProof.Rows L2 TL
def permL {α : Type} (ix : List Nat) (ws : List α) : List α := ix.filterMap fun i => ws[i]?
/-- of n, in the sequence ix -/
def permN {α : Type} (n : Nat) (ix : List Nat) (ws : List α) : List α := if ws.length = n then permL ix ws else []
theorem perm_vals {zs : List V} {ws : List Value} (r : Vals zs ws) : ∀ ix : List Nat, Vals (permL ix zs) (permL ix ws)
  | [] => .nil
  | i :: ix => by
    have q := perm_vals r ix
    have l := r.length
    unfold permL at q ⊢
    by_cases h : i < zs.length
    · obtain ⟨u, hu, ru⟩ := r.get (List.getElem?_eq_getElem h)
      rw [List.filterMap_cons_some (List.getElem?_eq_getElem h), List.filterMap_cons_some hu]
      exact .cons ru q
    · rw [List.filterMap_cons_none (List.getElem?_eq_none (by omega)), List.filterMap_cons_none (List.getElem?_eq_none (by omega))]
      exact q
theorem permN_vals {n : Nat} {ix : List Nat} {zs : List V} {ws : List Value} (r : Vals zs ws) : Vals (permN n ix zs) (permN n ix ws) := by
  have l := r.length
  unfold permN
  by_cases h : zs.length = n
  · rw [if_pos h, if_pos (by omega)]
    exact perm_vals r ix
  · rw [if_neg h, if_neg (by omega)]
    exact .nil
theorem permN_len {α : Type} {n : Nat} {ix : List Nat} {ws : List α} (n0 : 0 < n) (h : (permN n ix ws).length = n) : ws.length = n := by
  unfold permN at h
  by_cases q : ws.length = n
  · exact q
  · rw [if_neg q] at h
    simp at h
    omega
section
variable {X : Cx}
end
end Ct

/-! Defs that may raise, called by their names. -/
namespace Ct
open PySem PySem.Spec PyProof.Rows L2 TL
/-- the def called x keeps sp at level k; it may raise what sp's wish says -/
structure KeepsX (P : Program) (w : World) (K : PySem.W.Frag) (mg : Str → Option Value) (base : Heap) (k : Nat) (x : Str) (ps : List Str) (sp : Sp) : Prop where
  ex : ∃ (f : Addr) (fd : FuncData), FnOk P w K mg base (L2.CX P w) k f fd ps sp ∧ mg x = some (.ref f) ∧ PySem.W.keepIn K (.ref f) = true ∧ Binds K fd ps [] ∧
    ∀ st f' fd', Fun K x x st f' fd' → mg x = some (.ref f') → Fun K x x st f fd
section
variable {P : Program} {w : World} {K : PySem.W.Frag} {mg : Str → Option Value} {base : Heap}
theorem Lies.keepsX {x : Str} {st : Stmt} {N ps : List Str} {k : Nat} {sp : Sp} (D : Lies K mg x st) (S : FnScope N ps (defScope st))
    (hb : ∀ (kV doc pm : Value) (an : Option Addr) (cdv ct : Value) (us : List Value), us.length = ps.length → bindArgs (PySem.W.fnOf x x (defArgs st) (defBody st) (defScope st) .none kV doc pm an cdv ct) ⟨us, []⟩ = pure (ps.zip us))
    (len : ∀ vs H Q E, sp vs H Q E → vs.length = ps.length)
    (body : ∀ (f : Addr) (cdv : Value) (A : Around) (outer : List Env) (s : Shared) (H : Hp) (vs : List V) (Q : VK) (E : XK), Room k (A.deeper (envOfC x (defScope st) s.heap.objs.size f cdv)) → sp vs H Q E →
      ∃ t, PSs (cxOf (L2.CX P w) P w K mg base N x (defScope st) f cdv A outer s H E) (defBody st) t ∧ t { nx := fun _ H' => Q .non H', rt := Q } (start N vs) H) : KeepsX P w K mg base (k + 1) x ps sp := by
  obtain ⟨f, fd, F, hm⟩ := D.ex
  obtain ⟨oc, od, kV, doc, pm, an, cdv, ct, osl, efd, look, code⟩ := id F.ex
  refine ⟨f, fd, ?_, hm, F.kp, F.binds hb, fun st' f' fd' F' hm' => ?_⟩
  · subst efd
    exact fn_of look code S len (body f cdv)
  · have e := hm.symm.trans hm'
    cases e
    obtain ⟨oc', od', kV', doc', pm', an', c1', ct', osl', e1', l1', _⟩ := id F'.ex
    rw [look] at l1'
    cases l1'
    exact F'
end
/-- what a def's body may let out -/
theorem takesX {P : Program} {w : World} {K : PySem.W.Frag} {mg : Str → Option Value} {base : Heap} {N : List Str} {x : Str} {sc : Scope} {f : Addr} {cdv : Value} {A : Around} {outer : List Env} {s : Shared} {H : Hp} {E : XK} :
    Takes (cxOf (L2.CX P w) P w K mg base N x sc f cdv A outer s H E) (fun cls d _ H => E cls d H) :=
  takes_of (E := E) (E₁ := fun e' s'' => L2.CX P w outer H s E e' s'') rfl rfl rfl rfl
theorem takesL {X : Cx} {A : Around} {outer : List Env} {s : Shared} {H : Hp} {E : XK} {scope : Scope} {f c' : Addr} : Takes (LamX.lamCx X A outer s H E scope f c') (fun cls d _ H => E cls d H) :=
  takes_of (X := LamX.lamCx X A outer s H E scope f c') (E := E) (E₁ := fun e' s'' => L2.CX X.prog X.w outer H s E e' s'') rfl rfl rfl rfl
section
variable {X : Cx} {E : XK} {W : WX}
theorem pe_goX {k : Nat} {x : Str} {p pos : Pos} {e : Expr} {es : List Expr} {ps : List Str} {sp : Sp} {t : TA} (G : KeepsX X.prog X.w X.K X.mg X.base k x ps sp) (tk : Takes X W) (hW : ∀ cls d σ H, E cls d H → W cls d σ H) (hr : Room k X.A) (hg : Gl X x) (ha : PA X (e :: es) t)
    (hdb : (x == ("__debug__" : Str)) = false := by decide) (he : starEach (e :: es) X.env = (false, eval e X.env) :: starEach es X.env := by rfl) (hpl : (backTo pos (starEach es X.env)).any (·.1) = false := by rfl) :
    PE X (.Call (.Name x p) (e :: es) [] pos) (tCall sp [] E t) := by
  obtain ⟨f, fd, g1, g2, g3, g4, _⟩ := G.ex
  exact pe_call g1 hr hg g2 g3 g4 .nil (passes_call tk hW) ha hdb he hpl
theorem pe_goKX {k : Nat} {x : Str} {st : Stmt} {p pos : Pos} {kws : List Keyword} {ps ks : List Str} {sp : Sp} {tk : TA} (ix : List Nat) (G : KeepsX X.prog X.w X.K X.mg X.base k x ps sp) (D : Lies X.K X.mg x st)
    (hbind : ∀ (kV doc pm : Value) (an : Option Addr) (cdv ct : Value) (ws : List Value), ws.length = ps.length → bindArgs (PySem.W.fnOf x x (defArgs st) (defBody st) (defScope st) .none kV doc pm an cdv ct) ⟨[], ks.zip ws⟩ = pure (ps.zip (permN ps.length ix ws)))
    (tkx : Takes X W) (hW : ∀ cls d σ H, E cls d H → W cls d σ H) (hr : Room k X.A) (hg : Gl X x) (hkw : PK X kws tk) (hall : (backToKw pos (keywordEach kws X.env)).all (·.1.isSome) = true := by rfl) (hks : (backToKw pos (keywordEach kws X.env)).filterMap (·.1) = ks := by rfl) (hps : 0 < ps.length := by decide)
    (hdb : (x == ("__debug__" : Str)) = false := by decide) (hpl : ((backTo pos (starEach [] X.env)).any (·.1) || (backToKw pos (keywordEach kws X.env)).any (·.1.isNone)) = false := by rfl) :
    PE X (.Call (.Name x p) [] kws pos) (fun σ H Q => tk σ H fun zs H2 => sp (permN ps.length ix zs) H2 Q E) := by
  obtain ⟨f, fd, F, hm, hk, _, same⟩ := G.ex
  obtain ⟨f', fd', F', hm'⟩ := D.ex
  have F2 := same st f' fd' F' hm'
  obtain ⟨oc, od, kV, doc, pm, an, cdv, ct, osl, efd, _, _⟩ := F2.ex
  have kb : KBinds X.K fd ps ks (fun us ws => match us with | [] => permN ps.length ix ws | _ :: _ => []) (fun us ws => match us with | [] => permN ps.length ix ws | _ :: _ => []) := by
    refine ⟨fun s us ws _ hl => ?_, fun {vs us zs ws} r rz => ?_⟩
    · cases us with
      | nil =>
        subst efd
        exact BindsTo.of_eq (hbind kV doc pm an cdv ct ws (permN_len hps hl))
      | cons u r =>
        have hl : 0 = ps.length := hl
        omega
    · cases r with
      | nil => exact permN_vals rz
      | cons _ _ => exact .nil
  refine ⟨fun pins s σ H Q I h => wpAny_Call_Name_kw (ld_glob I hg hm ?_ hdb)⟩
  refine PySem.W.callWith_KW0 (h₀ := X.base) I.ok.mod.kin hk hall (thn (hkw.run pos pins s σ H _ I h) fun ws s2 z => ?_) hpl
  obtain ⟨zs, H2, I2, rz, q2⟩ := z
  refine ⟨I2.kIn, ?_⟩
  rw [hks]
  exact run_fnk F hr kb (passes_call tkx hW) I2 .nil rz q2
end
/-! ### the program's own errors -/
/-- what the written part says of the error class called x, at C: made by the __init__ at fI, a kind of the class at CE -/
structure ErrC (K : PySem.W.Frag) (mg : Str → Option Value) (x : Str) (C CE fI : Addr) : Prop where
  at_ : mg x = some (.ref C)
  oex : OexC K C
  ini : PySem.W.findIn K (.ref C) "__init__" = some (some (.ref fI))
  fn : PySem.W.typeIn K (.ref fI) = some (.type "function")
  xf : XfC K C
  exc : ExcC K C
  noV : PySem.W.findIn K (.ref C) "value" = some none
  sub : PySem.W.exmOne K (.ref C) (.ref CE) = some true
  kit : PySem.W.kitOne K (.ref C) (.ref C) = some true
/-- self.value = value -/
def spErr (K : PySem.W.Frag) : Sp := fun vs H Q _ => ∃ (a C : Addr) (v : V), vs = [.ref a, v] ∧ OexC K C ∧ PySem.W.findIn K (.ref C) "value" = some none ∧ H a = some (exo a C none) ∧
  ∀ dx, H dx = none → dx ≠ a → Q .non (upd (upd H dx (exd dx [("value", v)])) a (exo a C (some dx)))
/-- the wish: an error of the class C with that value -/
def Err1 (C : Addr) (v : V) (H : Hp) (E : XK) : Prop := ∀ (d : Addr) (H' : Hp), Same H H' → H' d = some (.xd [("value", v)]) → E (.ref C) (some d) H'
/-- what may be told more weakly -/
def tClo (te : TE) : TE := fun σ H Q => ∃ Q0 : VK, te σ H Q0 ∧ ∀ v H1, Q0 v H1 → Q v H1
theorem pe_clo {X : Cx} {e : Expr} {te : TE} (h : PE X e te) : PE X e (tClo te) := ⟨fun pins s σ H Q I ⟨Q0, h0, w⟩ => thn (h.run pins s σ H Q0 I h0) fun _ _ ⟨v, H1, I1, r, q⟩ => ⟨v, H1, I1, r, w v H1 q⟩⟩
section
variable {X : Cx}
theorem ps_raiseV {W : WX} {x : Str} {C CE fI : Addr} {k : Nat} {fd : FuncData} {e : Expr} {te : TE} {p pos pos' : Pos} (M : ErrC X.K X.mg x C CE fI) (F : FnOk X.prog X.w X.K X.mg X.base CX0 k fI fd ["self", "value"] (spErr X.K)) (hb : Binds X.K fd ["self", "value"] [])
    (hc : X.calm = true) (tk : Takes X W) (hr : Room (k + 1) X.A) (hg : Gl X x) (he : PE X e te) (hdb : (x == ("__debug__" : Str)) = false := by decide) (hs : starEach (e :: []) X.env = (false, eval e X.env) :: starEach [] X.env := by rfl)
    (hpl : (backTo pos (starEach [] X.env)).any (·.1) = false := by rfl) :
    PS X (.Raise (some (.Call (.Name x p) [e] [] pos)) none pos') (fun _ σ H => te σ H fun v H1 => Err1 C v H1 (fun cls d H' => W cls d σ H')) := by
  have he' : PE X e (tClo te) := pe_clo he
  have key : PMk X (.Call (.Name x p) [e] [] pos) (tMkO C (spErr X.K) [] (tCons (tClo te) tNil)) := pmk_oex M.oex M.ini M.fn F hr hb .nil pass0 hg M.at_ (pa_cons he' pa_nil hs) hdb hs hpl
  have big := ps_raise (pos := pos') hc tk key
  refine ⟨fun pins s σ H D I h => big.run pins s σ H D I ?_⟩
  refine ⟨_, h, fun v H1 q => ⟨by show 1 ≤ 1000; decide, fun a na => ⟨a, C, v, rfl, M.oex, M.noV, upd_same, fun dx nd ne => ⟨rfl, dx, [("value", v)], upd_same, by rw [upd_ne ne]; exact upd_same, ?_, ?_⟩⟩⟩⟩
  · rw [← upd_ne (H := H1) (o := exo a C none) ne]
    exact nd
  · have nd1 : H1 dx = none := by rw [← upd_ne (H := H1) (o := exo a C none) ne]; exact nd
    refine q dx _ (fun b o e => ?_) upd_same
    rw [upd_ne (ne_of_none e nd1), del_ne (ne_of_none e na), upd_ne (ne_of_none e na), upd_ne (ne_of_none e nd1), upd_ne (ne_of_none e na)]
    exact e
end
end Ct

/-! What a law hears of a call: what it gives, or the error that it raises. -/
namespace Ct
open PySem PySem.Spec PyProof.Rows L2 TL
abbrev s_l_heard : Stmt := top 50
abbrev N_l_heard : List Str := ["call", "caught", "back", "error"]
theorem sc_l_heard : FnScope N_l_heard ["call"] (defScope s_l_heard) := ⟨rfl, rfl, rfl, by decide +kernel, rfl, by decide +kernel, by decide +kernel⟩
/-- tl: what is heard of; the tuple tells the error and nothing, or nothing and what was given -/
def TTHeard (K : PySem.W.Frag) (CE : Addr) : TL1 := fun tl lf vs H Q => vs = [.ref lf] ∧ ∀ H0, Same H H0 →
  tl (fun cls d H' => PySem.W.exmOne K cls (.ref CE) = some true ∧ ∀ a p H'', Same H' H'' → H'' a = some (ErrO cls d a) → H'' p = some (.tup [.ref a, .non]) → Q (.ref p) H'') H0
    (fun v H' => ∀ p H'', Same H' H'' → H'' p = some (.tup [.non, v]) → Q (.ref p) H'')
section
variable {P : Program} {w : World} {K : PySem.W.Frag} {mg : Str → Option Value} {base : Heap}
theorem k_l_heard {CE : Addr} {j : Nat} (D : Lies K mg "_law_heard" s_l_heard) (me : mg "CircuitError" = some (.ref CE)) : GivesL P w K mg base false j (j + 1) "_law_heard" ["call"] (TTHeard K CE) := by
  refine D.givesL sc_l_heard (fun _ _ _ _ _ _ us hl => bindsL1 (fun _ => rfl) us hl) (fun tl lf vs H Q h => ?_) (fun f cdv A outer s0 H lf vs Q tl _ hr L h => ?_)
  · obtain ⟨rfl, _⟩ := h
    rfl
  · obtain ⟨rfl, h⟩ := h
    refine ⟨_, (pss_cons (ps_asg (pe_tup (pa_cons pe_non (pa_cons pe_non pa_nil))) (pg_tup rfl (pgs_cons (pg_name (i := 1) sc_l_heard.nd rfl (Or.inl rfl)) (pgs_cons (pg_name (i := 2) sc_l_heard.nd rfl (Or.inl rfl)) pgs_nil))))
      (pss_cons (ps_try_keep (i := 3) (tb := fun W D σ H => σ[0]? = some (some (.ref lf)) ∧ ∃ Ech : XK, (∀ cls d H', Ech cls d H' → W cls d σ H') ∧ tlClo tl Ech H fun v H' => D.nx (σ.set 2 (some v)) H') (ts := fun a cls d => _) rfl rfl rfl sc_l_heard.nd rfl rfl (c := .ref CE) ⟨rfl, rfl, .inl me⟩ LamX.takes0 (fun W pn xe tk _ => ?_)
        (fun a oe cls d pn _ _ => pss_one (ps_set (i := 1) sc_l_heard.nd rfl (Or.inl rfl) (pv 3))))
      (pss_one (ps_ret (pe_tup (pa_cons (pv 1) (pa_cons (pv 2) pa_nil))))))), ?_⟩
    · exact pss_one (ps_set (i := 2) sc_l_heard.nd rfl (Or.inl rfl) (pe_callL (i := 0) L.clo rfl tk hr rfl (Or.inl rfl)))
    · refine ⟨by decide, fun q nq => ?_⟩
      have sq := same_upd (o := .tup [V.non, V.non]) nq
      refine ⟨q, _, rfl, .inl (.inl upd_same), rfl, _, _, rfl, _, _, rfl, rfl, ?_⟩
      refine ⟨rfl, fun cls d H' => PySem.W.exmOne K cls (.ref CE) = some true ∧ ∀ a p H'', Same H' H'' → H'' a = some (ErrO cls d a) → H'' p = some (.tup [.ref a, .non]) → Q (.ref p) H'', fun cls d H' qq => ?_, ?_⟩
      · obtain ⟨e1, k⟩ := qq
        refine ⟨true, e1, fun _ a na => ?_, fun z => nomatch z⟩
        refine ⟨_, rfl, ?_⟩
        refine ⟨_, rfl, _, rfl, by show 2 ≤ sizeLine; decide, fun p np => ?_⟩
        have hpa : a ≠ p := fun z => by
          rw [← z] at np
          have np : upd H' a (ErrO cls d a) a = none := np
          rw [upd_same] at np
          cases np
        refine k a p _ ?_ ?_ upd_same
        · exact (same_upd na).trans (same_upd np)
        · rw [upd_ne hpa]
          exact upd_same
      · have z := h _ sq
        refine ⟨_, _, z, fun _ _ _ q => q, fun v H' q => ⟨_, rfl, _, rfl, by show 2 ≤ sizeLine; decide, fun p np => q p _ (same_upd np) upd_same⟩⟩
end
end Ct

/-! The program's own errors made. -/
namespace Ct
open PySem PySem.Spec PyProof.Rows L2 TL
abbrev s_CircuitError_init : Stmt := inClass (top 2) 0
abbrev N_CircuitError_init : List Str := ["self", "value"]
theorem sc_CircuitError_init : FnScope N_CircuitError_init ["self", "value"] (defScope s_CircuitError_init) := ⟨rfl, rfl, rfl, by decide +kernel, rfl, by decide +kernel, by decide +kernel⟩
/-- what is read off the written part of an error class -/
def errB (K : PySem.W.Frag) (C CE fI : Addr) : Bool := xfB K C && (decide (PySem.W.findIn K (.ref C) "__class__" = some (some (.builtin "object.__class__"))) && (decide (PySem.W.specialIn K (.builtin "object.__class__") "__get__" = some (some (.builtin "getset_descriptor.__get__"))) && (decide (PySem.W.takesIn K (.builtin "object.__class__") = some true) &&
  (decide (PySem.W.mroIn K C (.type "object") = some true) && (decide (PySem.W.findIn K (.ref C) "value" = some none) && (decide (PySem.W.exmOne K (.ref C) (.ref CE) = some true) && (decide (PySem.W.kitOne K (.ref C) (.ref C) = some true) && (decide (PySem.W.typeIn K (.ref fI) = some (.type "function")) &&
  (decide (PySem.W.findIn K (.ref C) "__setattr__" = some (some (.builtin "object.__setattr__"))) && (decide (PySem.W.typeIn K (.ref C) = some (.type "type")) && PySem.W.keepIn K (.ref C)))))))))))
theorem errC_of {K : PySem.W.Frag} {mg : Str → Option Value} {x : Str} {C CE fI : Addr} {nm q N bs bm sn sub ab col dd k0 k1 k2 k3 k5} (a : mg x = some (.ref C)) (i : PySem.W.findIn K (.ref C) "__init__" = some (some (.ref fI)))
    (o : K.lookup C = some (excClassObj nm q C N bs bm true sn sub ab col dd k0 k1 k2 k3 k5 "ValueError.__new__")) (r : PySem.HandSPX.refsVE bm = true) (h : errB K C CE fI = true) : ErrC K mg x C CE fI := by
  obtain ⟨h1, h⟩ := Bool.and_eq_true_iff.mp h
  obtain ⟨h2, h⟩ := Bool.and_eq_true_iff.mp h
  obtain ⟨h3, h⟩ := Bool.and_eq_true_iff.mp h
  obtain ⟨h4, h⟩ := Bool.and_eq_true_iff.mp h
  obtain ⟨h5, h⟩ := Bool.and_eq_true_iff.mp h
  obtain ⟨h6, h⟩ := Bool.and_eq_true_iff.mp h
  obtain ⟨h7, h⟩ := Bool.and_eq_true_iff.mp h
  obtain ⟨h8, h⟩ := Bool.and_eq_true_iff.mp h
  obtain ⟨h9, h⟩ := Bool.and_eq_true_iff.mp h
  obtain ⟨h10, h⟩ := Bool.and_eq_true_iff.mp h
  obtain ⟨h11, h12⟩ := Bool.and_eq_true_iff.mp h
  have X := xfB_ok h1
  exact { at_ := a, ini := i, xf := X, fn := of_decide_eq_true h9, noV := of_decide_eq_true h6, sub := of_decide_eq_true h7, kit := of_decide_eq_true h8
          oex := ⟨⟨nm, q, N, bs, bm, sn, sub, ab, col, dd, k0, k1, k2, k3, k5, o, r⟩, of_decide_eq_true h10, X.exC, of_decide_eq_true h11, h12⟩
          exc := ⟨X.ga, X.gg, X.exC, X.hdC, of_decide_eq_true h2, of_decide_eq_true h3, of_decide_eq_true h4, of_decide_eq_true h5⟩ }
section
variable {P : Program} {w : World} {K : PySem.W.Frag} {mg : Str → Option Value} {base : Heap}
theorem k_err {f : Addr} {fd : FuncData} (F : Fun K "__init__" "CircuitError.__init__" s_CircuitError_init f fd) : FnOk P w K mg base CX0 1 f fd ["self", "value"] (spErr K) := by
  refine F.ok sc_CircuitError_init (fun vs H Q E h => ?_) (fun cdv A outer s0 H vs Q E hr h => ?_)
  · obtain ⟨a, C, v, rfl, _⟩ := h
    rfl
  · obtain ⟨a, C, v, rfl, ox, hno, ha, k⟩ := h
    refine ⟨_, (pss_one (ps_ost (pv 0) (pv 1))), ?_⟩
    exact ⟨v, rfl, .ref a, rfl, a, C, rfl, ox, hno, .inl ⟨ha, fun dx nd ne => k dx nd ne⟩⟩
end
end Ct

/-! What the reader of circuits holds between two lines. -/
namespace Ct
open PySem PySem.Spec PyProof.Rows L2 TL
inductive Line
  | src (e : Str × Int × Int)
  | prt (e : Str × Int × Int)
  | joi (x : Str)
  | tie (t : Str × Str × Str)
def Line.words : Line → List Str
  | .src e => ["source", e.1, fracText e.2]
  | .prt e => ["part", e.1, fracText e.2]
  | .joi x => ["joining", x]
  | .tie t => ["tie", t.1, t.2.1, t.2.2]
def addTie (t : Str × Str × Str) : List (Str × List (Str × Str × Str)) → List (Str × List (Str × Str × Str))
  | [] => []
  | [(x, ts)] => [(x, ts ++ [t])]
  | j :: k :: r => j :: addTie t (k :: r)
theorem addTie_last (t : Str × Str × Str) (x : Str) (ts : List (Str × Str × Str)) : ∀ fr, addTie t (fr ++ [(x, ts)]) = fr ++ [(x, ts ++ [t])]
  | [] => rfl
  | [j] => rfl
  | j :: k :: r => by
    show j :: addTie t ((k :: r) ++ [(x, ts)]) = _
    rw [addTie_last t x ts (k :: r)]
    rfl
def Own.add (o : Own) : Line → Own
  | .src e => { o with sources := o.sources ++ [e] }
  | .prt e => { o with parts := o.parts ++ [e] }
  | .joi x => { o with joinings := o.joinings ++ [(x, [])] }
  | .tie t => { o with joinings := addTie t o.joinings }
def Fits (o : Own) : Line → Prop
  | .src e => o.parts = [] ∧ Name e.1 ∧ FrOk e.2 ∧ o.sources.length < 4 ∧ e.1 ∉ o.sources.map (·.1)
  | .prt e => o.joinings = [] ∧ Name e.1 ∧ FrOk e.2 ∧ 0 < e.2.1 ∧ o.parts.length < 8 ∧ e.1 ∉ o.parts.map (·.1)
  | .joi x => o.parts ≠ [] ∧ Name x ∧ o.joinings.length < 6 ∧ x ∉ o.joinings.map (·.1)
  | .tie t => ∃ fr x ts, o.joinings = fr ++ [(x, ts)] ∧ o.parts.length ≤ 8 ∧ ts.length < 8 ∧ t.1 ∈ o.parts.map (·.1) ∧ t.1 ∉ ts.map (·.1) ∧ Junc t.2.1 ∧ Junc t.2.2
section
variable (K : PySem.W.Frag) (G H : Hp) (s p j : Addr)
inductive JacAt : List V → List (Str × List (Str × Str × Str)) → Prop
  | nil : JacAt [] []
  | last {vF : List V} {fr : List (Str × List (Str × Str × Str))} {t l : Addr} {x : Str} {ts : List (Str × Str × Str)} {tv : List V} (front : Paired (JoiAt K G) vF fr) (ht : SqT K G t [.str x, .ref l]) (gl : G l = none)
      (ls : l ≠ s) (lp : l ≠ p) (lj : l ≠ j) (hl : H l = some (.lst tv)) (ties : Paired (TieAt K G) tv ts) : JacAt (vF ++ [.ref t]) (fr ++ [(x, ts)])
structure Acc (o : Own) : Prop where
  sub : Same G H
  gs : G s = none
  gp : G p = none
  gj : G j = none
  sp : s ≠ p
  sj : s ≠ j
  pj : p ≠ j
  src : ∃ vs, H s = some (.lst vs) ∧ Paired (EntAt K G) vs o.sources
  prt : ∃ vs, H p = some (.lst vs) ∧ Paired (EntAt K G) vs o.parts
  joi : ∃ vs, H j = some (.lst vs) ∧ JacAt K G H s p j vs o.joinings
end
section
variable {K : PySem.W.Frag} {G H : Hp} {s p j : Addr} {o : Own}
theorem JacAt.to {G' H' : Hp} {vs : List V} {js : List (Str × List (Str × Str × Str))} (h : JacAt K G H s p j vs js) (sg : Same G G') (keep : ∀ l tv, l ≠ s → l ≠ p → l ≠ j → G l = none → H l = some (.lst tv) → G' l = none ∧ H' l = some (.lst tv)) : JacAt K G' H' s p j vs js := by
  cases h with
  | nil => exact .nil
  | last front ht gl ls lp lj hl ties =>
    obtain ⟨a, b⟩ := keep _ _ ls lp lj gl hl
    exact .last (front.mono fun v c h => h.same sg) (SqT.same sg ht) a ls lp lj b (ties.mono fun v c h => h.same sg)
theorem JacAt.len {vs : List V} {js : List (Str × List (Str × Str × Str))} (h : JacAt K G H s p j vs js) : vs.length = js.length := by
  cases h with
  | nil => rfl
  | last front => rw [List.length_append, List.length_append, front.length]; rfl
/-- new things, nothing changed -/
theorem Acc.more {H' : Hp} (a : Acc K G H s p j o) (k : Same H H') : Acc K G H' s p j o where
  sub := a.sub.trans k
  gs := a.gs
  gp := a.gp
  gj := a.gj
  sp := a.sp
  sj := a.sj
  pj := a.pj
  src := let ⟨vs, h, r⟩ := a.src; ⟨vs, k _ _ h, r⟩
  prt := let ⟨vs, h, r⟩ := a.prt; ⟨vs, k _ _ h, r⟩
  joi := let ⟨vs, h, r⟩ := a.joi; ⟨vs, k _ _ h, r.to (Same.refl G) fun l tv _ _ _ g h => ⟨g, k _ _ h⟩⟩
/-- a tuple that lies there is fixed -/
theorem Acc.fix {t : Addr} {xs : List V} (a : Acc K G H s p j o) (ht : H t = some (.tup xs)) : Acc K (upd G t (.tup xs)) H s p j o ∧ Same G (upd G t (.tup xs)) := by
  have sg : Same G (upd G t (.tup xs)) := fun b z e => by
    by_cases q : b = t
    · subst q
      rw [upd_same]
      exact ht ▸ a.sub _ _ e
    · rw [upd_ne q]
      exact e
  have ne : ∀ {l : Addr} {tv : List V}, H l = some (.lst tv) → l ≠ t := fun h => ne_of h ht (by intro z; cases z)
  obtain ⟨v1, h1, r1⟩ := a.src
  obtain ⟨v2, h2, r2⟩ := a.prt
  obtain ⟨v3, h3, r3⟩ := a.joi
  refine ⟨⟨fun b z e => ?_, by rw [upd_ne (ne h1)]; exact a.gs, by rw [upd_ne (ne h2)]; exact a.gp, by rw [upd_ne (ne h3)]; exact a.gj, a.sp, a.sj, a.pj, ⟨v1, h1, r1.mono fun v c h => h.same sg⟩, ⟨v2, h2, r2.mono fun v c h => h.same sg⟩, ⟨v3, h3, r3.to sg fun l tv _ _ _ g h => ⟨by rw [upd_ne (ne h)]; exact g, h⟩⟩⟩, sg⟩
  by_cases q : b = t
  · subst q
    rw [upd_same] at e
    exact e ▸ ht
  · rw [upd_ne q] at e
    exact a.sub _ _ e
/-- a list that is none of the reader's is fixed -/
theorem Acc.fixL {t : Addr} {xs : List V} (a : Acc K G H s p j o) (ht : H t = none) : Acc K (upd G t (.lst xs)) (upd H t (.lst xs)) s p j o ∧ Same G (upd G t (.lst xs)) := by
  have gt : G t = none := a.sub.free ht
  have sg : Same G (upd G t (.lst xs)) := same_upd gt
  have sh : Same H (upd H t (.lst xs)) := same_upd ht
  have ne : ∀ {l : Addr} {z : HO}, H l = some z → l ≠ t := fun h => ne_of_none h ht
  obtain ⟨v1, h1, r1⟩ := a.src
  obtain ⟨v2, h2, r2⟩ := a.prt
  obtain ⟨v3, h3, r3⟩ := a.joi
  refine ⟨⟨fun b z e => ?_, by rw [upd_ne (ne h1)]; exact a.gs, by rw [upd_ne (ne h2)]; exact a.gp, by rw [upd_ne (ne h3)]; exact a.gj, a.sp, a.sj, a.pj, ⟨v1, sh _ _ h1, r1.mono fun v c h => h.same sg⟩, ⟨v2, sh _ _ h2, r2.mono fun v c h => h.same sg⟩, ⟨v3, sh _ _ h3, r3.to sg fun l tv _ _ _ g h => ⟨by rw [upd_ne (ne h)]; exact g, sh _ _ h⟩⟩⟩, sg⟩
  by_cases q : b = t
  · subst q
    rw [upd_same] at e ⊢
    exact e
  · rw [upd_ne q] at e ⊢
    exact a.sub _ _ e
theorem Acc.addSrc {vs : List V} {v : V} {e : Str × Int × Int} (a : Acc K G H s p j o) (hs : H s = some (.lst vs)) (r : EntAt K G v e) : Acc K G (upd H s (.lst (vs ++ [v]))) s p j (o.add (.src e)) := by
  obtain ⟨v1, h1, r1⟩ := a.src
  obtain ⟨v2, h2, r2⟩ := a.prt
  obtain ⟨v3, h3, r3⟩ := a.joi
  have e1 : v1 = vs := HO.lst.inj (Option.some.inj (h1.symm.trans hs))
  subst e1
  exact ⟨same_but a.sub a.gs, a.gs, a.gp, a.gj, a.sp, a.sj, a.pj, ⟨_, upd_same, r1.snoc r⟩, ⟨v2, by rw [upd_ne a.sp.symm]; exact h2, r2⟩, ⟨v3, by rw [upd_ne a.sj.symm]; exact h3, r3.to (Same.refl G) fun l tv n1 _ _ g h => ⟨g, by rw [upd_ne n1]; exact h⟩⟩⟩
theorem Acc.addPrt {vs : List V} {v : V} {e : Str × Int × Int} (a : Acc K G H s p j o) (hs : H p = some (.lst vs)) (r : EntAt K G v e) : Acc K G (upd H p (.lst (vs ++ [v]))) s p j (o.add (.prt e)) := by
  obtain ⟨v1, h1, r1⟩ := a.src
  obtain ⟨v2, h2, r2⟩ := a.prt
  obtain ⟨v3, h3, r3⟩ := a.joi
  have e1 : v2 = vs := HO.lst.inj (Option.some.inj (h2.symm.trans hs))
  subst e1
  exact ⟨same_but a.sub a.gp, a.gs, a.gp, a.gj, a.sp, a.sj, a.pj, ⟨v1, by rw [upd_ne a.sp]; exact h1, r1⟩, ⟨_, upd_same, r2.snoc r⟩, ⟨v3, by rw [upd_ne a.pj.symm]; exact h3, r3.to (Same.refl G) fun l tv _ n2 _ g h => ⟨g, by rw [upd_ne n2]; exact h⟩⟩⟩
/-- a joining more: the last one's list of ties is fixed from here on; l, the new one's, and t, its tuple -/
theorem Acc.addJoi {vs : List V} {x : Str} {l t : Addr} (a : Acc K G H s p j o) (hj : H j = some (.lst vs)) (nl : H l = none) (nt : upd H l (.lst []) t = none) :
    ∃ G', Same G G' ∧ Acc K G' (upd (upd (upd H l (.lst [])) t (.tup [.str x, .ref l])) j (.lst (vs ++ [.ref t]))) s p j (o.add (.joi x)) := by
  obtain ⟨v1, h1, r1⟩ := a.src
  obtain ⟨v2, h2, r2⟩ := a.prt
  obtain ⟨v3, h3, r3⟩ := a.joi
  have e1 : v3 = vs := HO.lst.inj (Option.some.inj (h3.symm.trans hj))
  subst e1
  have lt : l ≠ t := ne_of_none upd_same nt
  have ht : H t = none := by rw [upd_ne lt.symm] at nt; exact nt
  have ln : ∀ {b : Addr} {z : HO}, H b = some z → b ≠ l := fun h => ne_of_none h nl
  have tn : ∀ {b : Addr} {z : HO}, H b = some z → b ≠ t := fun h => ne_of_none h ht
  -- what was fixed, and the last list
  obtain ⟨G1, s1, sub1, g1s, g1p, g1j, fr⟩ : ∃ G1, Same G G1 ∧ Same G1 H ∧ G1 s = none ∧ G1 p = none ∧ G1 j = none ∧ Paired (JoiAt K G1) v3 o.joinings := by
    generalize ej : o.joinings = js at r3
    cases r3 with
    | nil => exact ⟨G, Same.refl G, a.sub, a.gs, a.gp, a.gj, .nil⟩
    | last front ht gl ls lp lj hl ties =>
      rename_i vF fr t0 l0 x0 ts tv
      have sg : Same G (upd G l0 (.lst tv)) := same_upd gl
      refine ⟨upd G l0 (.lst tv), sg, fun b z e => ?_, by rw [upd_ne ls.symm]; exact a.gs, by rw [upd_ne lp.symm]; exact a.gp, by rw [upd_ne lj.symm]; exact a.gj, (front.mono fun v c h => h.same sg).snoc ⟨t0, .ref l0, rfl, SqT.same sg ht, l0, tv, rfl, SqL.of upd_same, ties.mono fun v c h => h.same sg⟩⟩
      by_cases q : b = l0
      · subst q
        rw [upd_same] at e
        exact e ▸ hl
      · rw [upd_ne q] at e
        exact a.sub _ _ e
  have g1t : G1 t = none := sub1.free ht
  have g1l : G1 l = none := sub1.free nl
  have s2 : Same G1 (upd G1 t (.tup [.str x, .ref l])) := same_upd g1t
  refine ⟨upd G1 t (.tup [.str x, .ref l]), s1.trans s2, ⟨fun b z e => ?_, by rw [upd_ne (tn h1)]; exact g1s, by rw [upd_ne (tn h2)]; exact g1p, by rw [upd_ne (tn h3)]; exact g1j, a.sp, a.sj, a.pj,
    ⟨v1, by rw [upd_ne a.sj, upd_ne (tn h1), upd_ne (ln h1)]; exact h1, r1.mono fun v c h => h.same (s1.trans s2)⟩, ⟨v2, by rw [upd_ne a.pj, upd_ne (tn h2), upd_ne (ln h2)]; exact h2, r2.mono fun v c h => h.same (s1.trans s2)⟩,
    ⟨_, upd_same, .last (fr.mono fun v c h => h.same s2) (SqT.of upd_same) (by rw [upd_ne lt]; exact g1l) (ln h1).symm (ln h2).symm (ln h3).symm (by rw [upd_ne (ln h3).symm, upd_ne lt]; exact upd_same) .nil⟩⟩⟩
  by_cases q : b = t
  · subst q
    rw [upd_same] at e
    rw [upd_ne (tn h3).symm, upd_same]
    exact e
  · rw [upd_ne q] at e
    have hb := sub1 _ _ e
    rw [upd_ne (ne_of_none e g1j), upd_ne q, upd_ne (ln hb)]
    exact hb
/-- a tie more -/
theorem Acc.addTie {t0 l : Addr} {x : Str} {ts : List (Str × Str × Str)} {fr : List (Str × List (Str × Str × Str))} {vF tv : List V} {v : V} {e : Str × Str × Str} (a : Acc K G H s p j o) (ho : o.joinings = fr ++ [(x, ts)]) (hj : H j = some (.lst (vF ++ [.ref t0])))
    (front : Paired (JoiAt K G) vF fr) (ht : SqT K G t0 [.str x, .ref l]) (gl : G l = none) (ls : l ≠ s) (lp : l ≠ p) (lj : l ≠ j) (hl : H l = some (.lst tv)) (ties : Paired (TieAt K G) tv ts) (r : TieAt K G v e) :
    Acc K G (upd H l (.lst (tv ++ [v]))) s p j (o.add (.tie e)) := by
  obtain ⟨v1, h1, r1⟩ := a.src
  obtain ⟨v2, h2, r2⟩ := a.prt
  refine ⟨same_but a.sub gl, a.gs, a.gp, a.gj, a.sp, a.sj, a.pj, ⟨v1, by rw [upd_ne ls.symm]; exact h1, r1⟩, ⟨v2, by rw [upd_ne lp.symm]; exact h2, r2⟩, ⟨_, by rw [upd_ne lj.symm]; exact hj, ?_⟩⟩
  show JacAt K G _ s p j _ (Ct.addTie e o.joinings)
  rw [ho, addTie_last]
  exact .last front ht gl ls lp lj upd_same (ties.snoc r)
end
end Ct
namespace Ct
open PySem PySem.Spec PyProof.Rows L2 TL
/-! ### a circuit's object -/
section
variable {K : PySem.W.Frag} {H : Hp} {D : Addr} {C dx : Addr} {fs fs' : List (Str × V)}
theorem SqT.ins (hD : H D = some (.ins C dx fs)) {a : Addr} {xs : List V} (h : SqT K H a xs) : SqT K (upd H D (.ins C dx fs')) a xs := by
  rcases h with (h | ⟨o, h⟩) | h
  · exact .inl (.inl ((upd_ne (ne_of h hD (by intro z; cases z))).trans h))
  · exact .inl (.inr ⟨o, (upd_ne (ne_of h hD (by intro z; cases z))).trans h⟩)
  · exact .inr h
theorem SqL.ins (hD : H D = some (.ins C dx fs)) {a : Addr} {xs : List V} (h : SqL K H a xs) : SqL K (upd H D (.ins C dx fs')) a xs := by
  rcases h with (h | ⟨o, h⟩) | h
  · exact .inl (.inl ((upd_ne (ne_of h hD (by intro z; cases z))).trans h))
  · exact .inl (.inr ⟨o, (upd_ne (ne_of h hD (by intro z; cases z))).trans h⟩)
  · exact .inr h
theorem EntAt.ins (hD : H D = some (.ins C dx fs)) {v : V} {e : Str × Int × Int} : EntAt K H v e → EntAt K (upd H D (.ins C dx fs')) v e := fun ⟨t, u, a, b, t', c, d⟩ => ⟨t, u, a, SqT.ins hD b, t', c, SqT.ins hD d⟩
theorem TieAt.ins (hD : H D = some (.ins C dx fs)) {v : V} {e : Str × Str × Str} : TieAt K H v e → TieAt K (upd H D (.ins C dx fs')) v e := fun ⟨t, a, b⟩ => ⟨t, a, SqT.ins hD b⟩
end
/-- a joining as the reader has it: its ties a list -/
def JrAt (K : PySem.W.Frag) (H : Hp) (v : V) (e : Str × List (Str × Str × Str)) : Prop := ∃ t l tv, v = .ref t ∧ SqT K H t [.str e.1, .ref l] ∧ SqL K H l tv ∧ Paired (TieAt K H) tv e.2
/-- and as the circuit has it: its ties a tuple -/
def JoTAt (K : PySem.W.Frag) (H : Hp) (v : V) (e : Str × List (Str × Str × Str)) : Prop := ∃ t l tv, v = .ref t ∧ SqT K H t [.str e.1, .ref l] ∧ SqT K H l tv ∧ Paired (TieAt K H) tv e.2
def CircAt (K : PySem.W.Frag) (C : Addr) (H : Hp) (v : V) (o : Own) : Prop := ∃ (c dx : Addr) (fs : List (Str × V)) (ts tp tj : Addr) (us vs ws : List V), v = .ref c ∧ H c = some (.ins C dx fs) ∧ fs.lookup ("text" : Str) = some (.str (textOf o)) ∧ fs.lookup ("sources" : Str) = some (.ref ts) ∧
  fs.lookup ("parts" : Str) = some (.ref tp) ∧ fs.lookup ("joinings" : Str) = some (.ref tj) ∧ SqT K H ts us ∧ SqT K H tp vs ∧ SqT K H tj ws ∧ Paired (EntAt K H) us o.sources ∧ Paired (EntAt K H) vs o.parts ∧ Paired (JoTAt K H) ws o.joinings
section
variable {K : PySem.W.Frag} {H H' : Hp} {D : Addr} {C dx : Addr} {fs fs' : List (Str × V)}
theorem JrAt.same (s : Same H H') {v : V} {e : Str × List (Str × Str × Str)} : JrAt K H v e → JrAt K H' v e := fun ⟨t, l, tv, a, b, c, d⟩ => ⟨t, l, tv, a, SqT.same s b, Same.seq s c, d.mono fun _ _ h => h.same s⟩
theorem JrAt.ins (hD : H D = some (.ins C dx fs)) {v : V} {e : Str × List (Str × Str × Str)} : JrAt K H v e → JrAt K (upd H D (.ins C dx fs')) v e := fun ⟨t, l, tv, a, b, c, d⟩ => ⟨t, l, tv, a, SqT.ins hD b, SqL.ins hD c, d.mono fun _ _ h => h.ins hD⟩
theorem JoTAt.same (s : Same H H') {v : V} {e : Str × List (Str × Str × Str)} : JoTAt K H v e → JoTAt K H' v e := fun ⟨t, l, tv, a, b, c, d⟩ => ⟨t, l, tv, a, SqT.same s b, SqT.same s c, d.mono fun _ _ h => h.same s⟩
theorem JoTAt.ins (hD : H D = some (.ins C dx fs)) {v : V} {e : Str × List (Str × Str × Str)} : JoTAt K H v e → JoTAt K (upd H D (.ins C dx fs')) v e := fun ⟨t, l, tv, a, b, c, d⟩ => ⟨t, l, tv, a, SqT.ins hD b, SqT.ins hD c, d.mono fun _ _ h => h.ins hD⟩
theorem JoTAt.list {acc acc' : List V} (hD : H D = some (.lst acc)) {v : V} {e : Str × List (Str × Str × Str)} : JoTAt K H v e → JoTAt K (upd H D (.lst acc')) v e := fun ⟨t, l, tv, a, b, c, d⟩ => ⟨t, l, tv, a, SqT.list hD b, SqT.list hD c, d.mono fun _ _ h => h.list hD⟩
theorem Acc.jr {G : Hp} {s p j : Addr} {o : Own} (a : Acc K G H s p j o) : ∃ vs, H j = some (.lst vs) ∧ Paired (JrAt K H) vs o.joinings := by
  obtain ⟨vs, h, r⟩ := a.joi
  refine ⟨vs, h, ?_⟩
  generalize o.joinings = js at r
  have fr : ∀ {v : V} {e : Str × List (Str × Str × Str)}, JoiAt K G v e → JrAt K H v e := fun ⟨t, l, e1, e2, l', tv, e3, e4, e5⟩ => ⟨t, l', tv, e1, by rw [← e3]; exact SqT.same a.sub e2, Same.seq a.sub e4, e5.mono fun _ _ h => h.same a.sub⟩
  cases r with
  | nil => exact .nil
  | last front ht gl ls lp lj hl ties => exact (front.mono fun _ _ h => fr h).snoc ⟨_, _, _, rfl, SqT.same a.sub ht, SqL.of hl, ties.mono fun _ _ h => h.same a.sub⟩
end
end Ct

/-! A new tuple whose object is known to have no dict of its own: dict(..) of it. -/
namespace Ct
open PySem PySem.Spec PyProof.Rows L2 TL RZ
/-- a tuple, whose object has no dict -/
def TupN (H : Hp) (a : Addr) (xs : List V) : Prop := ∃ od : Obj, H a = some (.frz od (.tup xs)) ∧ od.dict = none ∧ od.cls = .type "tuple"
theorem TupN.sq {K : PySem.W.Frag} {H : Hp} {a : Addr} {xs : List V} (h : TupN H a xs) : SqT K H a xs := by
  obtain ⟨od, h, _⟩ := h
  exact .inl (.inr ⟨od, h⟩)
theorem TupN.same {G H : Hp} {a : Addr} {xs : List V} (s : Same G H) (h : TupN G a xs) : TupN H a xs := by
  obtain ⟨od, h, r⟩ := h
  exact ⟨od, s _ _ h, r⟩
section
variable {X : Cx}
/-- tuple(xs), xs a list -/
theorem call_tupleN : CallR X (.type "tuple") (fun vs H Q => ∃ (p : Addr) (ys : List V), vs = [.ref p] ∧ SqL X.K H p ys ∧ ∀ l od, H l = none → od.dict = none → od.cls = .type "tuple" → Q (.ref l) (upd H l (.frz od (.tup ys)))) := by
  intro pins s σ H xs us Q I r ⟨p, ys, e, hq, q⟩
  subst e
  obtain ⟨u, rfl, rx⟩ := vals1 r
  cases rx
  obtain ⟨its, r1, pl, hz⟩ := I.list hq
  have hlen := r1.length
  refine call_tuple_list pl.isList (fun h' kp => ?_) (by rw [List.size_toArray, ← hlen]; exact hz)
  have I1 : Inv X pins σ H { s with heap := h' } := I.kept (t' := s.toks) kp
  have I2 : Inv X pins σ (upd H h'.objs.size (.frz { cls := .type "tuple", data := .seq its.toArray } (.tup ys))) { s with heap := h'.push { cls := .type "tuple", data := .seq its.toArray } } :=
    I1.laid (t' := s.toks) (fun b o e => Heap.get?_push_of_some _ e) (Nat.le_refl _) ⟨Heap.get?_push_size _ rfl, hz, its, r1, IsTup.new _ _⟩
  exact ⟨.ref h'.objs.size, _, I2, rfl, q _ _ (I1.hok.fresh (Nat.le_refl _)) rfl rfl⟩
end
/-! ### walks that the layer has no rule for -/
section
variable {K : PySem.W.Frag} {J : It} {n : Nat} {G : Hp → Prop} {Y : Nat → Hp → V → Hp → Prop}
end
end Ct

/-! Fractions in least terms as the rationals they are. -/
namespace Ct
open PySem PySem.Spec PyProof.Rows L2 TL
/-- a rational, as it lies in the heap -/
def RatAt (K : PySem.W.Frag) (H : Hp) (v : V) (r : Rat) : Prop := ∃ t, v = .ref t ∧ SqT K H t [.int r.num, .int (r.den : Int)]
/-- // by a divisor of fewer than 9000 bits -/
def CQuo (_ j : Int) : Prop := j ≠ 0 ∧ j.natAbs.log2 < 9000
def gcdZ (a b : Int) : Int := ((Nat.gcd a.natAbs b.natAbs : Nat) : Int)
def FitR (n : Nat) (r : Rat) : Prop := r.num.natAbs < 2 ^ n ∧ r.den < 2 ^ n
def spRatio (K : PySem.W.Frag) : Sp := fun vs H Q _ => ∃ a b : Int, vs = [.int a, .int b] ∧ b ≠ 0 ∧ b.natAbs < 2 ^ 8999 ∧ ∀ v' H', Same H H' → RatAt K H' v' (Rat.divInt a b) → Q v' H'
def spRat2 (K : PySem.W.Frag) (g : Rat → Rat → Rat) : Sp := fun vs H Q _ => ∃ (v u : V) (r s : Rat), vs = [v, u] ∧ RatAt K H v r ∧ RatAt K H u s ∧ FitR 4400 r ∧ FitR 4400 s ∧ ∀ v' H', Same H H' → RatAt K H' v' (g r s) → Q v' H'
section
variable {P : Program} {w : World} {K : PySem.W.Frag} {mg : Str → Option Value} {base : Heap}
end
end Ct

/-! Rows of integers: the elimination's steps. -/
namespace Ct
open PySem PySem.Spec PyProof.Rows L2 TL
def IntV (v : V) (i : Int) : Prop := v = .int i
def RowAt (K : PySem.W.Frag) (H : Hp) (v : V) (ns : List Int) : Prop := ∃ a, v = .ref a ∧ SqL K H a (ns.map V.int)
def gcdL (ns : List Int) : Int := ns.foldl gcdZ 0
def leastL (ns : List Int) : List Int := if gcdL ns < 2 then ns else ns.map fun i => i.fdiv (gcdL ns)
def Small (ns : List Int) : Prop := ∀ n ∈ ns, n.natAbs < 2 ^ 8999
def spLeast (K : PySem.W.Frag) : Sp := fun vs H Q _ => ∃ (v : V) (ns : List Int), vs = [v] ∧ RowAt K H v ns ∧ ns.length < 1000000 ∧ Small ns ∧ ∀ v' H', Same H H' → RowAt K H' v' (leastL ns) → Q v' H'
section
variable {P : Program} {w : World} {K : PySem.W.Frag} {mg : Str → Option Value} {base : Heap}
end
structure Plain2 (mg : Str → Option Value) : Prop where
  n_zip : mg "zip" = none
  lcm : mg "lcm" = some (.builtin "math.lcm")
  n_sorted : mg "sorted" = none
def crossL (own its : Int) (ns ps : List Int) : List Int := List.zipWith (fun n o => n * its - o * own) ns ps
def withoutL (own its : Int) (ns ps : List Int) : List Int := if own = 0 then ns else leastL (crossL own its ns ps)
def FitsI (ns : List Int) : Prop := ∀ n ∈ ns, n.natAbs < 2 ^ 4400
def spWithout (K : PySem.W.Frag) : Sp := fun vs H Q _ => ∃ (v u : V) (ns ps : List Int) (c : Nat) (own its : Int), vs = [v, u, .int c] ∧ RowAt K H v ns ∧ RowAt K H u ps ∧ ns[c]? = some own ∧ ps[c]? = some its ∧ ns.length < 1000000 ∧ FitsI ns ∧ FitsI ps ∧
  ∀ v' H', Same H H' → RowAt K H' v' (withoutL own its ns ps) → Q v' H'
section
variable {P : Program} {w : World} {K : PySem.W.Frag} {mg : Str → Option Value} {base : Heap}
end
end Ct

/-! The last step: rows led by one. -/
namespace Ct
open PySem PySem.Spec PyProof.Rows L2 TL
/-- a tuple of rationals -/
def RatsAt (K : PySem.W.Frag) (H : Hp) (v : V) (rs : List Rat) : Prop := ∃ a xs, v = .ref a ∧ SqT K H a xs ∧ Paired (RatAt K H) xs rs
def notNil (ns : List Int) : List Int := ns.filter fun n => decide (n ≠ 0)
theorem no_if {c : Bool} {A B : Prop} (hc : c = false) (h : B) : if c = true then A else B := by
  subst hc
  exact iteF h
def ledL (first : Int) (ns : List Int) : List Rat := ns.map fun n => Rat.divInt n first
def spLed (K : PySem.W.Frag) : Sp := fun vs H Q _ => ∃ (v : V) (ns : List Int) (first : Int), vs = [v] ∧ RowAt K H v ns ∧ ns.length < 1000000 ∧ Small ns ∧ (notNil ns)[0]? = some first ∧ ∀ v' H', Same H H' → RatsAt K H' v' (ledL first ns) → Q v' H'
section
variable {P : Program} {w : World} {K : PySem.W.Frag} {mg : Str → Option Value} {base : Heap}
end
end Ct

/-! zip of two or three, each a list or a tuple, of one length. -/
namespace Ct
open PySem PySem.Spec PyProof.Rows L2 TL RZ
/-- a list (true) or a tuple (false) -/
def SqX (k : Bool) (K : PySem.W.Frag) (H : Hp) (a : Addr) (xs : List V) : Prop := match k with | true => SqL K H a xs | false => SqT K H a xs
def IterX (k : Bool) (h : Heap) (N a : Addr) (i : Nat) : Prop := match k with | true => h.IsListIter N a i | false => h.IsTupleIter N a i
def SeqX (k : Bool) (h : Heap) (a : Addr) (its : Array Value) : Prop := match k with | true => h.IsList a its | false => h.IsTuple a its
def iterO (k : Bool) (a : Addr) : Obj := match k with | true => { cls := .type "list_iterator", data := .fields #[.ref a, .int 0 0] } | false => { cls := .type "tuple_iterator", data := .fields #[.ref a, .int 0 0] }
/-- the walk of zip(a, b), a a list, b a tuple -/
def ItX2 (K : PySem.W.Frag) (k1 k2 : Bool) (a b : Addr) : It :=
  ⟨fun i H => ∃ (xs ys : List V) (x y : V), SqX k1 K H a xs ∧ SqX k2 K H b ys ∧ xs.length = ys.length ∧ xs[i]? = some x ∧ ys[i]? = some y,
    fun i H v H' => ∃ T x y, v = .ref T ∧ H T = none ∧ H' = upd H T (.tup [x, y]) ∧ (∀ xs, SqX k1 K H a xs → xs[i]? = some x) ∧ ∀ ys, SqX k2 K H b ys → ys[i]? = some y,
    fun i H => ∃ xs ys : List V, SqX k1 K H a xs ∧ SqX k2 K H b ys ∧ xs.length = i ∧ ys.length = i⟩
def tnX2 (k1 k2 : Bool) (N a b : Addr) (i : Nat) (h : Heap) : Prop := IsZip h (N + 4) (N + 2) (N + 3) .none ∧ IsTupOf2 h (N + 2) (.ref N) (.ref (N + 1)) ∧ (∃ a1 a2, IsTupOf2 h (N + 3) a1 a2) ∧ IterX k1 h N a i ∧ IterX k2 h (N + 1) b i
abbrev fpX2 (N : Addr) : List Addr := [N + 4, N + 2, N + 3, N, N + 1]
def iZipX2 (K : PySem.W.Frag) (ta : TA) : TI := fun σ H R => ta σ H fun vs H1 => ∃ k1 k2 a b xs ys, vs = [.ref a, .ref b] ∧ SqX k1 K H1 a xs ∧ SqX k2 K H1 b ys ∧ R (ItX2 K k1 k2 a b) H1
/-- the walk of zip(a, b, c), a a list, b and c tuples -/
def ItX3 (K : PySem.W.Frag) (k1 k2 k3 : Bool) (a b c : Addr) : It :=
  ⟨fun i H => ∃ (xs ys zs : List V) (x y u : V), SqX k1 K H a xs ∧ SqX k2 K H b ys ∧ SqX k3 K H c zs ∧ xs.length = ys.length ∧ ys.length = zs.length ∧ xs[i]? = some x ∧ ys[i]? = some y ∧ zs[i]? = some u,
    fun i H v H' => ∃ T x y u, v = .ref T ∧ H T = none ∧ H' = upd H T (.tup [x, y, u]) ∧ (∀ xs, SqX k1 K H a xs → xs[i]? = some x) ∧ (∀ ys, SqX k2 K H b ys → ys[i]? = some y) ∧ ∀ zs, SqX k3 K H c zs → zs[i]? = some u,
    fun i H => ∃ xs ys zs : List V, SqX k1 K H a xs ∧ SqX k2 K H b ys ∧ SqX k3 K H c zs ∧ xs.length = i ∧ ys.length = i ∧ zs.length = i⟩
def tnX3 (k1 k2 k3 : Bool) (N a b c : Addr) (i : Nat) (h : Heap) : Prop := IsZip h (N + 5) (N + 3) (N + 4) .none ∧ IsTupOf3 h (N + 3) (.ref N) (.ref (N + 1)) (.ref (N + 2)) ∧ (∃ a1 a2 a3, IsTupOf3 h (N + 4) a1 a2 a3) ∧ IterX k1 h N a i ∧ IterX k2 h (N + 1) b i ∧ IterX k3 h (N + 2) c i
abbrev fpX3 (N : Addr) : List Addr := [N + 5, N + 3, N + 4, N, N + 1, N + 2]
def iZipX3 (K : PySem.W.Frag) (ta : TA) : TI := fun σ H R => ta σ H fun vs H1 => ∃ k1 k2 k3 a b c xs ys zs, vs = [.ref a, .ref b, .ref c] ∧ SqX k1 K H1 a xs ∧ SqX k2 K H1 b ys ∧ SqX k3 K H1 c zs ∧ R (ItX3 K k1 k2 k3 a b c) H1
end Ct

/-! A list or a tuple, walked. -/
namespace Ct
open PySem PySem.Spec PyProof.Rows L2 TL
def Itx (K : PySem.W.Frag) (k : Bool) (a : Addr) : It := match k with | true => Itl K a | false => Itt K a
def iSq (K : PySem.W.Frag) (tl : TE) : TI := fun σ H R => tl σ H fun x H1 => ∃ (k : Bool) (a : Addr), x = .ref a ∧ (∃ xs, SqX k K H1 a xs) ∧ R (Itx K k a) H1
section
variable {β γ : Type} {K : PySem.W.Frag}
end
/-- a row of numbers, a list or a tuple -/
def RowLT (K : PySem.W.Frag) (H : Hp) (v : V) (rs : List Rat) : Prop := ∃ (k : Bool) (a : Addr) (xs : List V), v = .ref a ∧ SqX k K H a xs ∧ Paired (RatAt K H) xs rs
end Ct

/-! Rows of rationals cleared of their bottoms. -/
namespace Ct
open PySem PySem.Spec PyProof.Rows L2 TL
def rLcm : List V → Hp → VK → Prop := fun vs H Q => ∃ a b : Nat, vs = [.int a, .int b] ∧ a < 2 ^ 8999 ∧ b < 2 ^ 8999 ∧ Q (.int ((Nat.lcm a b : Nat) : Int)) H
theorem into_call {sp : Sp} {ds : List V} {E : XK} {t : TA} {σ : L2.St} {H : Hp} {Q : VK} (h : t σ H fun vs H1 => sp (vs ++ ds) H1 Q E) : tCall sp ds E t σ H Q := h
def lcmL (rs : List Rat) : Nat := rs.foldl (fun s r => Nat.lcm s r.den) 1
def liftL (s : Nat) (rs : List Rat) : List Int := rs.map fun r => r.num * ((s / r.den : Nat) : Int)
def clearedL (rs : List Rat) : List Int := leastL (liftL (lcmL rs) rs)
/-- a list of rationals -/
def RatLAt (K : PySem.W.Frag) (H : Hp) (v : V) (rs : List Rat) : Prop := ∃ a xs, v = .ref a ∧ SqL K H a xs ∧ Paired (RatAt K H) xs rs
def spCleared (K : PySem.W.Frag) : Sp := fun vs H Q _ => ∃ (v : V) (rs : List Rat), vs = [v] ∧ RowLT K H v rs ∧ rs.length < 1000000 ∧ (∀ r ∈ rs, FitR 4400 r) ∧ (∀ i, lcmL (rs.take i) < 2 ^ 4400) ∧ ∀ v' H', Same H H' → RowAt K H' v' (clearedL rs) → Q v' H'
section
variable {P : Program} {w : World} {K : PySem.W.Frag} {mg : Str → Option Value} {base : Heap}
end
end Ct

/-! The plain rows of a list of rows. -/
namespace Ct
open PySem PySem.Spec PyProof.Rows L2 TL
def idx (row : List Int) (c : Nat) : Int := (row[c]?).getD 0
def wo (p : List Int) (c : Nat) (r : List Int) : List Int := withoutL (idx r c) (idx p c) r p
abbrev Rowss := List (List Int)
def leadL (c : Nat) (rows : Rowss) : Rowss := rows.filter fun r => decide (idx r c ≠ 0)
def stepL (c : Nat) (st : Rowss × Rowss) : Rowss × Rowss := match leadL c st.1 with
  | [] => st
  | p :: _ => (st.1.map (wo p c), st.2.map (wo p c) ++ [p])
def elimL (n : Nat) (rows : Rowss) : Rowss × Rowss := (List.range n).foldl (fun st c => stepL c st) (rows, [])
def firstL (r : List Int) : Int := ((notNil r)[0]?).getD 0
def plainOf (st : Rowss) : List (List Rat) := st.map fun r => ledL (firstL r) r
/-- a row with at least one number -/
def RowN (K : PySem.W.Frag) (H : Hp) (v : V) (ns : List Int) : Prop := RowAt K H v ns ∧ ns ≠ []
/-- rows of integers in a list -/
def RowsAt (K : PySem.W.Frag) (H : Hp) (v : V) (rows : Rowss) : Prop := ∃ a xs, v = .ref a ∧ SqL K H a xs ∧ Paired (RowN K H) xs rows
def Wide (wd : Nat) (rows : Rowss) : Prop := ∀ r ∈ rows, r.length = wd ∧ FitsI r
theorem into_op {r : R2} {ta tb : TE} {σ : L2.St} {H : Hp} {Q : VK} (h : ta σ H fun x H1 => tb σ H1 fun y H2 => r x y H2 Q) : tOp r ta tb σ H Q := h
def ClearOk (rs : List Rat) : Prop := rs.length < 1000000 ∧ (∀ r ∈ rs, FitR 4400 r) ∧ ∀ i, lcmL (rs.take i) < 2 ^ 4400
/-- a tuple of tuples of rationals -/
def RatssAt (K : PySem.W.Frag) (H : Hp) (v : V) (rows : List (List Rat)) : Prop := ∃ a xs, v = .ref a ∧ SqT K H a xs ∧ Paired (RatsAt K H) xs rows
/-- all that the elimination of these rows comes across -/
structure ElimOk (wd : Nat) (rows : Rowss) : Prop where
  few : rows.length < 1000000
  pos : 0 < wd
  wide : wd < 1000000
  state : ∀ n, n ≤ wd → Wide wd (elimL n rows).1 ∧ Wide wd (elimL n rows).2 ∧ (elimL n rows).1.length < 1000000 ∧ (elimL n rows).2.length < 1000000
  led : ∀ r ∈ (elimL wd rows).2, firstL r ≠ 0
def spPlain (K : PySem.W.Frag) : Sp := fun vs H Q _ => ∃ (kk : Bool) (a : Addr) (xs : List V) (rs : List (List Rat)) (wd : Nat), vs = [.ref a] ∧ SqX kk K H a xs ∧ Paired (RowLT K H) xs rs ∧ (∀ r ∈ rs, ClearOk r) ∧ (rs = [] ∧ wd = 0 ∨ rs ≠ [] ∧ ElimOk wd (rs.map clearedL)) ∧
  ∀ v' H', Same H H' → RatssAt K H' v' (plainOf (elimL wd (rs.map clearedL)).2) → Q v' H'
section
variable {P : Program} {w : World} {K : PySem.W.Frag} {mg : Str → Option Value} {base : Heap}
end
end Ct

/-! Sums of rationals; the nought of the module. -/
namespace Ct
open PySem PySem.Spec PyProof.Rows L2 TL
structure ZeroT (K : PySem.W.Frag) (mg : Str → Option Value) (z : Addr) : Prop where
  mgZ : mg "ZERO" = some (.ref z)
  sq : ∀ H : Hp, SqT K H z [.int 0, .int 1]
def sumL (rs : List Rat) : Rat := rs.foldl (· + ·) 0
def spTotal (K : PySem.W.Frag) : Sp := fun vs H Q _ => ∃ (v : V) (rs : List Rat), vs = [v] ∧ RatLAt K H v rs ∧ (∀ r ∈ rs, FitR 4400 r) ∧ (∀ i, FitR 4400 (sumL (rs.take i))) ∧ ∀ v' H', Same H H' → RatAt K H' v' (sumL rs) → Q v' H'
section
variable {P : Program} {w : World} {K : PySem.W.Frag} {mg : Str → Option Value} {base : Heap} {z : Addr}
end
end Ct

/-! Where a row begins; what a set of equations tells. -/
namespace Ct
open PySem PySem.Spec PyProof.Rows L2 TL
def ratD (r : Rat) : PyData := .tuple [.int r.num, .int (r.den : Int)]
def spFirst (K : PySem.W.Frag) : Sp := fun vs H Q _ => ∃ (v : V) (rs : List Rat) (j : Nat) (r : Rat), vs = [v] ∧ RatsAt K H v rs ∧ rs[j]? = some r ∧ r ≠ 0 ∧ (∀ m, m < j → rs[m]? = some 0) ∧ Q (.int j) H
section
variable {P : Program} {w : World} {K : PySem.W.Frag} {mg : Str → Option Value} {base : Heap} {z : Addr}
end
end Ct

/-! What a set of equations tells. -/
namespace Ct
open PySem PySem.Spec PyProof.Rows L2 TL
def placeOf (r : List Rat) : Nat := r.findIdx fun x => decide (x ≠ 0)
def lastOf (r : List Rat) : Rat := r.getLast?.getD 0
def solL (rows : List (List Rat)) (many : Nat) : List Rat := rows.foldl (fun f r => f.set (placeOf r) (lastOf r)) (List.replicate many 0)
/-- a row that begins below many -/
def BeginsIn (many : Nat) (r : List Rat) : Prop := placeOf r < many ∧ placeOf r < r.length
def spSolution (K : PySem.W.Frag) : Sp := fun vs H Q _ => ∃ (a : Addr) (xs : List V) (rs : List (List Rat)) (wd many : Nat), vs = [.ref a, .int many] ∧ SqL K H a xs ∧ Paired (RatLAt K H) xs rs ∧ (∀ r ∈ rs, ClearOk r) ∧ (rs = [] ∧ wd = 0 ∨ rs ≠ [] ∧ ElimOk wd (rs.map clearedL)) ∧ many < 1000000 ∧
  (∀ r ∈ plainOf (elimL wd (rs.map clearedL)).2, BeginsIn many r) ∧ ∀ p xf H', Same H H' → H p = none → H' p = some (.lst xf) → Paired (RatAt K H') xf (solL (plainOf (elimL wd (rs.map clearedL)).2) many) → Q (.ref p) H'
section
variable {P : Program} {w : World} {K : PySem.W.Frag} {mg : Str → Option Value} {base : Heap} {z : Addr}
end
end Ct

/-! A set of texts: made by a comprehension, sorted. -/
namespace Ct
open PySem PySem.Spec PyProof.Rows L2 TL
/-- at a stands a set of just the texts of l, each once, whose table can be walked -/
def TxSet (P : Program) (w : World) (h : Heap) (a : Addr) (l : List Str) : Prop :=
  ∃ D : Froz.SD, h.get? a = some (Froz.sObj "set" D) ∧ Froz.TxOk P w D l ∧ l.Nodup ∧ Ris D.2.2.place.toList ∧ (w.params.followText "set-order" = true ∨ D.2.2.led = true)
/-- l with c in it -/
def addS (c : Str) (l : List Str) : List Str := if c ∈ l then l else c :: l
section
variable {P : Program} {w : World} {A : Around} {E : Value → Shared → Prop} {s : Shared} {a : Addr} {l : List Str}
end
/-- the set of the texts l, as an object of the abstract heap -/
def TxO (P : Program) (w : World) (a : Addr) (l : List Str) : HO := .ext fun h => TxSet P w h a l
section
variable {X : Cx}
/-- sorted(found), fewer than 64 texts -/
def rSortedTx (X : Cx) : List V → Hp → VK → Prop := fun vs H Q => ∃ (a : Addr) (l : List Str), vs = [V.ref a] ∧ H a = some (TxO X.prog X.w a l) ∧ l.length < 64 ∧
  ∀ (ys : List Str) (p : Addr), ys.Perm l → l.Nodup → sortedS ys = true → H p = none → Q (.ref p) (upd H p (.lst (ys.map V.str)))
/-- {elt for target in iter if ..}, elt a text: D the new set -/
def tScT (P : Program) (w : World) (wi : TI) (g : TG) (tt : TT) (te : TE) (vs : List Nat) : TE := fun σ H Q => wi σ H fun J H1 => ∀ D, H1 D = none → ∃ W : Nat → Nat → Hp → Prop, (∃ m, W 0 m (upd H1 D (TxO P w D []))) ∧ ∀ i m G, W i m G →
  (J.stop i G ∧ Q (.ref D) G) ∨ (J.go i G ∧ ∃ Nx : Hp → Prop, (∀ G', Nx G' → ∃ m', m' < m ∧ W (i + 1) m' G') ∧ ∀ x G', J.yld i G x G' → g x (wipe σ vs) G' fun σ2 H2 => wipe σ2 vs = wipe σ vs ∧ tt σ2 H2 fun b H3 =>
    if b = true then te σ2 H3 fun y H4 => ∃ (c : Str) (l : List Str), y = .str c ∧ H4 D = some (TxO P w D l) ∧ l.length + 1 < scanBound ∧ Nx (upd H4 D (TxO P w D (addS c l))) else Nx H3)
end
end Ct

namespace Ct
open PySem PySem.Spec PyProof.Rows L2 TL
abbrev s_takes_source : Stmt := top 38
abbrev N_takes_source : List Str := ["words", "sources", "parts", "name", "voltage"]
theorem sc_takes_source : FnScope N_takes_source ["words", "sources", "parts"] (defScope s_takes_source) := ⟨rfl, rfl, rfl, by decide +kernel, rfl, by decide +kernel, by decide +kernel⟩
abbrev s_takes_part : Stmt := top 39
abbrev N_takes_part : List Str := ["words", "parts", "joinings", "name", "size"]
theorem sc_takes_part : FnScope N_takes_part ["words", "parts", "joinings"] (defScope s_takes_part) := ⟨rfl, rfl, rfl, by decide +kernel, rfl, by decide +kernel, by decide +kernel⟩
abbrev s_takes_joining : Stmt := top 40
abbrev N_takes_joining : List Str := ["words", "parts", "joinings", "name"]
theorem sc_takes_joining : FnScope N_takes_joining ["words", "parts", "joinings"] (defScope s_takes_joining) := ⟨rfl, rfl, rfl, by decide +kernel, rfl, by decide +kernel, by decide +kernel⟩
abbrev s_takes_tie : Stmt := top 41
abbrev N_takes_tie : List Str := ["words", "parts", "joinings", "_", "part", "plus", "minus", "ties"]
theorem sc_takes_tie : FnScope N_takes_tie ["words", "parts", "joinings"] (defScope s_takes_tie) := ⟨rfl, rfl, rfl, by decide +kernel, rfl, by decide +kernel, by decide +kernel⟩
abbrev s_takes_line : Stmt := top 37
abbrev N_takes_line : List Str := ["words", "sources", "parts", "joinings"]
theorem sc_takes_line : FnScope N_takes_line ["words", "sources", "parts", "joinings"] (defScope s_takes_line) := ⟨rfl, rfl, rfl, by decide +kernel, rfl, by decide +kernel, by decide +kernel⟩
def txts (l : List Str) : List V := l.map V.str
def spTSrc (K : PySem.W.Frag) : Sp := fun vs H Q _ => ∃ (a s p j : Addr) (G : Hp) (o : Own) (e : Str × Int × Int), vs = [.ref a, .ref s, .ref p] ∧ Acc K G H s p j o ∧ SqL K G a (txts (Line.src e).words) ∧ Fits o (.src e) ∧
  ∀ G' H', Same G G' → Acc K G' H' s p j (o.add (.src e)) → Q (.bl true) H'
def spTPrt (K : PySem.W.Frag) : Sp := fun vs H Q _ => ∃ (a s p j : Addr) (G : Hp) (o : Own) (e : Str × Int × Int), vs = [.ref a, .ref p, .ref j] ∧ Acc K G H s p j o ∧ SqL K G a (txts (Line.prt e).words) ∧ Fits o (.prt e) ∧
  ∀ G' H', Same G G' → Acc K G' H' s p j (o.add (.prt e)) → Q (.bl true) H'
def spTJoi (K : PySem.W.Frag) : Sp := fun vs H Q _ => ∃ (a s p j : Addr) (G : Hp) (o : Own) (x : Str), vs = [.ref a, .ref p, .ref j] ∧ Acc K G H s p j o ∧ SqL K G a (txts (Line.joi x).words) ∧ Fits o (.joi x) ∧
  ∀ G' H', Same G G' → Acc K G' H' s p j (o.add (.joi x)) → Q (.bl true) H'
def spTTie (K : PySem.W.Frag) : Sp := fun vs H Q _ => ∃ (a s p j : Addr) (G : Hp) (o : Own) (t : Str × Str × Str), vs = [.ref a, .ref p, .ref j] ∧ Acc K G H s p j o ∧ SqL K G a (txts (Line.tie t).words) ∧ Fits o (.tie t) ∧
  ∀ G' H', Same G G' → Acc K G' H' s p j (o.add (.tie t)) → Q (.bl true) H'
def spTLine (K : PySem.W.Frag) : Sp := fun vs H Q _ => ∃ (a s p j : Addr) (G : Hp) (o : Own) (l : Line), vs = [.ref a, .ref s, .ref p, .ref j] ∧ Acc K G H s p j o ∧ SqL K G a (txts l.words) ∧ Fits o l ∧
  ∀ G' H', Same G G' → Acc K G' H' s p j (o.add l) → Q (.bl true) H'
theorem heads_mono {K : PySem.W.Frag} {H H' : Hp} (s : Same H H') {us : List V} {xs : List Str} (h : Paired (HeadAt K H) us xs) : Paired (HeadAt K H') us xs := h.mono fun v c ⟨t, r, e, q⟩ => ⟨t, r, e, SqT.same s q⟩
theorem Paired.nil_of {α β : Type} {F : α → β → Prop} {xs : List α} (h : Paired F xs []) : xs = [] := by
  cases h
  rfl
section
variable {P : Program} {w : World} {K : PySem.W.Frag} {mg : Str → Option Value} {base : Heap}
theorem k_takes_source (D : Lies K mg "_takes_source" s_takes_source) (T : Plain mg) (G_read_fraction : Keeps P w K mg base 3 "read_fraction" ["word"] (spRead K)) (G_is_another : Keeps P w K mg base 2 "_is_another" ["name", "told", "most"] (spAnother K)) :
    Keeps P w K mg base 4 "_takes_source" ["words", "sources", "parts"] (spTSrc K) := by
  refine D.keeps sc_takes_source (fun _ _ _ _ _ _ us hl => bindsL3 (fun _ _ _ => rfl) us hl) (fun vs H Q E h => ?_) (fun f cdv A outer s0 H vs Q E hr h => ?_)
  · obtain ⟨a, s, p, j, G, o, e, rfl, _⟩ := h
    rfl
  · obtain ⟨a, s, p, j, G, o, e, rfl, ac, hS, ⟨f1, f2, f3, f4, f5⟩, k⟩ := h
    have hS1 := Same.seq ac.sub hS
    refine ⟨_, (pss_cons (ps_par (i := 3) (j := 4) (by rfl) sc_takes_source.nd rfl rfl (by decide) rfl rfl (pa_cons (pe_ix ix_list (pv 0) pe_int (fun _ _ => rfl)) (pa_cons (pe_go G_read_fraction (hr.mono (by decide)) rfl (pa_cons (pe_ix ix_list (pv 0) pe_int (fun _ _ => rfl)) pa_nil)) pa_nil)) (by rfl))
      (pss_cons (ps_if (PW.pt (pw_or (pt_cmpR op_isN (pv 4) pe_non (nomark _)) (pw_or (pt_truth (pv 2) (by intro _; rfl)) (pw_or1 (pt_not (pt_val (pe_go G_is_another (hr.mono (by decide)) rfl (pa_cons (pv 3) (pa_cons (pv 1) (pa_cons (pe_ci T.c_MOST_SOURCES rfl) pa_nil))))))))))
        (pss_one (ps_ret pe_bl))
        pss_nil)
      (pss_cons (ps_expr (pe_bm PySem.F.plainAttrs_list PySem.F.slot_list_append PySem.F.type_list_append mt_append (pv 1) (pa_cons (pe_tup (pa_cons (pv 3) (pa_cons (pv 4) pa_nil))) pa_nil)))
      (pss_one (ps_ret pe_bl))))), ?_⟩
    refine ⟨_, rfl, a, _, _, _, rfl, rfl, hS1, atI_nat (j := 1) rfl, _, rfl, a, _, _, _, rfl, rfl, hS1, atI_nat (j := 2) rfl, e.2, rfl, f3, fun t H1 s1 ht => ⟨_, _, rfl, ?_⟩⟩
    obtain ⟨ac1, sg1⟩ := (ac.more s1).fix ht
    obtain ⟨v1, h1, r1⟩ := ac1.src
    obtain ⟨v2, h2, r2⟩ := ac1.prt
    rw [f1] at r2
    obtain rfl := Paired.nil_of r2
    refine ⟨_, rfl, rfl, _, rfl, pull_false (decide_eq_false fun z => by cases z) ⟨_, rfl, false, .inl ⟨_, SqL.of h2, rfl⟩, pull_false rfl ?_⟩⟩
    refine ⟨_, rfl, _, rfl, e.1, s, v1, o.sources.map (·.1), 4, rfl, f2, SqL.of h1, heads_mono ac1.sub (heads r1 fun v c h => HeadAt.ent h), by rw [List.length_map]; omega, by decide, f5, fun H2 s2 => ⟨true, rfl, iteF ?_⟩⟩
    have ac2 := ac1.more s2
    refine ⟨_, rfl, .inl ⟨rfl, _, SqL.of (s2 _ _ h1)⟩, _, rfl, _, rfl, by show 2 ≤ sizeLine; decide, fun t2 nt2 => ?_⟩
    obtain ⟨ac3, sg3⟩ := (ac2.more (same_upd nt2)).fix (t := t2) (xs := [V.str e.1, V.ref t]) upd_same
    have h3 := (same_upd (o := .tup [V.str e.1, V.ref t]) nt2) _ _ (s2 _ _ h1)
    refine ⟨s, v1, _, rfl, rfl, h3, ?_, ?_⟩
    · have := r1.length
      show v1.length < 16777216
      omega
    refine k _ _ (sg1.trans sg3) (ac3.addSrc h3 ⟨t2, _, rfl, SqT.of upd_same, t, rfl, SqT.of (sg3 _ _ upd_same)⟩)
theorem k_takes_part (D : Lies K mg "_takes_part" s_takes_part) (T : Plain mg) (G_read_fraction : Keeps P w K mg base 3 "read_fraction" ["word"] (spRead K)) (G_is_another : Keeps P w K mg base 2 "_is_another" ["name", "told", "most"] (spAnother K)) (G_is_above_nought : Keeps P w K mg base 3 "is_above_nought" ["value"] (spIsSize K)) :
    Keeps P w K mg base 4 "_takes_part" ["words", "parts", "joinings"] (spTPrt K) := by
  refine D.keeps sc_takes_part (fun _ _ _ _ _ _ us hl => bindsL3 (fun _ _ _ => rfl) us hl) (fun vs H Q E h => ?_) (fun f cdv A outer s0 H vs Q E hr h => ?_)
  · obtain ⟨a, s, p, j, G, o, e, rfl, _⟩ := h
    rfl
  · obtain ⟨a, s, p, j, G, o, e, rfl, ac, hS, ⟨f1, f2, f3, f4, f5, f6⟩, k⟩ := h
    have hS1 := Same.seq ac.sub hS
    refine ⟨_, (pss_cons (ps_par (i := 3) (j := 4) (by rfl) sc_takes_part.nd rfl rfl (by decide) rfl rfl (pa_cons (pe_ix ix_list (pv 0) pe_int (fun _ _ => rfl)) (pa_cons (pe_go G_read_fraction (hr.mono (by decide)) rfl (pa_cons (pe_ix ix_list (pv 0) pe_int (fun _ _ => rfl)) pa_nil)) pa_nil)) (by rfl))
      (pss_cons (ps_if (PW.pt (pw_or (pt_not (pt_val (pe_go G_is_above_nought (hr.mono (by decide)) rfl (pa_cons (pv 4) pa_nil)))) (pw_or (pt_truth (pv 2) (by intro _; rfl)) (pw_or1 (pt_not (pt_val (pe_go G_is_another (hr.mono (by decide)) rfl (pa_cons (pv 3) (pa_cons (pv 1) (pa_cons (pe_ci T.c_MOST_PARTS rfl) pa_nil))))))))))
        (pss_one (ps_ret pe_bl))
        pss_nil)
      (pss_cons (ps_expr (pe_bm PySem.F.plainAttrs_list PySem.F.slot_list_append PySem.F.type_list_append mt_append (pv 1) (pa_cons (pe_tup (pa_cons (pv 3) (pa_cons (pv 4) pa_nil))) pa_nil)))
      (pss_one (ps_ret pe_bl))))), ?_⟩
    refine ⟨_, rfl, a, _, _, _, rfl, rfl, hS1, atI_nat (j := 1) rfl, _, rfl, a, _, _, _, rfl, rfl, hS1, atI_nat (j := 2) rfl, e.2, rfl, f3, fun t H1 s1 ht => ⟨_, _, rfl, ?_⟩⟩
    obtain ⟨ac1, sg1⟩ := (ac.more s1).fix ht
    obtain ⟨v2, h2, r2⟩ := ac1.prt
    obtain ⟨v3, h3, r3⟩ := ac1.joi
    have l3 := r3.len
    rw [f1] at l3
    obtain rfl : v3 = [] := List.eq_nil_of_length_eq_zero l3
    refine ⟨_, rfl, t, e.2, rfl, SqT.of ht, f3.1, f3.2.1, f4, true, rfl, pull_false rfl ⟨_, rfl, false, .inl ⟨_, SqL.of h3, rfl⟩, pull_false rfl ?_⟩⟩
    refine ⟨_, rfl, _, rfl, e.1, p, v2, o.parts.map (·.1), 8, rfl, f2, SqL.of h2, heads_mono ac1.sub (heads r2 fun v c h => HeadAt.ent h), by rw [List.length_map]; omega, by decide, f6, fun H2 s2 => ⟨true, rfl, iteF ?_⟩⟩
    have ac2 := ac1.more s2
    refine ⟨_, rfl, .inl ⟨rfl, _, SqL.of (s2 _ _ h2)⟩, _, rfl, _, rfl, by show 2 ≤ sizeLine; decide, fun t2 nt2 => ?_⟩
    obtain ⟨ac3, sg3⟩ := (ac2.more (same_upd nt2)).fix (t := t2) (xs := [V.str e.1, V.ref t]) upd_same
    have h3 := (same_upd (o := .tup [V.str e.1, V.ref t]) nt2) _ _ (s2 _ _ h2)
    refine ⟨p, v2, _, rfl, rfl, h3, ?_, ?_⟩
    · have := r2.length
      show v2.length < 16777216
      omega
    refine k _ _ (sg1.trans sg3) (ac3.addPrt h3 ⟨t2, _, rfl, SqT.of upd_same, t, rfl, SqT.of (sg3 _ _ upd_same)⟩)
theorem JacAt.heads {G H : Hp} {s p j : Addr} {vs : List V} {js : List (Str × List (Str × Str × Str))} (h : JacAt K G H s p j vs js) : Paired (HeadAt K G) vs (js.map (·.1)) := by
  cases h with
  | nil => exact .nil
  | last front ht gl ls lp lj hl ties =>
    rw [List.map_append]
    exact (Ct.heads front fun v c h => HeadAt.joi h).snoc ⟨_, _, rfl, ht⟩
theorem k_takes_joining (D : Lies K mg "_takes_joining" s_takes_joining) (T : Plain mg) (G_is_another : Keeps P w K mg base 2 "_is_another" ["name", "told", "most"] (spAnother K)) : Keeps P w K mg base 3 "_takes_joining" ["words", "parts", "joinings"] (spTJoi K) := by
  refine D.keeps sc_takes_joining (fun _ _ _ _ _ _ us hl => bindsL3 (fun _ _ _ => rfl) us hl) (fun vs H Q E h => ?_) (fun f cdv A outer s0 H vs Q E hr h => ?_)
  · obtain ⟨a, s, p, j, G, o, x, rfl, _⟩ := h
    rfl
  · obtain ⟨a, s, p, j, G, o, x, rfl, ac, hS, ⟨f1, f2, f3, f4⟩, k⟩ := h
    have hS1 := Same.seq ac.sub hS
    refine ⟨_, (pss_cons (ps_set (i := 3) sc_takes_joining.nd rfl (Or.inl rfl) (pe_ix ix_list (pv 0) pe_int (fun _ _ => rfl)))
      (pss_cons (ps_if (PW.pt (pw_or (pt_not (pt_truth (pv 1) (by intro _; rfl))) (pw_or1 (pt_not (pt_val (pe_go G_is_another (hr.mono (by decide)) rfl (pa_cons (pv 3) (pa_cons (pv 2) (pa_cons (pe_ci T.c_MOST_JOININGS rfl) pa_nil)))))))))
        (pss_one (ps_ret pe_bl))
        pss_nil)
      (pss_cons (ps_expr (pe_bm PySem.F.plainAttrs_list PySem.F.slot_list_append PySem.F.type_list_append mt_append (pv 2) (pa_cons (pe_tup (pa_cons (pv 3) (pa_cons (pe_lst pa_nil) pa_nil))) pa_nil)))
      (pss_one (ps_ret pe_bl))))), ?_⟩
    obtain ⟨v2, h2, r2⟩ := ac.prt
    obtain ⟨v3, h3, r3⟩ := ac.joi
    have e2 : (!v2.isEmpty) = true := by
      have l := r2.length
      cases v2 with
      | nil => exact absurd (List.eq_nil_of_length_eq_zero l.symm) f1
      | cons _ _ => rfl
    refine ⟨_, rfl, a, _, _, _, rfl, rfl, hS1, atI_nat (j := 1) rfl, ?_⟩
    refine ⟨_, rfl, true, .inl ⟨_, SqL.of h2, e2.symm⟩, pull_false rfl ?_⟩
    refine ⟨_, rfl, _, rfl, x, j, v3, o.joinings.map (·.1), 6, rfl, f2, SqL.of h3, heads_mono ac.sub r3.heads, by rw [List.length_map]; omega, by decide, f4, fun H2 s2 => ⟨true, rfl, iteF ?_⟩⟩
    have ac2 := ac.more s2
    refine ⟨_, rfl, .inl ⟨rfl, _, SqL.of (s2 _ _ h3)⟩, _, rfl, Nat.zero_le _, fun l nl => ⟨by show 2 ≤ sizeLine; decide, fun t nt => ?_⟩⟩
    obtain ⟨G', sg, ac3⟩ := ac2.addJoi (x := x) (s2 _ _ h3) nl nt
    refine ⟨j, v3, _, rfl, rfl, (same_upd nt) _ _ ((same_upd nl) _ _ (s2 _ _ h3)), ?_, k G' _ sg ac3⟩
    have := r3.len
    show v3.length < 16777216
    omega
theorem k_takes_tie (D : Lies K mg "_takes_tie" s_takes_tie) (T : Plain mg) (G_names_of : Keeps P w K mg base 1 "names_of" ["told"] (spNames K)) (G_is_junction : Keeps P w K mg base 2 "_is_junction" ["word"] spJunc) : Keeps P w K mg base 3 "_takes_tie" ["words", "parts", "joinings"] (spTTie K) := by
  refine D.keeps sc_takes_tie (fun _ _ _ _ _ _ us hl => bindsL3 (fun _ _ _ => rfl) us hl) (fun vs H Q E h => ?_) (fun f cdv A outer s0 H vs Q E hr h => ?_)
  · obtain ⟨a, s, p, j, G, o, x, rfl, _⟩ := h
    rfl
  · obtain ⟨a, s, p, j, G, o, t, rfl, ac, hS, ⟨fr, x, ts, f1, f2, f3, f4, f5, f6, f7⟩, k⟩ := h
    have hS1 := Same.seq ac.sub hS
    refine ⟨_, (pss_cons (ps_asg (pv 0) (pg_lst rfl (pgs_cons (pg_name (i := 3) sc_takes_tie.nd rfl (Or.inl rfl)) (pgs_cons (pg_name (i := 4) sc_takes_tie.nd rfl (Or.inl rfl)) (pgs_cons (pg_name (i := 5) sc_takes_tie.nd rfl (Or.inl rfl)) (pgs_cons (pg_name (i := 6) sc_takes_tie.nd rfl (Or.inl rfl)) pgs_nil))))))
      (pss_cons (ps_if (PW.pt (pw_or (pt_not (pt_truth (pv 2) (by intro _; rfl))) (pw_or1 (pt_cmpR op_notIn_seq (pv 4) (pe_go G_names_of (hr.mono (by decide)) rfl (pa_cons (pv 1) pa_nil)) (by rfl)))))
        (pss_one (ps_ret pe_bl))
        pss_nil)
      (pss_cons (ps_set (i := 7) sc_takes_tie.nd rfl (Or.inl rfl) (pe_ix ix_tup (pe_ix ix_list (pv 2) (pe_un un_neg pe_int) (fun _ _ => rfl)) pe_int (fun _ _ => rfl)))
      (pss_cons (ps_if (PW.pt (pw_or (pt_cmpR op_in_seq (pv 4) (pe_go G_names_of (hr.mono (by decide)) rfl (pa_cons (pv 7) pa_nil)) (by rfl)) (pw_or (pt_not (pt_val (pe_go G_is_junction (hr.mono (by decide)) rfl (pa_cons (pv 5) pa_nil)))) (pw_or1 (pt_not (pt_val (pe_go G_is_junction (hr.mono (by decide)) rfl (pa_cons (pv 6) pa_nil))))))))
        (pss_one (ps_ret pe_bl))
        pss_nil)
      (pss_cons (ps_expr (pe_bm PySem.F.plainAttrs_list PySem.F.slot_list_append PySem.F.type_list_append mt_append (pv 7) (pa_cons (pe_tup (pa_cons (pv 4) (pa_cons (pv 5) (pa_cons (pv 6) pa_nil)))) pa_nil)))
      (pss_one (ps_ret pe_bl))))))), ?_⟩
    obtain ⟨v2, h2, r2⟩ := ac.prt
    obtain ⟨v3, h3, r3⟩ := ac.joi
    rw [f1] at r3
    generalize ejs : fr ++ [(x, ts)] = js at r3
    cases r3 with
    | nil => exact absurd ejs (by simp)
    | last front ht gl ls lp lj hl ties =>
      rename_i vF fr0 t0 l x0 ts0 tv
      obtain ⟨rfl, e2⟩ := List.append_inj' ejs.symm rfl
      obtain ⟨rfl, rfl⟩ := Prod.mk.inj (List.cons.inj e2).1
      refine ⟨_, rfl, a, _, rfl, hS1, rfl, _, _, rfl, _, _, rfl, _, _, rfl, _, _, rfl, ⟨rfl, ?_⟩⟩
      refine ⟨_, rfl, true, .inl ⟨_, SqL.of h3, by simp⟩, pull_false rfl ?_⟩
      refine ⟨_, rfl, _, rfl, p, v2, o.parts.map (·.1), rfl, SqL.of h2, heads_mono ac.sub (heads r2 fun v c h => HeadAt.ent h), by rw [List.length_map]; omega, fun q1 H1 s1 _ hq1 => ?_⟩
      refine ⟨q1, _, rfl, .inl (SqL.of hq1), rfl, strs_flat _, false, congrArg V.bl ?_, iteF ?_⟩
      · rw [if_pos rfl, in_strs, decide_eq_true f4]
        rfl
      have ac1 := ac.more s1
      refine ⟨_, rfl, _, rfl, j, _, _, _, rfl, rfl, SqL.of (s1 _ _ h3), atI_last _ _, t0, _, _, _, rfl, rfl, SqT.same ac1.sub ht, atI_nat (j := 1) rfl, ?_⟩
      refine ⟨_, rfl, _, rfl, l, tv, ts0.map (·.1), rfl, SqL.of (s1 _ _ hl), heads_mono ac1.sub (heads ties fun v c h => HeadAt.tie h), by rw [List.length_map]; omega, fun q2 H2 s2 _ hq2 => ?_⟩
      refine ⟨q2, _, rfl, .inl (SqL.of hq2), rfl, strs_flat _, false, congrArg V.bl ?_, pull_false rfl ?_⟩
      · rw [if_neg Bool.false_ne_true, in_strs, decide_eq_false f5]
      refine ⟨_, rfl, _, rfl, f6, fun H3 s3 => ⟨true, rfl, pull_false rfl ?_⟩⟩
      refine ⟨_, rfl, _, rfl, f7, fun H4 s4 => ⟨true, rfl, iteF ?_⟩⟩
      have s14 := s1.trans (s2.trans (s3.trans s4))
      refine ⟨_, rfl, .inl ⟨rfl, _, SqL.of (s14 _ _ hl)⟩, _, rfl, _, rfl, _, rfl, by show 3 ≤ sizeLine; decide, fun t2 nt2 => ?_⟩
      have s15 := s14.trans (same_upd (o := .tup [V.str t.1, V.str t.2.1, V.str t.2.2]) nt2)
      obtain ⟨ac3, sg3⟩ := (ac.more s15).fix (t := t2) (xs := [V.str t.1, V.str t.2.1, V.str t.2.2]) upd_same
      have gl2 : (upd G t2 (.tup [V.str t.1, V.str t.2.1, V.str t.2.2])) l = none := by
        rw [upd_ne (ne_of_none (s14 _ _ hl) nt2)]
        exact gl
      refine ⟨l, tv, _, rfl, rfl, s15 _ _ hl, ?_, ?_⟩
      · have := ties.length
        show tv.length < 16777216
        omega
      exact k _ _ sg3 (ac3.addTie f1 (s15 _ _ h3) (front.mono fun v c h => h.same sg3) (SqT.same sg3 ht) gl2 ls lp lj (s15 _ _ hl) (ties.mono fun v c h => h.same sg3) ⟨t2, rfl, SqT.of upd_same⟩)
end
end Ct

/-! A circuit's lines: read one behind the other they tell the circuit again. -/
namespace Ct
open PySem PySem.Spec PyProof.Rows L2 TL
def Line.text (l : Line) : Str := Txt.join " " l.words
def linesOf (o : Own) : List Line := o.sources.map Line.src ++ (o.parts.map Line.prt ++ o.joinings.flatMap fun j => Line.joi j.1 :: j.2.map Line.tie)
def emp : Own := ⟨[], [], []⟩
def FitsFrom : Own → List Line → Prop
  | _, [] => True
  | o, l :: r => Fits o l ∧ FitsFrom (o.add l) r
theorem fits_app : ∀ (a b : List Line) (o : Own), FitsFrom o a → FitsFrom (a.foldl Own.add o) b → FitsFrom o (a ++ b)
  | [], _, _, _, h => h
  | l :: r, b, o, ⟨h1, h2⟩, h3 => ⟨h1, fits_app r b (o.add l) h2 h3⟩
/-! ### the texts -/
theorem join_two (a b : Str) : Txt.join " " [a, b] = a ++ " " ++ b := by
  rw [TL.join_eq]
  refine ext_tl ?_
  rw [tl_join]
  simp only [List.map_cons, List.map_nil, joinL, tl_append, List.append_assoc]
theorem join_three (a b c : Str) : Txt.join " " [a, b, c] = a ++ " " ++ b ++ " " ++ c := by
  rw [TL.join_eq]
  refine ext_tl ?_
  rw [tl_join]
  simp only [List.map_cons, List.map_nil, joinL, tl_append, List.append_assoc]
theorem join_four (a b c d : Str) : Txt.join " " [a, b, c, d] = a ++ " " ++ Txt.join " " [b, c, d] := by
  rw [join_three, TL.join_eq]
  refine ext_tl ?_
  rw [tl_join]
  simp only [List.map_cons, List.map_nil, joinL, tl_append, List.append_assoc]
theorem kw_src : ("source " : Str) = ("source" : Str) ++ " " := by decide +kernel
theorem kw_prt : ("part " : Str) = ("part" : Str) ++ " " := by decide +kernel
theorem kw_joi : ("joining " : Str) = ("joining" : Str) ++ " " := by decide +kernel
theorem kw_tie : ("tie " : Str) = ("tie" : Str) ++ " " := by decide +kernel
theorem rows_lines (o : Own) : rowsOf o = ("circuit" : Str) :: (linesOf o).map Line.text := by
  unfold rowsOf linesOf
  have e1 : (o.sources.map Line.src).map Line.text = o.sources.map (entLine "source ") := by
    rw [List.map_map]
    refine List.map_congr_left fun e _ => ?_
    show Txt.join " " ["source", e.1, fracText e.2] = _
    rw [join_three]
    unfold entLine
    rw [kw_src]
  have e2 : (o.parts.map Line.prt).map Line.text = o.parts.map (entLine "part ") := by
    rw [List.map_map]
    refine List.map_congr_left fun e _ => ?_
    show Txt.join " " ["part", e.1, fracText e.2] = _
    rw [join_three]
    unfold entLine
    rw [kw_prt]
  have e3 : (o.joinings.flatMap fun j => Line.joi j.1 :: j.2.map Line.tie).map Line.text = o.joinings.flatMap joiRows := by
    rw [List.map_flatMap]
    congr 1
    funext j
    unfold joiRows
    rw [List.map_cons, List.map_map]
    have a1 : Line.text (.joi j.1) = joiLine j.1 := by
      show Txt.join " " ["joining", j.1] = _
      rw [join_two]
      unfold joiLine
      rw [kw_joi]
    rw [a1]
    congr 1
    refine List.map_congr_left fun t _ => ?_
    show Txt.join " " ["tie", t.1, t.2.1, t.2.2] = _
    rw [join_four]
    unfold tieLine
    rw [kw_tie]
  rw [List.map_append, List.map_append, e1, e2, e3, List.append_assoc]
/-! ### read again -/
theorem fold_src (P : List (Str × Int × Int)) (J : List (Str × List (Str × Str × Str))) : ∀ (S S0 : List (Str × Int × Int)), (S.map Line.src).foldl Own.add ⟨S0, P, J⟩ = ⟨S0 ++ S, P, J⟩
  | [], S0 => by rw [List.append_nil]; rfl
  | e :: r, S0 => by
    show (r.map Line.src).foldl Own.add ⟨S0 ++ [e], P, J⟩ = _
    rw [fold_src P J r (S0 ++ [e]), List.append_assoc]
    rfl
theorem fold_prt (S : List (Str × Int × Int)) (J : List (Str × List (Str × Str × Str))) : ∀ (P P0 : List (Str × Int × Int)), (P.map Line.prt).foldl Own.add ⟨S, P0, J⟩ = ⟨S, P0 ++ P, J⟩
  | [], P0 => by rw [List.append_nil]; rfl
  | e :: r, P0 => by
    show (r.map Line.prt).foldl Own.add ⟨S, P0 ++ [e], J⟩ = _
    rw [fold_prt S J r (P0 ++ [e]), List.append_assoc]
    rfl
theorem fold_tie (S P : List (Str × Int × Int)) (J : List (Str × List (Str × Str × Str))) (x : Str) : ∀ (ts ts0 : List (Str × Str × Str)), (ts.map Line.tie).foldl Own.add ⟨S, P, J ++ [(x, ts0)]⟩ = ⟨S, P, J ++ [(x, ts0 ++ ts)]⟩
  | [], ts0 => by rw [List.append_nil]; rfl
  | t :: r, ts0 => by
    show (r.map Line.tie).foldl Own.add ⟨S, P, addTie t (J ++ [(x, ts0)])⟩ = _
    rw [addTie_last, fold_tie S P J x r (ts0 ++ [t]), List.append_assoc]
    rfl
theorem fold_joi (S P : List (Str × Int × Int)) : ∀ (J J0 : List (Str × List (Str × Str × Str))), (J.flatMap fun j => Line.joi j.1 :: j.2.map Line.tie).foldl Own.add ⟨S, P, J0⟩ = ⟨S, P, J0 ++ J⟩
  | [], J0 => by rw [List.append_nil]; rfl
  | (x, ts) :: r, J0 => by
    rw [List.flatMap_cons, List.foldl_append]
    show (r.flatMap fun j => Line.joi j.1 :: j.2.map Line.tie).foldl Own.add ((ts.map Line.tie).foldl Own.add ⟨S, P, J0 ++ [(x, [])]⟩) = _
    rw [fold_tie S P J0 x ts [], List.nil_append, fold_joi S P r (J0 ++ [(x, ts)]), List.append_assoc]
    rfl
theorem fold_lines (o : Own) : (linesOf o).foldl Own.add emp = o := by
  unfold linesOf emp
  rw [List.foldl_append, fold_src, List.foldl_append, List.nil_append, fold_prt, List.nil_append, fold_joi, List.nil_append]
theorem notin_of {α : Type} {a : List α} {x : α} {r : List α} (h : (a ++ x :: r).Nodup) : x ∉ a := fun hx => by
  have := (List.nodup_append.mp h).2.2 x hx x List.mem_cons_self
  exact this rfl
theorem fits_src : ∀ (S S0 : List (Str × Int × Int)), S0.length + S.length ≤ 4 → ((S0 ++ S).map (·.1)).Nodup → (∀ e ∈ S, Name e.1 ∧ FrOk e.2) → FitsFrom ⟨S0, [], []⟩ (S.map Line.src)
  | [], _, _, _, _ => trivial
  | e :: r, S0, hl, nd, ok => by
    have q := ok e List.mem_cons_self
    rw [List.length_cons] at hl
    refine ⟨⟨rfl, q.1, q.2, by show S0.length < 4; omega, ?_⟩, ?_⟩
    · rw [List.map_append, List.map_cons] at nd
      exact notin_of nd
    · exact fits_src r (S0 ++ [e]) (by rw [List.length_append, List.length_singleton]; omega) (by rw [List.append_assoc]; exact nd) fun z hz => ok z (List.mem_cons_of_mem _ hz)
theorem fits_prt (S : List (Str × Int × Int)) : ∀ (P P0 : List (Str × Int × Int)), P0.length + P.length ≤ 8 → ((P0 ++ P).map (·.1)).Nodup → (∀ e ∈ P, Name e.1 ∧ FrOk e.2 ∧ 0 < e.2.1) → FitsFrom ⟨S, P0, []⟩ (P.map Line.prt)
  | [], _, _, _, _ => trivial
  | e :: r, P0, hl, nd, ok => by
    have q := ok e List.mem_cons_self
    rw [List.length_cons] at hl
    refine ⟨⟨rfl, q.1, q.2.1, q.2.2, by show P0.length < 8; omega, ?_⟩, ?_⟩
    · rw [List.map_append, List.map_cons] at nd
      exact notin_of nd
    · exact fits_prt S r (P0 ++ [e]) (by rw [List.length_append, List.length_singleton]; omega) (by rw [List.append_assoc]; exact nd) fun z hz => ok z (List.mem_cons_of_mem _ hz)
theorem fits_tie (S P : List (Str × Int × Int)) (hP : P.length ≤ 8) (J : List (Str × List (Str × Str × Str))) (x : Str) : ∀ (ts ts0 : List (Str × Str × Str)), ts0.length + ts.length ≤ 8 → ((ts0 ++ ts).map (·.1)).Nodup →
    (∀ t ∈ ts, t.1 ∈ P.map (·.1) ∧ Junc t.2.1 ∧ Junc t.2.2) → FitsFrom ⟨S, P, J ++ [(x, ts0)]⟩ (ts.map Line.tie)
  | [], _, _, _, _ => trivial
  | t :: r, ts0, hl, nd, ok => by
    have q := ok t List.mem_cons_self
    rw [List.length_cons] at hl
    refine ⟨⟨J, x, ts0, rfl, hP, by omega, q.1, ?_, q.2.1, q.2.2⟩, ?_⟩
    · rw [List.map_append, List.map_cons] at nd
      exact notin_of nd
    · show FitsFrom ⟨S, P, addTie t (J ++ [(x, ts0)])⟩ _
      rw [addTie_last]
      exact fits_tie S P hP J x r (ts0 ++ [t]) (by rw [List.length_append, List.length_singleton]; omega) (by rw [List.append_assoc]; exact nd) fun z hz => ok z (List.mem_cons_of_mem _ hz)
theorem fits_joi (S P : List (Str × Int × Int)) (hP : P.length ≤ 8) (hP1 : P ≠ []) : ∀ (J J0 : List (Str × List (Str × Str × Str))), J0.length + J.length ≤ 6 → ((J0 ++ J).map (·.1)).Nodup → (∀ j ∈ J, JoiOk (P.map (·.1)) j) →
    FitsFrom ⟨S, P, J0⟩ (J.flatMap fun j => Line.joi j.1 :: j.2.map Line.tie)
  | [], _, _, _, _ => trivial
  | (x, ts) :: r, J0, hl, nd, ok => by
    have q := ok (x, ts) List.mem_cons_self
    rw [List.length_cons] at hl
    rw [List.flatMap_cons]
    refine fits_app _ _ _ ⟨⟨hP1, q.name, by show J0.length < 6; omega, ?_⟩, ?_⟩ ?_
    · rw [List.map_append, List.map_cons] at nd
      exact notin_of nd
    · exact fits_tie S P hP J0 x ts [] (by have h8 : ts.length ≤ 8 := q.few; rw [List.length_nil]; omega) q.once q.tie
    · show FitsFrom ((ts.map Line.tie).foldl Own.add ⟨S, P, J0 ++ [(x, [])]⟩) _
      rw [fold_tie S P J0 x ts [], List.nil_append]
      exact fits_joi S P hP hP1 r (J0 ++ [(x, ts)]) (by rw [List.length_append, List.length_singleton]; omega) (by rw [List.append_assoc]; exact nd) fun z hz => ok z (List.mem_cons_of_mem _ hz)
theorem fits_lines {o : Own} (ok : OwnOk o) : FitsFrom emp (linesOf o) := by
  unfold linesOf emp
  refine fits_app _ _ _ (fits_src o.sources [] (by rw [List.length_nil]; have := ok.s_few; omega) ok.s_once ok.src) ?_
  rw [fold_src, List.nil_append]
  refine fits_app _ _ _ (fits_prt o.sources o.parts [] (by rw [List.length_nil]; have := ok.p_few; omega) ok.p_once ok.prt) ?_
  rw [fold_prt, List.nil_append]
  refine fits_joi o.sources o.parts ok.p_few (fun z => ?_) o.joinings [] (by rw [List.length_nil]; have := ok.j_few; omega) ok.j_once ok.joi
  have := ok.p_some
  rw [z] at this
  exact absurd this (by decide)
/-! ### words without blanks, lines without line feeds -/
theorem name_free {x : Str} (h : Name x) {s : Nat} (hs : s < 97) : s ∉ tl x := fun hm => by
  have := h.2.2.1 s hm
  omega
theorem junc_free {x : Str} (h : Junc x) {s : Nat} (hs : s < 97) : s ∉ tl x := by
  rcases h with rfl | h
  · rw [show tl ("gnd" : Str) = [103, 110, 100] by decide +kernel]
    simp
    omega
  · exact name_free h hs
theorem frac_free {f : Int × Int} {s : Nat} (h : s < 45) : s ∉ tl (fracText f) := by
  unfold fracText
  split
  · exact num_free (.inl h)
  · rw [tl_append, tl_append]
    simp only [List.mem_append, not_or]
    refine ⟨⟨num_free (.inl h), ?_⟩, num_free (.inl h)⟩
    rw [show tl ("/" : Str) = [47] by decide +kernel]
    simp
    omega
theorem word_free {o : Own} {l : Line} (h : Fits o l) (hp : ∀ e ∈ o.parts, Name e.1) {s : Nat} (hs : s < 45) : ∀ x ∈ l.words, s ∉ tl x := by
  have k : ∀ x : Str, (tl x).all (fun c => decide (97 ≤ c)) = true → s ∉ tl x := fun x hx hm => by
    have := List.all_eq_true.mp hx s hm
    have := of_decide_eq_true this
    omega
  cases l with
  | src e =>
    obtain ⟨_, h2, _⟩ := h
    intro x hx
    simp only [Line.words, List.mem_cons, List.not_mem_nil, or_false] at hx
    rcases hx with rfl | rfl | rfl
    · exact k _ (by decide +kernel)
    · exact name_free h2 (by omega)
    · exact frac_free hs
  | prt e =>
    obtain ⟨_, h2, _⟩ := h
    intro x hx
    simp only [Line.words, List.mem_cons, List.not_mem_nil, or_false] at hx
    rcases hx with rfl | rfl | rfl
    · exact k _ (by decide +kernel)
    · exact name_free h2 (by omega)
    · exact frac_free hs
  | joi y =>
    obtain ⟨_, h2, _⟩ := h
    intro x hx
    simp only [Line.words, List.mem_cons, List.not_mem_nil, or_false] at hx
    rcases hx with rfl | rfl
    · exact k _ (by decide +kernel)
    · exact name_free h2 (by omega)
  | tie t =>
    obtain ⟨_, _, _, _, _, _, h2, _, h3, h4⟩ := h
    obtain ⟨e, he, ee⟩ := List.mem_map.mp h2
    intro x hx
    simp only [Line.words, List.mem_cons, List.not_mem_nil, or_false] at hx
    rcases hx with rfl | rfl | rfl | rfl
    · exact k _ (by decide +kernel)
    · exact ee ▸ name_free (hp e he) (by omega)
    · exact junc_free h3 (by omega)
    · exact junc_free h4 (by omega)
theorem blank_tl : tl (" " : Str) = 32 :: [] := by decide +kernel
theorem feed_tl : tl ("\n" : Str) = 10 :: [] := by decide +kernel
theorem words_ne (l : Line) : l.words ≠ [] := by cases l <;> exact fun z => nomatch z
theorem line_split {o : Own} {l : Line} (h : Fits o l) (hp : ∀ e ∈ o.parts, Name e.1) : Txt.split l.text " " = l.words := by
  unfold Line.text
  exact split_join blank_tl (by decide +kernel) (words_ne l) (word_free h hp (by decide))
theorem join_mem {S : List Nat} {c : Nat} : ∀ {ps : List (List Nat)}, c ∈ joinL S ps → c ∈ S ∨ ∃ p ∈ ps, c ∈ p
  | [], h => nomatch h
  | [p], h => .inr ⟨p, List.mem_cons_self, h⟩
  | p :: q :: r, h => by
    simp only [joinL, List.mem_append] at h
    rcases h with h | h | h
    · exact .inr ⟨p, List.mem_cons_self, h⟩
    · exact .inl h
    · rcases join_mem (ps := q :: r) h with h | ⟨z, hz, hc⟩
      · exact .inl h
      · exact .inr ⟨z, List.mem_cons_of_mem _ hz, hc⟩
theorem text_free {o : Own} {l : Line} (h : Fits o l) (hp : ∀ e ∈ o.parts, Name e.1) : 10 ∉ tl l.text := by
  unfold Line.text
  rw [TL.join_eq, tl_join]
  intro hm
  rcases join_mem hm with hm | ⟨p, hp2, hm⟩
  · rw [blank_tl] at hm
    simp at hm
  · obtain ⟨x, hx, rfl⟩ := List.mem_map.mp hp2
    exact word_free h hp (by decide) x hx hm
def PartsOk (o : Own) : Prop := ∀ e ∈ o.parts, Name e.1
theorem parts_add {o : Own} {l : Line} (h : Fits o l) (hp : PartsOk o) : PartsOk (o.add l) := by
  cases l with
  | prt e =>
    intro z hz
    have hz : z ∈ o.parts ++ [e] := hz
    rcases List.mem_append.mp hz with hz | hz
    · exact hp z hz
    · rw [List.mem_singleton] at hz
      exact hz ▸ h.2.1
  | src e => exact hp
  | joi x => exact hp
  | tie t => exact hp
theorem all_free : ∀ {ls : List Line} {o : Own}, FitsFrom o ls → PartsOk o → ∀ l ∈ ls, 10 ∉ tl l.text
  | [], _, _, _, _, h => nomatch h
  | l :: r, o, ⟨h1, h2⟩, hp, z, hz => by
    rcases List.mem_cons.mp hz with rfl | hz
    · exact text_free h1 hp
    · exact all_free h2 (parts_add h1 hp) z hz
theorem rows_free {o : Own} (ok : OwnOk o) : ∀ y ∈ rowsOf o, 10 ∉ tl y := by
  rw [rows_lines]
  intro y hy
  rcases List.mem_cons.mp hy with rfl | hy
  · decide +kernel
  · obtain ⟨l, hl, rfl⟩ := List.mem_map.mp hy
    exact all_free (fits_lines ok) (fun e he => nomatch he) l hl
theorem text_split {o : Own} (ok : OwnOk o) : Txt.split (textOf o) "\n" = rowsOf o := by
  unfold textOf
  exact split_join feed_tl (by decide +kernel) (by rw [rows_lines]; exact fun z => nomatch z) (rows_free ok)
end Ct

namespace Ct
open PySem PySem.Spec PyProof.Rows L2 TL
abbrev s_read_lines : Stmt := top 36
abbrev N_read_lines : List Str := ["lines", "sources", "parts", "joinings", "number", "line"]
theorem sc_read_lines : FnScope N_read_lines ["lines"] (defScope s_read_lines) := ⟨rfl, rfl, rfl, by decide +kernel, rfl, by decide +kernel, by decide +kernel⟩
/-- all lines are taken: three lists -/
def spReadLines (K : PySem.W.Frag) : Sp := fun vs H Q _ => ∃ (a : Addr) (ls : List Line), vs = [.ref a] ∧ SqL K H a (txts (("circuit" : Str) :: ls.map Line.text)) ∧ FitsFrom emp ls ∧ ls.length ≤ 100 ∧ (∀ l ∈ ls, l.text.length ≤ 4000) ∧ (ls.foldl Own.add emp).joinings ≠ [] ∧
  ∀ (t s p j : Addr) (G' H' : Hp), Same H G' → Acc K G' H' s p j (ls.foldl Own.add emp) → H' t = some (.tup [.ref s, .ref p, .ref j]) → Q (.ref t) H'
theorem walk_from {K : PySem.W.Frag} {k : Int} {a : Addr} {xs : List V} : Walk (ItFrom K k a) xs.length (fun H => SqL K H a xs) (fun i H v H' => ∃ T x, v = .ref T ∧ H T = none ∧ H' = upd H T (.tup [.int (k + (i : Nat)), x]) ∧ xs[i]? = some x) := by
  refine ⟨fun i _ hi q => ⟨xs, xs[i], q, by simp [hi]⟩, fun _ q => ⟨xs, q, Nat.le_refl _⟩, fun i H v H' _ q y => ?_⟩
  obtain ⟨T, x, h1, h2, h3, h4⟩ := y
  exact ⟨T, x, h1, h2, h3, h4 xs q⟩
theorem sp_len1 : (" " : Str).length = 1 := by decide +kernel
theorem ws_1 : ¬ ("part" : Str) = "source" := by decide +kernel
theorem ws_2 : ¬ ("joining" : Str) = "source" := by decide +kernel
theorem ws_3 : ¬ ("tie" : Str) = "source" := by decide +kernel
theorem ws_4 : ¬ ("joining" : Str) = "part" := by decide +kernel
theorem ws_5 : ¬ ("tie" : Str) = "part" := by decide +kernel
theorem ws_6 : ¬ ("tie" : Str) = "joining" := by decide +kernel
theorem st_ne {x y : Str} (h : ¬ x = y) : decide (V.str x = V.str y) = false := decide_eq_false fun z => h (V.str.inj z)
section
variable {P : Program} {w : World} {K : PySem.W.Frag} {mg : Str → Option Value} {base : Heap}
theorem k_takes_line (D : Lies K mg "_takes_line" s_takes_line) (T : Plain mg) (G_takes_source : Keeps P w K mg base 4 "_takes_source" ["words", "sources", "parts"] (spTSrc K)) (G_takes_part : Keeps P w K mg base 4 "_takes_part" ["words", "parts", "joinings"] (spTPrt K))
    (G_takes_joining : Keeps P w K mg base 3 "_takes_joining" ["words", "parts", "joinings"] (spTJoi K)) (G_takes_tie : Keeps P w K mg base 3 "_takes_tie" ["words", "parts", "joinings"] (spTTie K)) : Keeps P w K mg base 5 "_takes_line" ["words", "sources", "parts", "joinings"] (spTLine K) := by
  refine D.keeps sc_takes_line (fun _ _ _ _ _ _ us hl => bindsL4 (fun _ _ _ _ => rfl) us hl) (fun vs H Q E h => ?_) (fun f cdv A outer s0 H vs Q E hr h => ?_)
  · obtain ⟨a, s, p, j, G, o, x, rfl, _⟩ := h
    rfl
  · obtain ⟨a, s, p, j, G, o, l, rfl, ac, hS, hf, k⟩ := h
    have hS1 := Same.seq ac.sub hS
    refine ⟨_, (pss_cons (ps_if (PW.pt (pw_and (pt_cmpR op_eq (pe_ix ix_list (pv 0) pe_int (fun _ _ => rfl)) pe_str (nomark _)) (pw_and1 (pt_cmpR op_eq (pe_callB call_len_seq (by rfl) T.n_len b_len (pa_cons (pv 0) pa_nil)) pe_int (nomark _)))))
        (pss_one (ps_ret (pe_go G_takes_source (hr.mono (by decide)) rfl (pa_cons (pv 0) (pa_cons (pv 1) (pa_cons (pv 2) pa_nil))))))
        pss_nil)
      (pss_cons (ps_if (PW.pt (pw_and (pt_cmpR op_eq (pe_ix ix_list (pv 0) pe_int (fun _ _ => rfl)) pe_str (nomark _)) (pw_and1 (pt_cmpR op_eq (pe_callB call_len_seq (by rfl) T.n_len b_len (pa_cons (pv 0) pa_nil)) pe_int (nomark _)))))
        (pss_one (ps_ret (pe_go G_takes_part (hr.mono (by decide)) rfl (pa_cons (pv 0) (pa_cons (pv 2) (pa_cons (pv 3) pa_nil))))))
        pss_nil)
      (pss_cons (ps_if (PW.pt (pw_and (pt_cmpR op_eq (pe_ix ix_list (pv 0) pe_int (fun _ _ => rfl)) pe_str (nomark _)) (pw_and1 (pt_cmpR op_eq (pe_callB call_len_seq (by rfl) T.n_len b_len (pa_cons (pv 0) pa_nil)) pe_int (nomark _)))))
        (pss_one (ps_ret (pe_go G_takes_joining (hr.mono (by decide)) rfl (pa_cons (pv 0) (pa_cons (pv 2) (pa_cons (pv 3) pa_nil))))))
        pss_nil)
      (pss_cons (ps_if (PW.pt (pw_and (pt_cmpR op_eq (pe_ix ix_list (pv 0) pe_int (fun _ _ => rfl)) pe_str (nomark _)) (pw_and1 (pt_cmpR op_eq (pe_callB call_len_seq (by rfl) T.n_len b_len (pa_cons (pv 0) pa_nil)) pe_int (nomark _)))))
        (pss_one (ps_ret (pe_go G_takes_tie (hr.mono (by decide)) rfl (pa_cons (pv 0) (pa_cons (pv 2) (pa_cons (pv 3) pa_nil))))))
        pss_nil)
      (pss_one (ps_ret pe_bl)))))), ?_⟩
    cases l with
    | src e =>
      refine ⟨_, rfl, a, _, _, _, rfl, rfl, hS1, atI_nat (j := 0) rfl, rfl, _, rfl, if_true_of' (decide_eq_true rfl) ⟨_, rfl, a, _, rfl, .inl hS1, rfl, _, rfl, if_true_of' (decide_eq_true rfl) ?_⟩⟩
      exact ⟨_, rfl, _, rfl, _, rfl, a, s, p, j, G, o, e, rfl, ac, hS, hf, k⟩
    | prt e =>
      refine ⟨_, rfl, a, _, _, _, rfl, rfl, hS1, atI_nat (j := 0) rfl, rfl, _, rfl, pull_false (st_ne ws_1) (iteF ?_)⟩
      refine ⟨_, rfl, a, _, _, _, rfl, rfl, hS1, atI_nat (j := 0) rfl, rfl, _, rfl, if_true_of' (decide_eq_true rfl) ⟨_, rfl, a, _, rfl, .inl hS1, rfl, _, rfl, if_true_of' (decide_eq_true rfl) ?_⟩⟩
      exact ⟨_, rfl, _, rfl, _, rfl, a, s, p, j, G, o, e, rfl, ac, hS, hf, k⟩
    | joi x =>
      refine ⟨_, rfl, a, _, _, _, rfl, rfl, hS1, atI_nat (j := 0) rfl, rfl, _, rfl, pull_false (st_ne ws_2) (iteF ?_)⟩
      refine ⟨_, rfl, a, _, _, _, rfl, rfl, hS1, atI_nat (j := 0) rfl, rfl, _, rfl, pull_false (st_ne ws_4) (iteF ?_)⟩
      refine ⟨_, rfl, a, _, _, _, rfl, rfl, hS1, atI_nat (j := 0) rfl, rfl, _, rfl, if_true_of' (decide_eq_true rfl) ⟨_, rfl, a, _, rfl, .inl hS1, rfl, _, rfl, if_true_of' (decide_eq_true rfl) ?_⟩⟩
      exact ⟨_, rfl, _, rfl, _, rfl, a, s, p, j, G, o, x, rfl, ac, hS, hf, k⟩
    | tie t =>
      refine ⟨_, rfl, a, _, _, _, rfl, rfl, hS1, atI_nat (j := 0) rfl, rfl, _, rfl, pull_false (st_ne ws_3) (iteF ?_)⟩
      refine ⟨_, rfl, a, _, _, _, rfl, rfl, hS1, atI_nat (j := 0) rfl, rfl, _, rfl, pull_false (st_ne ws_5) (iteF ?_)⟩
      refine ⟨_, rfl, a, _, _, _, rfl, rfl, hS1, atI_nat (j := 0) rfl, rfl, _, rfl, pull_false (st_ne ws_6) (iteF ?_)⟩
      refine ⟨_, rfl, a, _, _, _, rfl, rfl, hS1, atI_nat (j := 0) rfl, rfl, _, rfl, if_true_of' (decide_eq_true rfl) ⟨_, rfl, a, _, rfl, .inl hS1, rfl, _, rfl, if_true_of' (decide_eq_true rfl) ?_⟩⟩
      exact ⟨_, rfl, _, rfl, _, rfl, a, s, p, j, G, o, t, rfl, ac, hS, hf, k⟩
theorem fits_at : ∀ {ls : List Line} {o : Own} {i : Nat} {l : Line}, FitsFrom o ls → PartsOk o → ls[i]? = some l → Fits ((ls.take i).foldl Own.add o) l ∧ PartsOk ((ls.take i).foldl Own.add o)
  | [], _, _, _, _, _, h => by simp at h
  | x :: r, o, 0, l, ⟨h1, _⟩, hp, h => by
    simp at h
    subst h
    exact ⟨h1, hp⟩
  | x :: r, o, i + 1, l, ⟨h1, h2⟩, hp, h => by
    show Fits ((r.take i).foldl Own.add (o.add x)) l ∧ PartsOk ((r.take i).foldl Own.add (o.add x))
    exact fits_at h2 (parts_add h1 hp) (by simpa using h)
theorem k_read_lines (D : Lies K mg "_read_lines" s_read_lines) (T : Plain mg) (G_takes_line : Keeps P w K mg base 5 "_takes_line" ["words", "sources", "parts", "joinings"] (spTLine K)) : Keeps P w K mg base 6 "_read_lines" ["lines"] (spReadLines K) := by
  refine D.keeps sc_read_lines (fun _ _ _ _ _ _ us hl => bindsL1 (fun _ => rfl) us hl) (fun vs H Q E h => ?_) (fun f cdv A outer s0 H vs Q E hr h => ?_)
  · obtain ⟨a, ls, rfl, _⟩ := h
    rfl
  · obtain ⟨a, ls, rfl, hS, hf, hn, hsh, hj, k⟩ := h
    refine ⟨_, (pss_cons (ps_par3 (i := 1) (j := 2) (l := 3) (by rfl) sc_read_lines.nd rfl rfl rfl (by decide) (by decide) (by decide) rfl rfl rfl (pa_cons (pe_lst pa_nil) (pa_cons (pe_lst pa_nil) (pa_cons (pe_lst pa_nil) pa_nil))) (by rfl))
      (pss_cons (ps_if (pt_cmpR op_ne (pe_ix ix_list (pv 0) pe_int (fun _ _ => rfl)) pe_str (nomark _))
        (pss_one (ps_never))
        pss_nil)
      (pss_cons (ps_for PassesOwn.never rfl (pi_from rfl T.n_enumerate (by decide) (by decide) (pa_cons (pe_slice sl_list (pv 0) (po_some pe_int) po_none) pa_nil)) (pg_tup rfl (pgs_cons (pg_name (i := 4) sc_read_lines.nd rfl (Or.inl rfl)) (pgs_cons (pg_name (i := 5) sc_read_lines.nd rfl (Or.inl rfl)) pgs_nil)))
        (pss_one (ps_if (pt_not (pt_val (pe_go G_takes_line (hr.mono (by decide)) rfl (pa_cons (pe_split (pv 5) pe_str) (pa_cons (pv 1) (pa_cons (pv 2) (pa_cons (pv 3) pa_nil)))))))
          (pss_one (ps_never))
          pss_nil)))
      (pss_cons (ps_if (pt_not (pt_truth (pv 3) (by intro _; rfl)))
        (pss_one (ps_never))
        pss_nil)
      (pss_one (ps_ret (pe_tup (pa_cons (pv 1) (pa_cons (pv 2) (pa_cons (pv 3) pa_nil)))))))))), ?_⟩
    refine ⟨Nat.zero_le _, fun s ns => ⟨Nat.zero_le _, fun p np => ⟨Nat.zero_le _, fun j nj => ⟨_, _, _, rfl, ?_⟩⟩⟩⟩
    have sp : s ≠ p := ne_of_none upd_same np
    have pj : p ≠ j := ne_of_none upd_same nj
    have sj : s ≠ j := ne_of_none ((upd_ne sp).trans upd_same) nj
    have h1 : Same H (upd (upd (upd H s (.lst [])) p (.lst [])) j (.lst [])) := (same_upd ns).trans ((same_upd np).trans (same_upd nj))
    have hp : H p = none := by rw [upd_ne sp.symm] at np; exact np
    have hj0 : H j = none := by rw [upd_ne pj.symm, upd_ne sj.symm] at nj; exact nj
    have ac : Acc K H (upd (upd (upd H s (.lst [])) p (.lst [])) j (.lst [])) s p j emp :=
      ⟨h1, ns, hp, hj0, sp, sj, pj, ⟨[], by rw [upd_ne sj, upd_ne sp]; exact upd_same, .nil⟩, ⟨[], by rw [upd_ne pj]; exact upd_same, .nil⟩, ⟨[], upd_same, .nil⟩⟩
    generalize upd (upd (upd H s (.lst [])) p (.lst [])) j (.lst []) = H1 at *
    refine ⟨_, rfl, a, _, _, _, rfl, rfl, Same.seq h1 hS, atI_nat (j := 0) rfl, rfl, _, rfl, pull_false (by rw [decide_eq_true rfl]; rfl) ?_⟩
    refine ⟨_, rfl, (1 : Int), rfl, a, _, rfl, Same.seq h1 hS, fun q nq => ⟨q, _, rfl, SqL.of upd_same, ?_⟩⟩
    have ecut : cutV (txts (("circuit" : Str) :: ls.map Line.text)) (some 1) none = txts (ls.map Line.text) := by
      unfold cutV txts
      rw [List.map_cons]
      have e1 : HT.sIx ((V.str "circuit") :: (ls.map Line.text).map V.str).length 0 (some 1) = 1 := by
        show min 1 (((ls.map Line.text).map V.str).length + 1) = 1
        omega
      rw [e1]
      show ((ls.map Line.text).map V.str).take _ = _
      refine List.take_of_length_le ?_
      show _ ≤ ((ls.map Line.text).map V.str).length + 1 - 1
      omega
    rw [ecut]
    obtain ⟨ac1, sg1⟩ := ac.fixL (t := q) (xs := txts (ls.map Line.text)) nq
    refine for_it (walk_from (xs := txts (ls.map Line.text))) (fun i σ H' => ∃ (v4 v5 : Option V) (Gi : Hp), σ = [some (.ref a), some (.ref s), some (.ref p), some (.ref j), v4, v5] ∧ Same (upd H q (.lst (txts (ls.map Line.text)))) Gi ∧ Acc K Gi H' s p j ((ls.take i).foldl Own.add emp))
      ⟨none, none, _, rfl, Same.refl _, ac1⟩ (fun i σ H' _ ⟨_, _, Gi, _, sg, aci⟩ => SqL.of (aci.sub _ _ (sg _ _ upd_same))) ?_ ?_
    · rintro i x σ H2 H3 hi ⟨v4, v5, Gi, rfl, sg, aci⟩ ⟨t, y, rfl, nt, rfl, hy⟩
      obtain ⟨l, hl, rfl⟩ : ∃ l, ls[i]? = some l ∧ y = V.str l.text := by
        unfold txts at hy
        rw [List.map_map, List.getElem?_map] at hy
        cases e : ls[i]? with
        | none => rw [e] at hy; cases hy
        | some l => rw [e] at hy; exact ⟨l, rfl, (Option.some.inj hy).symm⟩
      obtain ⟨hfit, hpo⟩ := fits_at hf (fun e he => nomatch he) hl
      have aci2 := aci.more (same_upd (o := .tup [.int (2 + (i : Nat)), V.str l.text]) nt)
      refine ⟨t, _, rfl, SqT.of upd_same, rfl, _, _, rfl, _, _, rfl, ⟨rfl, ?_⟩⟩
      refine ⟨_, rfl, ⟨_, rfl⟩, _, _, rfl, rfl, by rw [sp_len1]; rfl, ?_, fun b nb => ?_⟩
      · have := hsh l (List.mem_of_getElem? hl)
        show l.text.length + 2 ≤ 16777216
        omega
      rw [line_split hfit hpo]
      obtain ⟨ac3, sg3⟩ := aci2.fixL (t := b) (xs := txts l.words) nb
      refine ⟨_, rfl, _, rfl, _, rfl, b, s, p, j, _, _, l, rfl, ac3, SqL.of upd_same, hfit, fun G' H' s4 ac4 => ⟨true, rfl, iteF ?_⟩⟩
      refine ⟨_, _, G', rfl, sg.trans (sg3.trans s4), ?_⟩
      rw [take_snoc hl, List.foldl_append]
      exact ac4
    · rintro σ H2 ⟨v4, v5, Gi, rfl, sg, aci⟩
      have e1 : (ls.take (txts (ls.map Line.text)).length) = ls := by
        unfold txts
        rw [List.length_map, List.length_map, List.take_length]
      rw [e1] at aci
      obtain ⟨v3, h3, r3⟩ := aci.joi
      have e2 : (!v3.isEmpty) = true := by
        have l := r3.len
        cases v3 with
        | nil => exact absurd (List.eq_nil_of_length_eq_zero l.symm) hj
        | cons _ _ => rfl
      refine ⟨_, rfl, true, .inl ⟨_, SqL.of h3, e2.symm⟩, iteF ?_⟩
      refine ⟨_, rfl, _, rfl, _, rfl, by show 3 ≤ sizeLine; decide, fun t nt => ?_⟩
      exact k t s p j Gi _ ((same_upd (by cases e : H q with | none => rfl | some z => rw [h1 _ _ e] at nq; cases nq)).trans sg) (aci.more (same_upd nt)) upd_same
end
end Ct

namespace Ct
open PySem PySem.Spec PyProof.Rows L2 TL
/-- the pot is made -/
def spPot (K : PySem.W.Frag) : Sp := fun vs H Q _ => ∃ (a : Addr) (ns : List Int) (j : Nat), vs = [.ref a, .int j] ∧ SqL K H a (ns.map V.int) ∧ j ≤ 10 ∧
  ∀ (p : Addr) (H' : Hp), H p = none → Beside p H H' → PotAt p H' 0 → Q (.ref p) H'
def spCells (K : PySem.W.Frag) : Sp := fun vs H Q _ => ∃ (a : Addr) (xs : List V) (m : Int), vs = [.ref a, .int m] ∧ SqL K H a xs ∧ 1 ≤ m ∧ m ≤ 3 ∧
  ∀ (c : Nat) (q : Addr), 1 ≤ c → c ≤ 3 → H q = none → Q (.ref q) (upd H q (.lst ((List.range c).map fun i => V.int (i : Nat))))
/-- one of the sizes -/
def spFracSize : Sp := fun vs H Q _ => ∃ (p : Addr) (G : Hp) (n : Nat), vs = [.ref p] ∧ Beside p G H ∧ PotAt p H n ∧ n + 1 ≤ 1000000 ∧
  ∀ (f : Int × Int) (t : Addr) (G' H' : Hp), f ∈ ([(1, 1), (2, 1), (1, 2), (3, 2), (2, 3), (3, 1), (1, 3), (5, 3), (4, 5)] : List (Int × Int)) → Same G G' → Beside p G' H' → PotAt p H' (n + 1) → G' t = some (.tup [.int f.1, .int f.2]) → Q (.ref t) H'
theorem bit_in (b : Bool) : (-(2 : Int) ^ 64 < if b = true then 1 else 0) ∧ (if b = true then (1 : Int) else 0) < 2 ^ 64 := by cases b <;> decide
theorem bit_nn (b : Bool) : (0 : Int) ≤ if b = true then 1 else 0 := by cases b <;> decide
section
variable {P : Program} {w : World} {K : PySem.W.Frag} {mg : Str → Option Value} {base : Heap}
theorem k_frac_drawn (D : Lies K mg "_law_frac_drawn" s_l_frac_drawn) (T : Plain mg) (G_l_take : Keeps P w K mg base 1 "_law_take" ["pot", "upto"] spTake) (G_l_of : Keeps P w K mg base 2 "_law_of" ["pot", "some"] (spOf K))
    (G_l_frac : Keeps P w K mg base 2 "_law_frac" ["top", "bottom"] spFrac) : Keeps P w K mg base 3 "_law_frac_drawn" ["pot", "low", "high"] spFracDrawn := by
  refine D.keeps sc_l_frac_drawn (fun _ _ _ _ _ _ us hl => bindsL3 (fun _ _ _ => rfl) us hl) (fun vs H Q E h => ?_) (fun f cdv A outer s H vs Q E hr h => ?_)
  · obtain ⟨p, G, n, low, high, rfl, _⟩ := h
    rfl
  · obtain ⟨p, G, n, low, high, rfl, bs, ht, hn, hl, hh, hu, k⟩ := h
    refine ⟨_, (pss_cons (ps_set (i := 3) sc_l_frac_drawn.nd rfl (Or.inl rfl) (pe_go G_l_of (hr.mono (by decide)) rfl (pa_cons (pv 0) (pa_cons (pe_lst (pa_cons pe_int (pa_cons pe_int (pa_cons pe_int (pa_cons pe_int (pa_cons pe_int (pa_cons pe_int pa_nil))))))) pa_nil))))
      (pss_one (ps_ret (pe_go G_l_frac (hr.mono (by decide)) rfl (pa_cons (pe_op op_add (pe_op op_mul (pv 1) (pv 3)) (pe_go G_l_take (hr.mono (by decide)) rfl (pa_cons (pv 0) (pa_cons (pe_op op_add (pe_op op_mul (pe_op op_sub (pv 2) (pv 1)) (pv 3)) pe_int) pa_nil)))) (pa_cons (pv 3) pa_nil)))))), ?_⟩
    refine ⟨_, rfl, by show 6 ≤ sizeLine; decide, fun l hl0 => ?_⟩
    obtain ⟨b1, s1, g1⟩ := bs.new (o := .lst [.int 1, .int 1, .int 1, .int 2, .int 3, .int 5]) ht.some hl0
    refine ⟨p, l, _, n, _, rfl, b1, ht.new hl0, by omega, SqL.of upd_same, by decide, by decide, fun i v G2 H2 hv s2 b2 t2 => ?_⟩
    obtain ⟨b, rfl, hb⟩ : ∃ b : Int, v = .int b ∧ (b = 1 ∨ b = 2 ∨ b = 3 ∨ b = 5) := by
      have hi : i < 6 := (List.getElem?_eq_some_iff.mp hv).1
      match i, hi, hv with
      | 0, _, e => exact ⟨1, (Option.some.inj e).symm, .inl rfl⟩
      | 1, _, e => exact ⟨1, (Option.some.inj e).symm, .inl rfl⟩
      | 2, _, e => exact ⟨1, (Option.some.inj e).symm, .inl rfl⟩
      | 3, _, e => exact ⟨2, (Option.some.inj e).symm, .inr (.inl rfl)⟩
      | 4, _, e => exact ⟨3, (Option.some.inj e).symm, .inr (.inr (.inl rfl))⟩
      | 5, _, e => exact ⟨5, (Option.some.inj e).symm, .inr (.inr (.inr rfl))⟩
    have hm : 0 ≤ (high - low) * b ∧ (high - low) * b ≤ 10000 := by rcases hb with rfl | rfl | rfl | rfl <;> omega
    have hb0 : 0 < b ∧ b < 10 := by omega
    refine ⟨_, rfl, _, rfl, _, _, rfl, rfl, .inl (by omega), _, rfl, _, rfl, _, rfl, _, _, rfl, rfl, _, rfl, _, _, rfl, rfl, .inl (by omega), _, _, rfl, rfl, ?_⟩
    refine ⟨p, G2, n + 1, _, rfl, b2, t2, by omega, by omega, by omega, fun d G3 H3 d0 d1 s3 b3 t3 => ?_⟩
    refine ⟨_, _, rfl, rfl, _, rfl, _, _, rfl, by omega, by omega, fun t ht0 => ?_⟩
    obtain ⟨b4, s4, g4⟩ := b3.new (o := .tup [.int (ratio (low * b + d) b).1, .int (ratio (low * b + d) b).2]) t3.some ht0
    exact k _ t _ _ ⟨b, d, hb, d0, by omega, rfl⟩ (s1.trans (s2.trans (s3.trans s4))) b4 (t3.new ht0) upd_same
theorem k_cells (D : Lies K mg "_law_cells" s_l_cells) (T : Plain mg) : Keeps P w K mg base 1 "_law_cells" ["script", "most"] (spCells K) := by
  refine D.keeps sc_l_cells (fun _ _ _ _ _ _ us hl => bindsL2 (fun _ _ => rfl) us hl) (fun vs H Q E h => ?_) (fun f cdv A outer s H vs Q E hr h => ?_)
  · obtain ⟨a, xs, m, rfl, _⟩ := h
    rfl
  · obtain ⟨a, xs, m, rfl, hS, m1, m3, k⟩ := h
    refine ⟨_, (pss_one (ps_ret (pe_listRg rfl rfl T.n_list (prg_1 rfl T.n_range (pe_callB (call_max2 rfl) (by rfl) T.n_max b_max (pa_cons pe_int (pa_cons (pe_callB (call_min2 rfl) (by rfl) T.n_min b_min (pa_cons (pv 1) (pa_cons (pe_callB call_len_seq (by rfl) T.n_len b_len (pa_cons (pv 0) pa_nil)) pa_nil))) pa_nil))))))), ?_⟩
    refine ⟨_, rfl, _, rfl, a, _, rfl, .inl hS, _, _, rfl, _, _, rfl, _, rfl, ?_⟩
    generalize hz : (if (if (xs.length : Int) < m then (xs.length : Int) else m) > 1 then (if (xs.length : Int) < m then (xs.length : Int) else m) else 1) = z
    have h1 : 1 ≤ z ∧ z ≤ 3 := by
      subst hz
      split <;> split <;> omega
    refine ⟨RgOk.of_le (by decide) (by omega) (by decide) (by omega), fun q hq => ?_⟩
    obtain ⟨c, rfl⟩ := Int.eq_ofNat_of_zero_le (show 0 ≤ z by omega)
    have e : rgV 0 (c : Int) = (List.range c).map fun i => V.int (i : Nat) := by
      unfold rgV
      rw [show ((c : Int) - 0).toNat = c by omega]
      exact List.map_congr_left fun i _ => by rw [Int.zero_add]
    rw [e]
    exact k c q (by omega) (by omega) hq
theorem k_pot (D : Lies K mg "_law_pot" s_l_pot) (T : Plain mg) : Keeps P w K mg base 1 "_law_pot" ["script", "place"] (spPot K) := by
  refine D.keeps sc_l_pot (fun _ _ _ _ _ _ us hl => bindsL2 (fun _ _ => rfl) us hl) (fun vs H Q E h => ?_) (fun f cdv A outer s H vs Q E hr h => ?_)
  · obtain ⟨a, ns, j, rfl, _⟩ := h
    rfl
  · obtain ⟨a, ns, j, rfl, hS, hj, k⟩ := h
    refine ⟨_, (Evl.pss_cut (ps_set (i := 2) sc_l_pot.nd rfl (Or.inl rfl) (pe_ifExp (pt_cmpR op_lt (pv 1) (pe_callB call_len_seq (by rfl) T.n_len b_len (pa_cons (pv 0) pa_nil)) (nomark _)) (pe_ix ix_list (pv 0) (pv 1) (fun _ _ => rfl)) (pe_op op_add (pe_op op_add (pe_op op_mod (pe_callB (cr_sum rfl) (by rfl) T.n_sum b_sum (pa_cons (pe_slice sl_list (pv 0) po_none (po_some pe_int)) pa_nil)) pe_int) (pe_op op_mul pe_int (pv 1))) pe_int)))
      (pss_cons (ps_set (i := 3) sc_l_pot.nd rfl (Or.inl rfl) (pe_op op_mul (pe_op op_mod (pe_callTy call_int1 (by rfl) T.n_int b_int (pa_cons (pe_callB call_abs (by rfl) T.n_abs b_abs (pa_cons (pv 2) pa_nil)) pa_nil)) (pe_op op_powW (pe_op op_pow pe_int pe_int) pe_int)) (pe_callTy call_int1 (by rfl) T.n_int b_int (pa_cons (pe_cmpR op_ge (pe_callB call_abs (by rfl) T.n_abs b_abs (pa_cons (pv 2) pa_nil)) (pe_op op_pow pe_int pe_int) (nomark _)) pa_nil))))
      (pss_cons (ps_set (i := 4) sc_l_pot.nd rfl (Or.inl rfl) (pe_op op_mod (pe_callTy call_int1 (by rfl) T.n_int b_int (pa_cons (pv 2) pa_nil)) pe_int))
      (pss_one (ps_ret (pe_lst (pa_cons (pv 3) (pa_cons (pe_op op_mod (pe_callTy call_int1 (by rfl) T.n_int b_int (pa_cons (pe_op op_add (pe_op op_add (pe_op op_mul (pv 4) pe_int) (pe_op op_mul (pe_op op_mul pe_int (pv 1)) (pv 1))) pe_int) pa_nil)) pe_int) (pa_cons pe_int pa_nil))))))))), ?_⟩
    refine ⟨fun σ' H' => ∃ c : Int, σ' = [some (.ref a), some (.int j), some (.int c), none, none] ∧ Same H H', ?_, ?_⟩
    · refine ⟨_, rfl, _, rfl, a, _, rfl, .inl hS, _, _, rfl, rfl, _, rfl, ?_⟩
      refine ite2 (fun h0 => ?_) (fun h0 => ?_)
      · have hj2 : j < ns.length := by
          have := of_decide_eq_true h0
          rw [List.length_map] at this
          omega
        exact ⟨_, rfl, _, rfl, a, _, _, V.int ns[j], rfl, rfl, hS, atI_nat (by simp [hj2]), ns[j], rfl, Same.refl H⟩
      · refine ⟨_, rfl, _, rfl, a, _, rfl, hS, fun q hq => ?_⟩
        refine ⟨q, _, rfl, SqL.of (upd_same.trans (by unfold cutV; rw [← List.map_drop, ← List.map_take])), ?_⟩
        exact ⟨_, _, rfl, rfl, (show (0 : Int) < 1000003 by decide), _, rfl, _, _, rfl, rfl, .inl ⟨by decide, by decide⟩, _, _, rfl, rfl, _, _, rfl, rfl, _, rfl, same_upd hq⟩
    · rintro σ1 H1 ⟨c, rfl, s1⟩
      refine ⟨_, rfl, _, rfl, .inl ⟨_, rfl, _, _, rfl, rfl, ⟨by decide, by decide, by decide⟩, _, _, rfl, rfl, ⟨by decide, by decide +kernel⟩, _, _, rfl, rfl, (show (0 : Int) < (10 ^ (60 : Int).toNat) ^ (5 : Int).toNat by decide +kernel), ?_⟩⟩
      refine ⟨_, rfl, _, rfl, _, _, rfl, rfl, ⟨by decide, by decide, by decide⟩, _, _, rfl, rfl, .inr ⟨_, rfl, _, _, rfl, rfl, .inr (bit_in _), ?_⟩⟩
      refine ⟨_, rfl, .inl ⟨_, rfl, _, _, rfl, rfl, (show (0 : Int) < 2305843009213693951 by decide), ?_⟩⟩
      have own0 : 0 ≤ ((if c < 0 then -c else c) % (10 ^ (60 : Int).toNat) ^ (5 : Int).toNat) * (if decide ((10 : Int) ^ (18 : Int).toNat ≤ if c < 0 then -c else c) = true then 1 else 0) := Int.mul_nonneg (Int.emod_nonneg _ (by decide +kernel)) (bit_nn _)
      have m0 := Int.emod_nonneg c (show (2305843009213693951 : Int) ≠ 0 by decide)
      have m1 := Int.emod_lt_of_pos c (show (0 : Int) < 2305843009213693951 by decide)
      refine ⟨_, rfl, _, rfl, _, _, rfl, rfl, .inl (by omega), _, rfl, _, _, rfl, rfl, .inl (by decide), _, rfl, _, _, rfl, rfl, .inl (by omega), _, _, rfl, rfl, _, _, rfl, rfl, .inl ⟨_, rfl, _, _, rfl, rfl, (show (0 : Int) < 2305843009213693921 by decide), by show 3 ≤ sizeLine; decide, fun p hp => ?_⟩⟩
      exact k p _ (s1.free hp) ⟨s1.free hp, s1.trans (same_upd hp)⟩ ⟨_, _, _, upd_same, own0, Int.emod_nonneg _ (by decide), Int.emod_lt_of_pos _ (by decide), by decide, by decide, by decide⟩
end
end Ct

namespace Ct
open PySem PySem.Spec PyProof.Rows L2 TL
abbrev s_l_circuit_text : Stmt := top 57
abbrev N_l_circuit_text : List Str := ["own", "rows", "name", "one", "ties", "tie"]
theorem sc_l_circuit_text : FnScope N_l_circuit_text ["own"] (defScope s_l_circuit_text) := ⟨rfl, rfl, rfl, by decide +kernel, rfl, by decide +kernel, by decide +kernel⟩
def spText (K : PySem.W.Frag) : Sp := fun vs H Q _ => ∃ (v : V) (o : Own), vs = [v] ∧ OwnAt K H v o ∧ OwnOk o ∧ ∀ H', Same H H' → Q (.str (textOf o)) H'
theorem sp_len : (" " : Str).length = 1 := by decide +kernel
theorem src_len : ("source " : Str).length = 7 := by decide +kernel
theorem prt_len : ("part " : Str).length = 5 := by decide +kernel
theorem joi_len : ("joining " : Str).length = 8 := by decide +kernel
theorem tie_len : ("tie " : Str).length = 4 := by decide +kernel
theorem nl_len : ("\n" : Str).length = 1 := by decide +kernel
theorem gnd_len : ("gnd" : Str).length = 3 := by decide +kernel
theorem junc_len {x : Str} (h : Junc x) : x.length ≤ 6 := by
  rcases h with rfl | h
  · rw [gnd_len]; decide
  · exact h.2.1
theorem tie_join {a b c : Str} (ha : a.length ≤ 6) (hb : b.length ≤ 6) (hc : c.length ≤ 6) : (([a, b, c] : List Str).map (·.length)).sum + ([a, b, c] : List Str).length * (" " : Str).length ≤ 30 := by
  rw [sp_len]
  simp
  omega
theorem join3_len {a b c : Str} (ha : a.length ≤ 6) (hb : b.length ≤ 6) (hc : c.length ≤ 6) : (Txt.join " " [a, b, c]).length ≤ 30 := by
  rw [TL.join_eq]
  have e : Str.join " " [a, b, c] = a ++ " " ++ (b ++ " " ++ c) := by
    refine ext_tl ?_
    rw [tl_join]
    simp only [List.map_cons, List.map_nil, joinL, tl_append, List.append_assoc]
  rw [e]
  simp only [len_app, sp_len]
  omega
theorem rows_few {o : Own} (ok : OwnOk o) : (rowsOf o).length ≤ 67 := by
  have few : (o.joinings.flatMap joiRows).length ≤ 54 := by
    refine Nat.le_trans (flat_len (B := 9) fun z hz => ?_) (Nat.mul_le_mul_right 9 ok.j_few)
    have := (ok.joi z hz).few
    unfold joiRows
    rw [List.length_cons, List.length_map]
    omega
  have a := ok.s_few
  have b := ok.p_few
  unfold rowsOf
  rw [List.length_cons, List.length_append, List.length_append, List.length_map, List.length_map]
  omega
theorem cir_len : ("circuit" : Str).length = 7 := by decide +kernel
theorem rows_short {o : Own} (ok : OwnOk o) : ∀ y ∈ rowsOf o, y.length ≤ 3900 := by
  intro y hy
  unfold rowsOf at hy
  rcases List.mem_cons.mp hy with rfl | hy
  · rw [cir_len]; decide
  rcases List.mem_append.mp hy with hy | hy
  · rcases List.mem_append.mp hy with hy | hy
    · obtain ⟨e, he, rfl⟩ := List.mem_map.mp hy
      exact (ent_len (by rw [src_len]; decide) (ok.src e he)).2
    · obtain ⟨e, he, rfl⟩ := List.mem_map.mp hy
      exact (ent_len (by rw [prt_len]; decide) ⟨(ok.prt e he).1, (ok.prt e he).2.1⟩).2
  · obtain ⟨j, hj, hy⟩ := List.mem_flatMap.mp hy
    have jo := ok.joi j hj
    unfold joiRows at hy
    rcases List.mem_cons.mp hy with rfl | hy
    · unfold joiLine
      rw [len_app, joi_len]
      have := jo.name.2.1
      omega
    · obtain ⟨t, ht, rfl⟩ := List.mem_map.mp hy
      have jt := jo.tie t ht
      have l1 : t.1.length ≤ 6 := by
        obtain ⟨y, hy, ey⟩ := List.mem_map.mp jt.1
        exact ey ▸ (ok.prt y hy).1.2.1
      have := join3_len l1 (junc_len jt.2.1) (junc_len jt.2.2)
      unfold tieLine
      rw [len_app, tie_len]
      omega
theorem rows_join {o : Own} (ok : OwnOk o) : ((rowsOf o).map (·.length)).sum + (rowsOf o).length * ("\n" : Str).length ≤ 16777216 := by
  have a := rows_few ok
  have b := sum_le (rows_short ok)
  rw [nl_len]
  have c : (rowsOf o).length * 3900 ≤ 67 * 3900 := Nat.mul_le_mul_right _ a
  omega
section
variable {P : Program} {w : World} {K : PySem.W.Frag} {mg : Str → Option Value} {base : Heap}
theorem k_circuit_text (D : Lies K mg "_law_circuit_text" s_l_circuit_text) (T : Plain mg) (G_l_frac_text : Keeps P w K mg base 1 "_law_frac_text" ["one"] (spFracText K)) : Keeps P w K mg base 2 "_law_circuit_text" ["own"] (spText K) := by
  refine D.keeps sc_l_circuit_text (fun _ _ _ _ _ _ us hl => bindsL1 (fun _ => rfl) us hl) (fun vs H Q E h => ?_) (fun f cdv A outer s H vs Q E hr h => ?_)
  · obtain ⟨v, o, rfl, _⟩ := h
    rfl
  · obtain ⟨v, o, rfl, ⟨d, vS, vP, vJ, rfl, hd, ⟨aS, xS, rfl, hS, pS⟩, ⟨aP, xP, rfl, hP, pP⟩, ⟨aJ, xJ, rfl, hJ, pJ⟩⟩, ok, k⟩ := h
    refine ⟨_, (pss_cons (ps_setLc (i := 1) (own := [("name", 2), ("one", 3)]) (g := gTup K 2 (gCons (gName 2) (gCons (gName 3) gNil))) (tt := tYes) rfl sc_l_circuit_text.nd rfl rfl (sw_true rfl rfl rfl (by decide +kernel)) (pi_list (pe_dget (hu_of hr) (pv 0) pe_str (fun _ _ => rfl))) (blkOk_by (N := N_l_circuit_text) (sc := defScope s_l_circuit_text) (by decide +kernel)) (fun _ _ _ _ _ => pg_tup rfl (pgs_cons (pg_name (i := 2) sc_l_circuit_text.nd rfl (Or.inl rfl)) (pgs_cons (pg_name (i := 3) sc_l_circuit_text.nd rfl (Or.inl rfl)) pgs_nil))) (fun _ _ _ _ _ => pts_nil) (fun _ _ _ _ _ => by exact (pe_op op_add_str (pe_op op_add_str (pe_op op_add_str pe_str (pv 2)) pe_str) (pe_go G_l_frac_text (hr.mono (by decide)) rfl (pa_cons (pv 3) pa_nil)))))
      (pss_cons (ps_expr (pe_bm PySem.F.plainAttrs_list PySem.F.slot_list_extend PySem.F.type_list_extend mt_extend (pv 1) (pa_cons (pe_lc (own := [("name", 2), ("one", 3)]) (g := gTup K 2 (gCons (gName 2) (gCons (gName 3) gNil))) (tt := tYes) rfl sc_l_circuit_text.nd (pi_list (pe_dget (hu_of hr) (pv 0) pe_str (fun _ _ => rfl))) (blkOk_by (N := N_l_circuit_text) (sc := defScope s_l_circuit_text) (by decide +kernel)) (fun _ _ _ _ _ => pg_tup rfl (pgs_cons (pg_name (i := 2) sc_l_circuit_text.nd rfl (Or.inl rfl)) (pgs_cons (pg_name (i := 3) sc_l_circuit_text.nd rfl (Or.inl rfl)) pgs_nil))) (fun _ _ _ _ _ => pts_nil) (fun _ _ _ _ _ => by exact (pe_op op_add_str (pe_op op_add_str (pe_op op_add_str pe_str (pv 2)) pe_str) (pe_go G_l_frac_text (hr.mono (by decide)) rfl (pa_cons (pv 3) pa_nil))))) pa_nil)))
      (pss_cons (ps_for PassesOwn.never rfl (pi_list (pe_dget (hu_of hr) (pv 0) pe_str (fun _ _ => rfl))) (pg_tup rfl (pgs_cons (pg_name (i := 2) sc_l_circuit_text.nd rfl (Or.inl rfl)) (pgs_cons (pg_name (i := 4) sc_l_circuit_text.nd rfl (Or.inl rfl)) pgs_nil)))
        (pss_cons (ps_expr (pe_bm PySem.F.plainAttrs_list PySem.F.slot_list_append PySem.F.type_list_append mt_append (pv 1) (pa_cons (pe_op op_add_str pe_str (pv 2)) pa_nil)))
        (pss_one (ps_expr (pe_bm PySem.F.plainAttrs_list PySem.F.slot_list_extend PySem.F.type_list_extend mt_extend (pv 1) (pa_cons (pe_lc (own := [("tie", 5)]) (g := gName 5) (tt := tYes) rfl sc_l_circuit_text.nd (pi_list (pv 4)) (blkOk_by (N := N_l_circuit_text) (sc := defScope s_l_circuit_text) (by decide +kernel)) (fun _ _ _ _ _ => pg_name (i := 5) sc_l_circuit_text.nd rfl (Or.inl rfl)) (fun _ _ _ _ _ => pts_nil) (fun _ _ _ _ _ => by exact (pe_op op_add_str pe_str (pe_joinK (K := K) rfl pe_str (pe_listK (K := K) rfl rfl T.n_list (pa_cons (pv 5) pa_nil)))))) pa_nil))))))
      (pss_one (ps_ret (pe_joinK (K := K) rfl pe_str (pe_op op_cat (pe_lst (pa_cons pe_str pa_nil)) (pv 1)))))))), ?_⟩
    refine into_set (comp_pure (f := entLine "source ") (R := EntAt K H) (R' := fun _ => StrV) (fun R r => ⟨_, rfl, d, _, rfl, get_s hd, r⟩) hS pS ?_ (fun _ _ _ h => h) (fun _ _ _ _ h => h) (fun x e H0 Z r he s0 hz => ?_) (fun H2 D acc hD s2 hL hp => ?_))
    · rw [pS.length]
      exact Nat.lt_of_le_of_lt ok.s_few (by decide)
    · obtain ⟨t, u, rfl, ht, u', rfl, hu⟩ := r
      have hn := ok.src e he
      have l1 := ent_len (w := "source ") (by rw [src_len]; decide) hn
      refine ⟨t, _, rfl, SqT.same s0 ht, rfl, _, _, rfl, _, _, rfl, ⟨rfl, rfl, ?_⟩⟩
      refine ⟨_, rfl, _, _, rfl, rfl, ?_, _, _, rfl, rfl, ?_, _, rfl, u', e.2, rfl, SqT.same s0 hu, hn.2.2.2.1, hn.2.2.2.2, _, _, rfl, rfl, ?_, hz _ _ (Same.refl _) rfl⟩
      · rw [src_len]
        exact Nat.le_trans (Nat.add_le_add_left hn.1.2.1 7) (by decide)
      · have := l1.1
        rw [len_app] at this
        exact Nat.le_trans this (by decide)
      · have := l1.2
        unfold entLine at this
        rw [len_app] at this
        exact Nat.le_trans this (by decide)
    have eL := strs_are hp
    subst eL
    have dS : (V.ref d) = V.ref d := rfl
    refine into_drop ⟨_, rfl, .inl ⟨rfl, _, SqL.of hL⟩, into_args1 (comp_pure (f := entLine "part ") (R := EntAt K H) (R' := fun _ => StrV) (fun R r => ⟨_, rfl, d, _, rfl, get_p (s2 _ _ hd), r⟩) (Same.seq s2 hP) pP ?_ (fun _ _ _ h => h) (fun _ _ _ _ h => h) (fun x e H0 Z r he s0 hz => ?_) (fun H3 D3 acc hD3 s3 hL3 hp3 => ?_))⟩
    · rw [pP.length]
      exact Nat.lt_of_le_of_lt ok.p_few (by decide)
    · obtain ⟨t, u, rfl, ht, u', rfl, hu⟩ := r
      have hn := ok.prt e he
      have l1 := ent_len (w := "part ") (by rw [prt_len]; decide) ⟨hn.1, hn.2.1⟩
      refine ⟨t, _, rfl, SqT.same (s2.trans s0) ht, rfl, _, _, rfl, _, _, rfl, ⟨rfl, rfl, ?_⟩⟩
      refine ⟨_, rfl, _, _, rfl, rfl, ?_, _, _, rfl, rfl, ?_, _, rfl, u', e.2, rfl, SqT.same (s2.trans s0) hu, hn.2.1.2.2.1, hn.2.1.2.2.2, _, _, rfl, rfl, ?_, hz _ _ (Same.refl _) rfl⟩
      · rw [prt_len]
        exact Nat.le_trans (Nat.add_le_add_left hn.1.2.1 5) (by decide)
      · have := l1.1
        rw [len_app] at this
        exact Nat.le_trans this (by decide)
      · have := l1.2
        unfold entLine at this
        rw [len_app] at this
        exact Nat.le_trans this (by decide)
    have eL3 := strs_are hp3
    subst eL3
    have hLD := s3 _ _ hL
    have nDD : D ≠ D3 := fun z => by
      rw [z, hD3] at hL
      cases hL
    have r1 : (o.sources.map (entLine "source ")).length ≤ 4 := by rw [List.length_map]; exact ok.s_few
    have r2 : (o.parts.map (entLine "part ")).length ≤ 8 := by rw [List.length_map]; exact ok.p_few
    refine ⟨D, D3, _, _, rfl, rfl, hLD, hL3, ?_, ?_⟩
    · simp only [List.length_map] at r1 r2 ⊢
      show _ ≤ 16777216
      omega
    rw [← List.map_append]
    have s4 : Same H (upd H3 D (.lst ((o.sources.map (entLine "source ") ++ o.parts.map (entLine "part ")).map V.str))) := fun b z q => by
      rw [upd_ne (ne_of_none q hD)]
      exact s3 _ _ (s2 _ _ q)
    refine ⟨_, rfl, d, _, rfl, get_j (s4 _ _ hd), aJ, rfl, ⟨_, Same.seq s4 hJ⟩, for_list (xs := xJ) (fun i σ' H' => ∃ v2 v3 v4 v5 : Option V, σ' = [some (.ref d), some (.ref D), v2, v3, v4, v5] ∧
      H' D = some (.lst ((o.sources.map (entLine "source ") ++ o.parts.map (entLine "part ") ++ (o.joinings.take i).flatMap joiRows).map V.str)) ∧ Same H H')
      ⟨_, _, _, _, rfl, by rw [List.take_zero, List.flatMap_nil, List.append_nil]; exact upd_same, s4⟩ (fun i σ' H' _ ⟨_, _, _, _, _, _, s⟩ => Same.seq s hJ) ?_ ?_⟩
    · rintro i x σ' H' hx ⟨v2, v3, v4, v5, rfl, hLi, si⟩
      obtain ⟨e, he, t, l, rfl, ht, al, xl, rfl, hl, pl⟩ := Paired.at pJ hx
      have hj := ok.joi e (List.mem_of_getElem? he)
      have hi : i < 6 := Nat.lt_of_lt_of_le (List.getElem?_eq_some_iff.mp he).1 ok.j_few
      have few : ((o.joinings.take i).flatMap joiRows).length ≤ 54 := by
        refine Nat.le_trans (flat_len (B := 9) fun z hz => ?_) (Nat.mul_le_mul_right 9 (Nat.le_trans (List.length_take_le i _) (Nat.le_of_lt hi)))
        have := (ok.joi z (List.mem_of_mem_take hz)).few
        unfold joiRows
        rw [List.length_cons, List.length_map]
        omega
      have rs : (o.sources.map (entLine "source ") ++ o.parts.map (entLine "part ") ++ (o.joinings.take i).flatMap joiRows).length ≤ 66 := by
        rw [List.length_append, List.length_append]
        omega
      generalize hrows : o.sources.map (entLine "source ") ++ o.parts.map (entLine "part ") ++ (o.joinings.take i).flatMap joiRows = rows at hLi rs
      refine ⟨t, _, rfl, SqT.same si ht, rfl, _, _, rfl, _, _, rfl, ⟨rfl, ?_⟩⟩
      refine ⟨_, rfl, .inl ⟨rfl, _, SqL.of hLi⟩, _, rfl, _, _, rfl, rfl, ?_, D, _, _, rfl, rfl, hLi, ?_, ?_⟩
      · rw [joi_len]
        exact Nat.le_trans (Nat.add_le_add_left hj.name.2.1 8) (by decide)
      · rw [List.length_map]
        show rows.length < 16777216
        omega
      have s5 : Same H (upd H' D (.lst (rows.map V.str ++ [V.str ("joining " ++ e.1)]))) := fun b z q => by
        rw [upd_ne (ne_of_none q hD)]
        exact si _ _ q
      refine ⟨_, rfl, .inl ⟨rfl, _, SqL.of upd_same⟩, into_args1 (comp_pure (f := tieLine) (R := TieAt K H) (R' := fun _ => StrV) (fun R r => ⟨_, rfl, r⟩) (Same.seq s5 hl) pl ?_ (fun _ _ _ h => h) (fun _ _ _ _ h => h) (fun x e2 H0 Z r he2 s0 hz => ?_) (fun H6 D6 acc hD6 s6 hL6 hp6 => ?_))⟩
      · rw [pl.length]
        exact Nat.lt_of_le_of_lt hj.few (by decide)
      · obtain ⟨t2, rfl, ht2⟩ := r
        have jt := hj.tie e2 he2
        have l1 : e2.1.length ≤ 6 := by
          obtain ⟨y, hy, ey⟩ := List.mem_map.mp jt.1
          exact ey ▸ (ok.prt y hy).1.2.1
        have l2 := junc_len jt.2.1
        have l3 := junc_len jt.2.2
        refine ⟨rfl, ⟨_, rfl⟩, _, rfl, t2, _, rfl, .inr (SqT.same (s5.trans s0) ht2), fun q hq => ⟨_, q, [e2.1, e2.2.1, e2.2.2], rfl, rfl, .inl (SqL.of upd_same), Nat.le_trans (tie_join l1 l2 l3) (by decide), _, _, rfl, rfl, ?_, hz _ _ (same_upd hq) rfl⟩⟩
        rw [tie_len]
        exact Nat.le_trans (Nat.add_le_add_left (join3_len l1 l2 l3) 4) (by decide)
      have eL6 := strs_are hp6
      subst eL6
      refine ⟨D, D6, _, _, rfl, rfl, s6 _ _ upd_same, hL6, ?_, ?_⟩
      · rw [List.length_append, List.length_map, List.length_map, List.length_map, List.length_singleton]
        have := hj.few
        show rows.length + 1 + e.2.length ≤ 16777216
        omega
      refine ⟨_, _, _, _, rfl, ?_, fun b z q => ?_⟩
      · rw [upd_same, take_snoc he, List.flatMap_append, ← List.append_assoc, hrows, List.map_append, List.flatMap_singleton]
        unfold joiRows joiLine
        simp
      · rw [upd_ne (ne_of_none q hD)]
        exact s6 _ _ (s5 _ _ q)
    · rintro σ' H' ⟨v2, v3, v4, v5, rfl, hLi, si⟩
      rw [show o.joinings.take xJ.length = o.joinings by rw [pJ.length, List.take_length]] at hLi
      have few : (o.joinings.flatMap joiRows).length ≤ 54 := by
        refine Nat.le_trans (flat_len (B := 9) fun z hz => ?_) (Nat.mul_le_mul_right 9 ok.j_few)
        have := (ok.joi z hz).few
        unfold joiRows
        rw [List.length_cons, List.length_map]
        omega
      refine ⟨⟨_, rfl⟩, ⟨by show 1 ≤ sizeLine; decide, fun q hq => ⟨_, rfl, ?_⟩⟩⟩
      have nqD : q ≠ D := fun z => by rw [z, hLi] at hq; cases hq
      refine ⟨q, D, _, _, rfl, rfl, upd_same, (upd_ne nqD.symm).trans hLi, ?_, fun p hp => ?_⟩
      · rw [List.length_singleton, List.length_map, List.length_append, List.length_append]
        show 1 + _ ≤ 16777216
        omega
      refine ⟨_, p, rowsOf o, rfl, rfl, .inl (SqL.of ?_), ?_, k _ fun b z h => ?_⟩
      · rw [upd_same]
        rfl
      · exact rows_join ok
      · rw [upd_ne (ne_of_none (o := z) (by rw [upd_ne (ne_of_none (si _ _ h) hq)]; exact si _ _ h) hp), upd_ne (ne_of_none (si _ _ h) hq)]
        exact si _ _ h
end
end Ct

namespace Ct
open PySem PySem.Spec PyProof.Rows L2 TL
abbrev s_Circuit_init : Stmt := inClass (top 32) 0
abbrev N_Circuit_init : List Str := ["self", "text", "sources", "parts", "joinings", "name", "ties"]
theorem sc_Circuit_init : FnScope N_Circuit_init ["self", "text"] (defScope s_Circuit_init) := ⟨rfl, rfl, rfl, by decide +kernel, rfl, by decide +kernel, by decide +kernel⟩
structure ClassT (K : PySem.W.Frag) (mg : Str → Option Value) (C : Addr) : Prop where
  cl : Cls K C
  nT : NoAttr K C "text"
  nS : NoAttr K C "sources"
  nP : NoAttr K C "parts"
  nJ : NoAttr K C "joinings"
def spInit (K : PySem.W.Frag) (C : Addr) : Sp := fun vs H Q _ => ∃ (H0 : Hp) (x dx : Addr) (o : Own), vs = [.ref x, .str (textOf o)] ∧ Same H0 H ∧ H0 x = none ∧ H x = some (.ins C dx []) ∧ OwnOk o ∧ ∀ H', Same H0 H' → CircAt K C H' (.ref x) o → Q .non H'
theorem f_ts : ¬ ("text" : Str) = "sources" := by decide +kernel
theorem f_tp : ¬ ("text" : Str) = "parts" := by decide +kernel
theorem f_tj : ¬ ("text" : Str) = "joinings" := by decide +kernel
theorem f_sp : ¬ ("sources" : Str) = "parts" := by decide +kernel
theorem f_sj : ¬ ("sources" : Str) = "joinings" := by decide +kernel
theorem f_pj : ¬ ("parts" : Str) = "joinings" := by decide +kernel
theorem put1 (a : V) : putF "text" a [] = ([("text", a)] : List (Str × V)) := rfl
theorem put2 (a b : V) : putF "sources" b (putF "text" a []) = ([("text", a), ("sources", b)] : List (Str × V)) := by
  rw [put1]
  show (if ("text" : Str) = "sources" then _ else _) = _
  rw [if_neg f_ts]
  rfl
theorem few2 (a b : V) : (putF "sources" b (putF "text" a [])).length < 1000 := by
  rw [put2]
  show 2 < 1000
  decide
theorem few3 (a b c : V) : (putF "parts" c (putF "sources" b (putF "text" a []))).length < 1000 := by
  rw [put2]
  show (if ("text" : Str) = "parts" then _ else (("text" : Str), a) :: (if ("sources" : Str) = "parts" then _ else _)).length < 1000
  rw [if_neg f_tp, if_neg f_sp]
  show 3 < 1000
  decide
theorem lines_few {o : Own} (ok : OwnOk o) : (linesOf o).length ≤ 100 := by
  have := rows_few ok
  rw [rows_lines, List.length_cons, List.length_map] at this
  omega
theorem line_short {o : Own} (ok : OwnOk o) : ∀ l ∈ linesOf o, l.text.length ≤ 4000 := fun l hl => by
  have := rows_short ok l.text (by rw [rows_lines]; exact List.mem_cons_of_mem _ (List.mem_map_of_mem hl))
  omega
theorem text_len {o : Own} (ok : OwnOk o) : (textOf o).length + 2 ≤ 16777216 := by
  unfold textOf
  rw [TL.join_eq]
  have key : ∀ (B : Nat) (ys : List Str), (∀ y ∈ ys, y.length ≤ B) → (Str.join "\n" ys).length ≤ ys.length * (B + 1) := by
    intro B ys
    induction ys with
    | nil =>
      intro _
      rw [len_tl, tl_join]
      exact Nat.zero_le _
    | cons y r ih =>
      intro h
      have h1 := h y List.mem_cons_self
      have h2 := ih fun z hz => h z (List.mem_cons_of_mem _ hz)
      rw [len_tl, tl_join] at h2 ⊢
      rw [List.length_cons, Nat.add_mul]
      cases r with
      | nil =>
        show (tl y).length ≤ _
        rw [← len_tl]
        omega
      | cons z q =>
        show (tl y ++ (tl ("\n" : Str) ++ joinL (tl ("\n" : Str)) ((z :: q).map tl))).length ≤ _
        rw [List.length_append, List.length_append, ← len_tl, ← len_tl, nl_len]
        omega
  have a := key 3900 (rowsOf o) (rows_short ok)
  have b := rows_few ok
  have c : (rowsOf o).length * (3900 + 1) ≤ 67 * 3901 := Nat.mul_le_mul b (by decide)
  omega
section
variable {P : Program} {w : World} {K : PySem.W.Frag} {mg : Str → Option Value} {base : Heap}
end
end Ct

/-! Dicts of rationals under names; circuits as rationals. -/
namespace Ct
open PySem PySem.Spec PyProof.Rows L2 TL RZ
/-- potentials, voltages, sizes by name -/
abbrev Tab := Str → Option Rat
def Tab.no : Tab := fun _ => none
def Tab.put (m : Tab) (x : Str) (r : Rat) : Tab := fun y => if y = x then some r else m y
def Tab.at (m : Tab) (x : Str) : Rat := (m x).getD 0
section
variable {K : PySem.W.Frag} {G H H' : Hp}
def Told (K : PySem.W.Frag) (H : Hp) (o : Option V) : Option Rat → Prop
  | none => o = none
  | some r => ∃ u, o = some u ∧ RatAt K H u r
/-- kvs holds just what m tells -/
def Holds (K : PySem.W.Frag) (H : Hp) (kvs : List (Key × V)) (m : Tab) : Prop := ∀ x, Told K H (valV kvs (.inr x)) (m x)
/-- a dict at d, of so many names at most, that holds m -/
def DtAt (K : PySem.W.Frag) (H : Hp) (d : Addr) (n : Nat) (m : Tab) : Prop := ∃ kvs : List (Key × V), H d = some (.dK kvs) ∧ kvs.length ≤ n ∧ Holds K H kvs m
end
/-! ### circuits -/
def ratF (f : Int × Int) : Rat := mkRat f.1 f.2.natAbs
/-- a circuit's object; its parts' tuple has no dict of its own -/
def CircN (K : PySem.W.Frag) (C : Addr) (H : Hp) (v : V) (o : Own) : Prop := ∃ (c dx : Addr) (fs : List (Str × V)) (ts tp tj : Addr) (us vs ws : List V), v = .ref c ∧ H c = some (.ins C dx fs) ∧ fs.lookup ("text" : Str) = some (.str (textOf o)) ∧ fs.lookup ("sources" : Str) = some (.ref ts) ∧
  fs.lookup ("parts" : Str) = some (.ref tp) ∧ fs.lookup ("joinings" : Str) = some (.ref tj) ∧ SqT K H ts us ∧ TupN H tp vs ∧ SqT K H tj ws ∧ Paired (EntAt K H) us o.sources ∧ Paired (EntAt K H) vs o.parts ∧ Paired (JoTAt K H) ws o.joinings
section
variable {K : PySem.W.Frag} {C : Addr} {H H' : Hp} {v : V} {o : Own}
theorem CircN.same (s : Same H H') : CircN K C H v o → CircN K C H' v o := fun h => by
  obtain ⟨c, dx, fs, ts, tp, tj, us, vs, ws, a, b, f1, f2, f3, f4, q1, q2, q3, r1, r2, r3⟩ := h
  exact ⟨c, dx, fs, ts, tp, tj, us, vs, ws, a, s _ _ b, f1, f2, f3, f4, SqT.same s q1, q2.same s, SqT.same s q3, r1.mono fun _ _ h => h.same s, r2.mono fun _ _ h => h.same s, r3.mono fun _ _ h => h.same s⟩
theorem CircN.src (h : CircN K C H v o) : ∃ c dx fs t us, v = .ref c ∧ H c = some (.ins C dx fs) ∧ fs.lookup ("sources" : Str) = some (.ref t) ∧ SqT K H t us ∧ Paired (EntAt K H) us o.sources := by
  obtain ⟨c, dx, fs, ts, tp, tj, us, vs, ws, a, b, f1, f2, f3, f4, q1, q2, q3, r1, r2, r3⟩ := h
  exact ⟨c, dx, fs, ts, us, a, b, f2, q1, r1⟩
theorem CircN.prt (h : CircN K C H v o) : ∃ c dx fs t us, v = .ref c ∧ H c = some (.ins C dx fs) ∧ fs.lookup ("parts" : Str) = some (.ref t) ∧ TupN H t us ∧ Paired (EntAt K H) us o.parts := by
  obtain ⟨c, dx, fs, ts, tp, tj, us, vs, ws, a, b, f1, f2, f3, f4, q1, q2, q3, r1, r2, r3⟩ := h
  exact ⟨c, dx, fs, tp, vs, a, b, f3, q2, r2⟩
end
/-- ties, as they lie in a tuple -/
def TiesAt (K : PySem.W.Frag) (H : Hp) (v : V) (ties : List (Str × Str × Str)) : Prop := ∃ a xs, v = .ref a ∧ SqT K H a xs ∧ Paired (TieAt K H) xs ties
def spIsRow (K : PySem.W.Frag) (C : Addr) : Sp := fun vs H Q _ => ∃ (v u : V) (o : Own) (rs : List Rat), vs = [v, u] ∧ CircN K C H v o ∧ OwnOk o ∧ RatsAt K H u rs ∧ rs.length = o.parts.length ∧ ∀ H', Same H H' → Q (.bl true) H'
def spCheckRow (K : PySem.W.Frag) (C : Addr) : Sp := fun vs H Q _ => ∃ (v u : V) (o : Own) (rs : List Rat), vs = [v, u] ∧ CircN K C H v o ∧ OwnOk o ∧ RatsAt K H u rs ∧ rs.length = o.parts.length ∧ ∀ H', Same H H' → Q .non H'
def spCheckJoi (K : PySem.W.Frag) (C : Addr) : Sp := fun vs H Q _ => ∃ (v : V) (o : Own) (x : Str), vs = [v, .str x] ∧ CircN K C H v o ∧ OwnOk o ∧ x ∈ o.joinings.map (·.1) ∧ ∀ H', Same H H' → Q .non H'
def spTiesOf (K : PySem.W.Frag) (C : Addr) : Sp := fun vs H Q _ => ∃ (v : V) (o : Own) (x : Str) (ties : List (Str × Str × Str)), vs = [v, .str x] ∧ CircN K C H v o ∧ OwnOk o ∧ (x, ties) ∈ o.joinings ∧ ∀ v' H', Same H H' → TiesAt K H' v' ties → Q v' H'
section
variable {P : Program} {w : World} {K : PySem.W.Frag} {mg : Str → Option Value} {base : Heap} {C : Addr}
end
end Ct

/-! A circuit made; its parts' tuple has no dict of its own. -/
namespace Ct
open PySem PySem.Spec PyProof.Rows L2 TL
def spInitN (K : PySem.W.Frag) (C : Addr) : Sp := fun vs H Q _ => ∃ (H0 : Hp) (x dx : Addr) (o : Own), vs = [.ref x, .str (textOf o)] ∧ Same H0 H ∧ H0 x = none ∧ H x = some (.ins C dx []) ∧ OwnOk o ∧ ∀ H', Same H0 H' → CircN K C H' (.ref x) o → Q .non H'
section
variable {P : Program} {w : World} {K : PySem.W.Frag} {mg : Str → Option Value} {base : Heap}
theorem k_initN {f C : Addr} {fd : FuncData} (F : Fun K "__init__" "Circuit.__init__" s_Circuit_init f fd) (Z : ClassT K mg C) (T : Plain mg) (G_read_lines : Keeps P w K mg base 6 "_read_lines" ["lines"] (spReadLines K)) : FnOk P w K mg base CX0 7 f fd ["self", "text"] (spInitN K C) := by
  refine F.ok sc_Circuit_init (fun vs H Q E h => ?_) (fun cdv A outer s0 H vs Q E hr h => ?_)
  · obtain ⟨H0, x, dx, o, rfl, _⟩ := h
    rfl
  · obtain ⟨H0, x, dx, o, rfl, s00, x0, hx, ok, k⟩ := h
    refine ⟨_, (pss_cons (ps_if (pt_not (pt_val (pe_callB call_isi (by rfl) T.n_isinstance b_isinstance (pa_cons (pv 1) (pa_cons (pe_bltn (v := .ty "str") (by rfl) T.n_str b_str rfl) pa_nil)))))
        (pss_one (ps_never))
        pss_nil)
      (pss_cons (ps_asg (pe_go G_read_lines (hr.mono (by decide)) rfl (pa_cons (pe_split (pv 1) pe_str) pa_nil)) (pg_tup rfl (pgs_cons (pg_name (i := 2) sc_Circuit_init.nd rfl (Or.inl rfl)) (pgs_cons (pg_name (i := 3) sc_Circuit_init.nd rfl (Or.inl rfl)) (pgs_cons (pg_name (i := 4) sc_Circuit_init.nd rfl (Or.inl rfl)) pgs_nil)))))
      (pss_cons (ps_fld (pv 0) (pv 1) rfl)
      (pss_cons (ps_fld (pv 0) (pe_callTy call_tuple_of (by rfl) T.n_tuple b_tuple (pa_cons (pv 2) pa_nil)) rfl)
      (pss_cons (ps_fld (pv 0) (pe_callTy call_tupleN (by rfl) T.n_tuple b_tuple (pa_cons (pv 3) pa_nil)) rfl)
      (pss_one (ps_fld (pv 0) (pe_callTy call_tuple_of (by rfl) T.n_tuple b_tuple (pa_cons (pe_lc (own := [("name", 5), ("ties", 6)]) (g := gTup K 2 (gCons (gName 5) (gCons (gName 6) gNil))) (tt := tYes) rfl sc_Circuit_init.nd (pi_list (pv 4)) (blkOk_by (N := N_Circuit_init) (sc := defScope s_Circuit_init) (by decide +kernel)) (fun _ _ _ _ _ => pg_tup rfl (pgs_cons (pg_name (i := 5) sc_Circuit_init.nd rfl (Or.inl rfl)) (pgs_cons (pg_name (i := 6) sc_Circuit_init.nd rfl (Or.inl rfl)) pgs_nil))) (fun _ _ _ _ _ => pts_nil) (fun _ _ _ _ _ => by exact (pe_tup (pa_cons (pv 5) (pa_cons (pe_tupleK (K := K) rfl rfl T.n_tuple (pa_cons (pv 6) pa_nil)) pa_nil))))) pa_nil)) rfl))))))), ?_⟩
    refine ⟨_, rfl, _, _, _, _, true, rfl, .ty _, .base (.str _), kit_ty (by decide +kernel), true, rfl, iteF ?_⟩
    refine ⟨_, rfl, ⟨_, rfl⟩, _, _, rfl, rfl, by rw [nl_len]; rfl, text_len ok, fun q nq => ?_⟩
    rw [text_split ok, rows_lines]
    have sq := same_upd (o := .lst ((("circuit" : Str) :: (linesOf o).map Line.text).map V.str)) nq
    refine ⟨q, linesOf o, rfl, SqL.of upd_same, fits_lines ok, lines_few ok, line_short ok, ?_, fun t s p j G1 H1 sG ac ht => ?_⟩
    · rw [fold_lines]
      intro z
      have := ok.j_some
      rw [z] at this
      exact absurd this (by decide)
    rw [fold_lines] at ac
    have s01 : Same H H1 := sq.trans (sG.trans ac.sub)
    have hx1 := s01 _ _ hx
    obtain ⟨vS, hS, pS⟩ := ac.src
    obtain ⟨vP, hP, pP⟩ := ac.prt
    obtain ⟨vJ, hJ, pJ⟩ := ac.jr
    have pS1 : Paired (EntAt K H1) vS o.sources := pS.mono fun _ _ h => h.same ac.sub
    have pP1 : Paired (EntAt K H1) vP o.parts := pP.mono fun _ _ h => h.same ac.sub
    have z01 : Same H0 H1 := s00.trans s01
    refine ⟨t, _, rfl, SqT.of ht, rfl, _, _, rfl, _, _, rfl, _, _, rfl, ⟨rfl, ?_⟩⟩
    -- self.text
    refine ⟨_, rfl, _, rfl, x, C, dx, [], rfl, hx1, Z.cl, Z.nT, by show 0 < 1000; decide, ?_⟩
    generalize hf1 : putF "text" (V.str (textOf o)) [] = f1
    have x2 : (upd H1 x (.ins C dx f1)) x = some (.ins C dx f1) := upd_same
    have z2 : Same H0 (upd H1 x (.ins C dx f1)) := same_but z01 x0
    have S2 : Paired (EntAt K (upd H1 x (.ins C dx f1))) vS o.sources := pS1.mono fun _ _ h => h.ins hx1
    have P2 : Paired (EntAt K (upd H1 x (.ins C dx f1))) vP o.parts := pP1.mono fun _ _ h => h.ins hx1
    have J2 : Paired (JrAt K (upd H1 x (.ins C dx f1))) vJ o.joinings := pJ.mono fun _ _ h => h.ins hx1
    have nx : ∀ {l : Addr} {tv : List V}, H1 l = some (.lst tv) → l ≠ x := fun h => ne_of h hx1 (by intro z; cases z)
    have hS2 : (upd H1 x (.ins C dx f1)) s = some (.lst vS) := (upd_ne (nx hS)).trans hS
    have hP2 : (upd H1 x (.ins C dx f1)) p = some (.lst vP) := (upd_ne (nx hP)).trans hP
    have hJ2 : (upd H1 x (.ins C dx f1)) j = some (.lst vJ) := (upd_ne (nx hJ)).trans hJ
    generalize upd H1 x (.ins C dx f1) = H2 at *
    -- self.sources
    refine ⟨_, rfl, s, _, rfl, .inl ⟨SqL.of hS2, fun ts nts => ?_⟩⟩
    have s3 := same_upd (o := .tup vS) nts
    have x3 := s3 _ _ x2
    refine ⟨_, rfl, x, C, dx, f1, rfl, x3, Z.cl, Z.nS, by rw [← hf1]; show 1 < 1000; decide, ?_⟩
    have q3 : (upd H2 ts (.tup vS)) ts = some (.tup vS) := upd_same
    generalize hf2 : putF "sources" (V.ref ts) f1 = f2
    have z4 : Same H0 (upd (upd H2 ts (.tup vS)) x (.ins C dx f2)) := same_but (z2.trans s3) x0
    have x4 : (upd (upd H2 ts (.tup vS)) x (.ins C dx f2)) x = some (.ins C dx f2) := upd_same
    have Q4 : SqT K (upd (upd H2 ts (.tup vS)) x (.ins C dx f2)) ts vS := SqT.ins x3 (SqT.of q3)
    have S4 : Paired (EntAt K (upd (upd H2 ts (.tup vS)) x (.ins C dx f2))) vS o.sources := S2.mono fun _ _ h => (h.same s3).ins x3
    have P4 : Paired (EntAt K (upd (upd H2 ts (.tup vS)) x (.ins C dx f2))) vP o.parts := P2.mono fun _ _ h => (h.same s3).ins x3
    have J4 : Paired (JrAt K (upd (upd H2 ts (.tup vS)) x (.ins C dx f2))) vJ o.joinings := J2.mono fun _ _ h => (h.same s3).ins x3
    have nx4 : ∀ {l : Addr} {tv : List V}, H2 l = some (.lst tv) → l ≠ x := fun h => ne_of h x2 (by intro z; cases z)
    have hP4 : (upd (upd H2 ts (.tup vS)) x (.ins C dx f2)) p = some (.lst vP) := (upd_ne (nx4 hP2)).trans (s3 _ _ hP2)
    have hJ4 : (upd (upd H2 ts (.tup vS)) x (.ins C dx f2)) j = some (.lst vJ) := (upd_ne (nx4 hJ2)).trans (s3 _ _ hJ2)
    generalize upd (upd H2 ts (.tup vS)) x (.ins C dx f2) = H4 at *
    -- self.parts
    refine ⟨_, rfl, p, _, rfl, SqL.of hP4, fun tp od ntp odn odc => ?_⟩
    have s5 := same_upd (o := .frz od (.tup vP)) ntp
    have x5 := s5 _ _ x4
    refine ⟨_, rfl, x, C, dx, f2, rfl, x5, Z.cl, Z.nP, by rw [← hf2, ← hf1]; exact few2 _ _, ?_⟩
    have q5 : (upd H4 tp (.frz od (.tup vP))) tp = some (.frz od (.tup vP)) := upd_same
    have tpx : tp ≠ x := fun z => by rw [z, x4] at ntp; cases ntp
    generalize hf3 : putF "parts" (V.ref tp) f2 = f3
    have z6 : Same H0 (upd (upd H4 tp (.frz od (.tup vP))) x (.ins C dx f3)) := same_but (z4.trans s5) x0
    have x6 : (upd (upd H4 tp (.frz od (.tup vP))) x (.ins C dx f3)) x = some (.ins C dx f3) := upd_same
    have Q6 : SqT K (upd (upd H4 tp (.frz od (.tup vP))) x (.ins C dx f3)) ts vS := SqT.ins x5 (SqT.same s5 Q4)
    have R6 : (upd (upd H4 tp (.frz od (.tup vP))) x (.ins C dx f3)) tp = some (.frz od (.tup vP)) := (upd_ne tpx).trans q5
    have S6 : Paired (EntAt K (upd (upd H4 tp (.frz od (.tup vP))) x (.ins C dx f3))) vS o.sources := S4.mono fun _ _ h => (h.same s5).ins x5
    have P6 : Paired (EntAt K (upd (upd H4 tp (.frz od (.tup vP))) x (.ins C dx f3))) vP o.parts := P4.mono fun _ _ h => (h.same s5).ins x5
    have J6 : Paired (JrAt K (upd (upd H4 tp (.frz od (.tup vP))) x (.ins C dx f3))) vJ o.joinings := J4.mono fun _ _ h => (h.same s5).ins x5
    have nx6 : ∀ {l : Addr} {tv : List V}, H4 l = some (.lst tv) → l ≠ x := fun h => ne_of h x4 (by intro z; cases z)
    have hJ6 : (upd (upd H4 tp (.frz od (.tup vP))) x (.ins C dx f3)) j = some (.lst vJ) := (upd_ne (nx6 hJ4)).trans (s5 _ _ hJ4)
    generalize upd (upd H4 tp (.frz od (.tup vP))) x (.ins C dx f3) = H6 at *
    -- self.joinings
    dsimp only
    refine into_fld (into_cb (into_args1 (comp_pure (f := fun e : Str × List (Str × Str × Str) => e) (R := JrAt K H6) (R' := fun H' => JoTAt K H') (fun R r => ⟨_, rfl, r⟩) (SqL.of hJ6) J6 ?_ (fun s _ _ h => h.same s) (fun _ hD _ _ h => h.list hD) (fun v e Hi W r he si hz => ?_) (fun H7 D acc hD s7 hL hp => ?_))))
    · rw [J6.length]
      exact Nat.lt_of_le_of_lt ok.j_few (by decide)
    · obtain ⟨t, l, tv, rfl, ht, hl, ties⟩ := r
      refine ⟨t, _, rfl, SqT.same si ht, rfl, _, _, rfl, _, _, rfl, ⟨rfl, rfl, ?_⟩⟩
      refine ⟨_, rfl, _, rfl, l, tv, rfl, .inl ⟨Same.seq si hl, fun l2 nl2 => ⟨by show 2 ≤ sizeLine; decide, fun t2 nt2 => ?_⟩⟩⟩
      have sa := same_upd (o := .tup tv) nl2
      have sb := same_upd (o := .tup [V.str e.1, V.ref l2]) nt2
      exact hz _ _ (sa.trans sb) ⟨t2, l2, tv, rfl, SqT.of upd_same, SqT.of (sb _ _ upd_same), ties.mono fun _ _ h => h.same (si.trans (sa.trans sb))⟩
    · rw [List.map_id'] at hp
      refine ⟨D, _, rfl, .inl ⟨SqL.of hL, fun tj ntj => ?_⟩⟩
      have s8 := same_upd (o := .tup acc) ntj
      have x8 := s8 _ _ (s7 _ _ x6)
      refine ⟨_, rfl, x, C, dx, f3, rfl, x8, Z.cl, Z.nJ, by rw [← hf3, ← hf2, ← hf1]; exact few3 _ _ _, ?_⟩
      have s68 := s7.trans s8
      refine k _ (same_but (z6.trans s68) x0) ⟨x, dx, _, ts, tp, tj, vS, vP, acc, rfl, upd_same, ?_, ?_, ?_, ?_, SqT.ins x8 (SqT.same s68 Q6), ⟨od, (upd_ne tpx).trans (s68 _ _ R6), odn, odc⟩, SqT.ins x8 (SqT.of upd_same), S6.mono fun _ _ h => (h.same s68).ins x8, P6.mono fun _ _ h => (h.same s68).ins x8, hp.mono fun _ _ h => (h.same s8).ins x8⟩
      all_goals rw [← hf3, ← hf2, ← hf1]
      all_goals simp only [lookup_putF]
      · simp [f_ts, f_tp, f_tj]
      · simp [f_sp, f_sj]
      · simp [f_pj]
      · simp
end
end Ct

/-! The elimination on plain lists: widths and sizes. -/
namespace Ct
def Below (B : Nat) (ns : List Int) : Prop := ∀ n ∈ ns, n.natAbs < 2 ^ B
/-- each row as wide, each number below 2^B -/
def Ok (wd B : Nat) (rows : Rowss) : Prop := ∀ r ∈ rows, r.length = wd ∧ Below B r
/-- n columns on: the bits doubled and one more, n times -/
def bitsAt (B : Nat) : Nat → Nat
  | 0 => B
  | n + 1 => 2 * bitsAt B n + 1
end Ct

/-! The elimination on plain lists: what each step makes of a row, and that no led row is all noughts. -/
namespace Ct
/-- behind n columns: the waiting rows are 0 there, each led row has one of them that is not 0 -/
structure Led (wd n : Nat) (st : Rowss × Rowss) : Prop where
  len1 : ∀ r ∈ st.1, r.length = wd
  len2 : ∀ r ∈ st.2, r.length = wd
  wait : ∀ r ∈ st.1, ∀ j, j < n → idx r j = 0
  lead : ∀ r ∈ st.2, ∃ j, j < n ∧ idx r j ≠ 0
end Ct

/-! The elimination on plain lists: the same rows x that all rows bring to 0. -/
namespace Ct
/-- the sum of a row's numbers times x, over the first n places -/
def dot : Nat → (Nat → Int) → (Nat → Rat) → Rat
  | 0, _, _ => 0
  | n + 1, a, x => dot n a x + (a n : Rat) * x n
def Kills (wd : Nat) (x : Nat → Rat) (rows : Rowss) : Prop := ∀ r ∈ rows, dot wd (idx r) x = 0
end Ct

/-! The elimination on plain lists: where the led rows begin. -/
namespace Ct
open PySem PySem.Spec PyProof.Rows L2 TL
/-- a led row with its place, among all the places -/
def BeginsL (ls : List Nat) (r : List Int) (l : Nat) : Prop := idx r l ≠ 0 ∧ (∀ j, j < l → idx r j = 0) ∧ ∀ m ∈ ls, m ≠ l → idx r m = 0
structure Plainly (n : Nat) (rows : Rowss) (ls : List Nat) : Prop where
  up : ls.Pairwise (· < ·)
  low : ∀ l ∈ ls, l < n
  rows : Paired (BeginsL ls) rows ls
end Ct

/-! What the told solution solves, and when there is one. -/
namespace Ct
open PySem PySem.Spec PyProof.Rows L2 TL
def qx (r : List Rat) (j : Nat) : Rat := (r[j]?).getD 0
end Ct

/-! The told numbers solve the rows. -/
namespace Ct
open PySem PySem.Spec PyProof.Rows L2 TL
/-- the told numbers, and -1 behind them -/
def xOf (many : Nat) (f : List Rat) : Nat → Rat := fun j => if j = many then -1 else qx f j
section
variable {many : Nat} {rows : Rowss} (hw : ∀ r ∈ rows, r.length = many + 1)
include hw
end
end Ct

/-! Sums over lists; a set of equations of charges has a solution, and tells all differences. -/
namespace Ct
def sm {α : Type} (f : α → Rat) : List α → Rat
  | [] => 0
  | x :: r => f x + sm f r
section
variable {α β : Type}
end
/-! ### a net: ties T, places F, how a tie stands to a place -/
section
variable {τ φ : Type} (T : List τ) (F : List φ) (z : τ → φ → Rat) (c : τ → Rat)
def lapA (j k : φ) : Rat := sm (fun t => z t j * (z t k * c t)) T
def lapB (lam : τ → Rat) (j : φ) : Rat := sm (fun t => z t j * lam t) T
/-- the difference that potentials y make at a tie -/
def dif (y : φ → Rat) (t : τ) : Rat := sm (fun j => y j * z t j) F
end
end Ct

/-! Junctions and given potentials. -/
namespace Ct
open PySem PySem.Spec PyProof.Rows L2 TL RZ
abbrev Ties := List (Str × Str × Str)
section
variable {K : PySem.W.Frag} {H H' : Hp}
end
def givenT (o : Own) : Tab := o.sources.foldl (fun m e => m.put e.1 (ratF e.2)) (Tab.no.put "gnd" 0)
def named (ties : Ties) : List Str := ties.flatMap fun t => [t.2.1, t.2.2]
structure FreeOf (o : Own) (ties : Ties) (fl : List Str) : Prop where
  mem : ∀ x, x ∈ fl ↔ x ∈ named ties ∧ givenT o x = none
  once : fl.Nodup
  rise : sortedS fl = true
def spGiven (K : PySem.W.Frag) (C : Addr) : Sp := fun vs H Q _ => ∃ (v : V) (o : Own), vs = [v] ∧ CircN K C H v o ∧ OwnOk o ∧ ∀ d H', Same H H' → H d = none → DtAt K H' d 5 (givenT o) → Q (.ref d) H'
def spFree (K : PySem.W.Frag) (C : Addr) : Sp := fun vs H Q _ => ∃ (v u : V) (o : Own) (ties : Ties), vs = [v, u] ∧ CircN K C H v o ∧ OwnOk o ∧ TiesAt K H u ties ∧ ties.length ≤ 8 ∧
  ∀ l fl H', Same H H' → H l = none → H' l = some (.lst (fl.map V.str)) → FreeOf o ties fl → Q (.ref l) H'
section
variable {P : Program} {w : World} {K : PySem.W.Frag} {mg : Str → Option Value} {base : Heap} {C z : Addr}
end
end Ct

/-! Free junctions: a comprehension of two clauses, a set of texts, sorted. -/
namespace Ct
open PySem PySem.Spec PyProof.Rows L2 TL RZ
section
variable {X : Cx} {K : PySem.W.Frag}
end
section
variable {K : PySem.W.Frag} {J : It} {n : Nat} {G : Hp → Prop} {Y : Nat → Hp → V → Hp → Prop}
theorem yes_of {σ : L2.St} {H : Hp} {A B : Hp → Prop} (h : A H) : tYes σ H fun b H3 => if b = true then A H3 else B H3 := by
  show if true = true then A H else B H
  exact (if_pos rfl).mpr h
end
section
variable {P : Program} {w : World} {K : PySem.W.Frag} {mg : Str → Option Value} {base : Heap} {C z : Addr}
end
end Ct

/-! Voltages that potentials give. -/
namespace Ct
open PySem PySem.Spec PyProof.Rows L2 TL RZ
def tiedT (ties : Ties) (m : Tab) : Tab := ties.foldl (fun t e => t.put e.1 (m.at e.2.1 - m.at e.2.2)) Tab.no
/-- both ends of each tie have potentials -/
def EndsIn (m : Tab) (ties : Ties) : Prop := ∀ t ∈ ties, (∃ r, m t.2.1 = some r ∧ FitR 4400 r) ∧ ∃ r, m t.2.2 = some r ∧ FitR 4400 r
def standL (o : Own) (ties : Ties) (m : Tab) (st : List Rat) : List Rat := List.zipWith (fun (p : Str × Int × Int) a => ((tiedT ties m) p.1).getD a) o.parts st
def zeroT (o : Own) (fl : List Str) : Tab := fl.foldl (fun m x => m.put x 0) (givenT o)
def spTied (K : PySem.W.Frag) : Sp := fun vs H Q _ => ∃ (u : V) (d : Addr) (n : Nat) (ties : Ties) (m : Tab), vs = [u, .ref d] ∧ TiesAt K H u ties ∧ ties.length ≤ 8 ∧ DtAt K H d n m ∧ EndsIn m ties ∧ ∀ e H', Same H H' → H e = none → DtAt K H' e 8 (tiedT ties m) → Q (.ref e) H'
def spStand (K : PySem.W.Frag) (C : Addr) : Sp := fun vs H Q _ => ∃ (v u y : V) (d : Addr) (n : Nat) (o : Own) (ties : Ties) (m : Tab) (st : List Rat), vs = [v, u, .ref d, y] ∧ CircN K C H v o ∧ OwnOk o ∧ TiesAt K H u ties ∧ ties.length ≤ 8 ∧ DtAt K H d n m ∧ EndsIn m ties ∧ RatsAt K H y st ∧ st.length = o.parts.length ∧
  ∀ v' H', Same H H' → RatsAt K H' v' (standL o ties m st) → Q v' H'
def spGivenV (K : PySem.W.Frag) (C : Addr) : Sp := fun vs H Q _ => ∃ (v u : V) (l : Addr) (o : Own) (ties : Ties) (fl : List Str), vs = [v, u, .ref l] ∧ CircN K C H v o ∧ OwnOk o ∧ TiesAt K H u ties ∧ ties.length ≤ 8 ∧ SqL K H l (fl.map V.str) ∧ fl.length ≤ 16 ∧ EndsIn (zeroT o fl) ties ∧
  ∀ e H', Same H H' → H e = none → DtAt K H' e 8 (tiedT ties (zeroT o fl)) → Q (.ref e) H'
section
variable {P : Program} {w : World} {K : PySem.W.Frag} {mg : Str → Option Value} {base : Heap} {C z : Addr}
end
end Ct

/-! Sides, weights; sizes and voltages by name. -/
namespace Ct
open PySem PySem.Spec PyProof.Rows L2 TL RZ
def sideZ (t : Str × Str × Str) (j : Str) : Int := (if t.2.1 = j then 1 else 0) - (if t.2.2 = j then 1 else 0)
def intQ (i : Int) : Rat := (i : Rat)
def spSide (K : PySem.W.Frag) : Sp := fun vs H Q _ => ∃ (u : V) (t : Str × Str × Str) (j : Str), vs = [u, .str j] ∧ TieAt K H u t ∧ Q (.int (sideZ t j)) H
def spWeight (K : PySem.W.Frag) : Sp := fun vs H Q _ => ∃ (u : V) (t : Str × Str × Str) (j k : Str) (d : Addr) (n : Nat) (m : Tab) (r : Rat), vs = [u, .str j, .str k, .ref d] ∧ TieAt K H u t ∧ DtAt K H d n m ∧ m t.1 = some r ∧ FitR 4400 r ∧
  ∀ v' H', Same H H' → RatAt K H' v' (intQ (sideZ t j * sideZ t k) * r) → Q v' H'
def sizeT (o : Own) : Tab := o.parts.foldl (fun m e => m.put e.1 (ratF e.2)) Tab.no
def aheadT (o : Own) (st : List Rat) : Tab := (o.parts.zip st).foldl (fun m e => m.put e.1.1 e.2) Tab.no
section
variable {P : Program} {w : World} {K : PySem.W.Frag} {mg : Str → Option Value} {base : Heap} {C z : Addr}
end
end Ct

/-! The equations of a joining. -/
namespace Ct
open PySem PySem.Spec PyProof.Rows L2 TL RZ
def lackF (o : Own) (ties : Ties) (fl : List Str) (st : List Rat) (l : Ties) : Tab :=
  l.foldl (fun m t => m.put t.1 ((sizeT o).at t.1 * ((aheadT o st).at t.1 - (tiedT ties (zeroT o fl)).at t.1))) Tab.no
def lackT (o : Own) (ties : Ties) (fl : List Str) (st : List Rat) : Tab := lackF o ties fl st ties
def nearL (ties : Ties) (j : Str) : Ties := ties.filter fun t => decide (t.2.1 = j ∨ t.2.2 = j)
def weights (o : Own) (ties : Ties) (j k : Str) : List Rat := (nearL ties j).map fun t => intQ (sideZ t j * sideZ t k) * (sizeT o).at t.1
def mades (o : Own) (ties : Ties) (fl : List Str) (st : List Rat) (j : Str) : List Rat := (nearL ties j).map fun t => intQ (sideZ t j) * (lackT o ties fl st).at t.1
def eqL (o : Own) (ties : Ties) (fl : List Str) (st : List Rat) (j : Str) : List Rat := fl.map (fun k => sumL (weights o ties j k)) ++ [sumL (mades o ties fl st j)]
def eqsL (o : Own) (ties : Ties) (fl : List Str) (st : List Rat) : List (List Rat) := fl.map (eqL o ties fl st)
/-- sums whose numbers and parts of the sum are short -/
def SumOk (rs : List Rat) : Prop := (∀ r ∈ rs, FitR 4400 r) ∧ ∀ i, FitR 4400 (sumL (rs.take i))
def Fit? (q : Option Rat) : Prop := ∃ r, q = some r ∧ FitR 4400 r
/-- all that the equations come across -/
structure EqOk (o : Own) (ties : Ties) (fl : List Str) (st : List Rat) : Prop where
  few : ties.length ≤ 8
  free : fl.length ≤ 16
  ends : EndsIn (zeroT o fl) ties
  size : ∀ t ∈ ties, Fit? (sizeT o t.1)
  ahead : ∀ t ∈ ties, Fit? (aheadT o st t.1)
  given : ∀ t ∈ ties, Fit? (tiedT ties (zeroT o fl) t.1)
  step : ∀ t ∈ ties, FitR 4400 ((aheadT o st).at t.1 - (tiedT ties (zeroT o fl)).at t.1)
  lack : ∀ t ∈ ties, Fit? (lackT o ties fl st t.1)
  sumW : ∀ j ∈ fl, ∀ k ∈ fl, SumOk (weights o ties j k)
  sumM : ∀ j ∈ fl, SumOk (mades o ties fl st j)
def spEqs (K : PySem.W.Frag) (C : Addr) : Sp := fun vs H Q _ => ∃ (v u y : V) (l tk : Addr) (o : Own) (ties : Ties) (fl : List Str) (st : List Rat), vs = [v, u, y, .ref l, .ref tk] ∧ DtAt K H tk 0 Tab.no ∧ CircN K C H v o ∧ OwnOk o ∧ TiesAt K H u ties ∧ RatsAt K H y st ∧ st.length = o.parts.length ∧ SqL K H l (fl.map V.str) ∧ EqOk o ties fl st ∧
  ∀ a xs H', Same H H' → SqL K H' a xs → Paired (RatLAt K H') xs (eqsL o ties fl st) → Q (.ref a) H'
/-- a list of rationals that is not the list D -/
def RowX (K : PySem.W.Frag) (D : Addr) (H : Hp) (v : V) (rs : List Rat) : Prop := ∃ a xs, v = .ref a ∧ a ≠ D ∧ SqL K H a xs ∧ Paired (RatAt K H) xs rs
section
variable {P : Program} {w : World} {K : PySem.W.Frag} {mg : Str → Option Value} {base : Heap} {C z : Addr}
end
end Ct

/-! Settled potentials; what stands behind a joining. -/
namespace Ct
open PySem PySem.Spec PyProof.Rows L2 TL RZ
def wdOf (fl : List Str) : Nat := if fl = [] then 0 else fl.length + 1
def plainEq (o : Own) (ties : Ties) (fl : List Str) (st : List Rat) : List (List Rat) := plainOf (elimL (wdOf fl) ((eqsL o ties fl st).map clearedL)).2
def sols (o : Own) (ties : Ties) (fl : List Str) (st : List Rat) : List Rat := solL (plainEq o ties fl st) fl.length
def potT (o : Own) (ties : Ties) (fl : List Str) (st : List Rat) : Tab := (fl.zip (sols o ties fl st)).foldl (fun m e => m.put e.1 e.2) (givenT o)
/-- all that settling comes across -/
structure SolOk (o : Own) (ties : Ties) (fl : List Str) (st : List Rat) : Prop where
  eq : EqOk o ties fl st
  clear : ∀ r ∈ eqsL o ties fl st, ClearOk r
  elim : eqsL o ties fl st = [] ∧ wdOf fl = 0 ∨ eqsL o ties fl st ≠ [] ∧ ElimOk (wdOf fl) ((eqsL o ties fl st).map clearedL)
  begins : ∀ r ∈ plainEq o ties fl st, BeginsIn fl.length r
/-- the standing behind -/
def joinL (o : Own) (ties : Ties) (fl : List Str) (st : List Rat) : List Rat := standL o ties (potT o ties fl st) st
structure JoinOk (o : Own) (ties : Ties) (fl : List Str) (st : List Rat) : Prop where
  sol : SolOk o ties fl st
  ends : EndsIn (potT o ties fl st) ties
def spSettled (K : PySem.W.Frag) (C : Addr) : Sp := fun vs H Q _ => ∃ (v u y : V) (tk : Addr) (o : Own) (ties : Ties) (st : List Rat), vs = [v, u, y, .ref tk] ∧ DtAt K H tk 0 Tab.no ∧ CircN K C H v o ∧ OwnOk o ∧ TiesAt K H u ties ∧ ties.length ≤ 8 ∧ RatsAt K H y st ∧ st.length = o.parts.length ∧ (∀ fl, FreeOf o ties fl → SolOk o ties fl st) ∧
  ∀ fl d H', FreeOf o ties fl → Same H H' → H d = none → DtAt K H' d 21 (potT o ties fl st) → Q (.ref d) H'
def spJoined (K : PySem.W.Frag) (C : Addr) : Sp := fun vs H Q _ => ∃ (v y : V) (o : Own) (x : Str) (ties : Ties) (st : List Rat), vs = [v, .str x, y] ∧ CircN K C H v o ∧ OwnOk o ∧ (x, ties) ∈ o.joinings ∧ RatsAt K H y st ∧ st.length = o.parts.length ∧ (∀ fl, FreeOf o ties fl → JoinOk o ties fl st) ∧
  ∀ fl v' H', FreeOf o ties fl → Same H H' → RatsAt K H' v' (joinL o ties fl st) → Q v' H'
section
variable {P : Program} {w : World} {K : PySem.W.Frag} {mg : Str → Option Value} {base : Heap} {C z : Addr}
end
end Ct

/-! The equations of a joining, as a net. -/
namespace Ct
open PySem PySem.Spec PyProof.Rows L2 TL RZ
abbrev zS (t : Str × Str × Str) (j : Str) : Rat := intQ (sideZ t j)
section
variable (o : Own) (ties : Ties) (fl : List Str) (st : List Rat)
abbrev cS (t : Str × Str × Str) : Rat := (sizeT o).at t.1
abbrev lamS (t : Str × Str × Str) : Rat := (lackT o ties fl st).at t.1
abbrev rowsS : Rowss := (eqsL o ties fl st).map clearedL
/-- the told potential of a free junction -/
def xS (f : List Rat) (k : Str) : Rat := qx f (fl.idxOf k)
end
end Ct

/-! What stands behind a joining: joined again nothing changes; between two starts in a straight line. -/
namespace Ct
open PySem PySem.Spec PyProof.Rows L2 TL RZ
section
variable {o : Own} {ties : Ties} {fl : List Str}
/-- the told potentials -/
abbrev xT (o : Own) (ties : Ties) (fl : List Str) (st : List Rat) : Str → Rat := xS fl (sols o ties fl st)
/-- the difference that fixed junctions make at a tie -/
def givenD (o : Own) (ties : Ties) (fl : List Str) (t : Str × Str × Str) : Rat := (tiedT ties (zeroT o fl)).at t.1
/-- what a joining of a circuit keeps to -/
structure NetOk (o : Own) (ties : Ties) (fl : List Str) : Prop where
  p_once : (o.parts.map (·.1)).Nodup
  once : (ties.map (·.1)).Nodup
  of : ∀ t ∈ ties, t.1 ∈ o.parts.map (·.1)
  pos : ∀ t ∈ ties, 0 < cS o t
  nd : fl.Nodup
variable (N : NetOk o ties fl)
include N
end
end Ct

/-! Between two starts in a straight line; what a standing that fits is; the step at right angles. -/
namespace Ct
open PySem PySem.Spec PyProof.Rows L2 TL RZ
/-- from one standing on the way to another, so many times -/
def mixL (a b : List Rat) (k : Rat) : List Rat := List.zipWith (fun x y => x + k * (y - x)) a b
section
variable {o : Own} {ties : Ties} {fl : List Str} (N : NetOk o ties fl)
include N
end
end Ct

/-! Rows, number by number. -/
namespace Ct
open PySem PySem.Spec PyProof.Rows L2 TL RZ
def diffL (a b : List Rat) : List Rat := List.zipWith (fun x y => x - y) a b
def prodL (a b : List Rat) : List Rat := List.zipWith (fun x y => x * y) a b
def chargeL (o : Own) (a : List Rat) : List Rat := List.zipWith (fun (p : Str × Int × Int) x => ratF p.2 * x) o.parts a
def Fits4 (a : List Rat) : Prop := ∀ r ∈ a, FitR 4400 r
def spDiff (K : PySem.W.Frag) : Sp := fun vs H Q _ => ∃ (u v : V) (a b : List Rat), vs = [u, v] ∧ RatsAt K H u a ∧ RatsAt K H v b ∧ a.length = b.length ∧ a.length ≤ 100 ∧ Fits4 a ∧ Fits4 b ∧ ∀ v' H', Same H H' → RatsAt K H' v' (diffL a b) → Q v' H'
def spInner (K : PySem.W.Frag) : Sp := fun vs H Q _ => ∃ (u v : V) (a b : List Rat), vs = [u, v] ∧ RatsAt K H u a ∧ RatsAt K H v b ∧ a.length = b.length ∧ a.length ≤ 100 ∧ Fits4 a ∧ Fits4 b ∧ SumOk (prodL a b) ∧ ∀ v' H', Same H H' → RatAt K H' v' (sumL (prodL a b)) → Q v' H'
def spCharges (K : PySem.W.Frag) (C : Addr) : Sp := fun vs H Q _ => ∃ (v u : V) (o : Own) (a : List Rat), vs = [v, u] ∧ CircN K C H v o ∧ OwnOk o ∧ RatsAt K H u a ∧ a.length = o.parts.length ∧ Fits4 a ∧ ∀ v' H', Same H H' → RatsAt K H' v' (chargeL o a) → Q v' H'
section
variable {P : Program} {w : World} {K : PySem.W.Frag} {mg : Str → Option Value} {base : Heap} {C z : Addr}
end
end Ct

/-! What fits, what flows, what is lost, potentials. -/
namespace Ct
open PySem PySem.Spec PyProof.Rows L2 TL RZ
def ratsD (rs : List Rat) : PyData := .tuple (rs.map ratD)
/-- rows whose square can be told -/
structure SqOk (o : Own) (row : List Rat) : Prop where
  fit : Fits4 row
  chg : Fits4 (chargeL o row)
  sum : SumOk (prodL (chargeL o row) row)
def sqR (o : Own) (row : List Rat) : Rat := sumL (prodL (chargeL o row) row)
/-- told pairs of a junction and its potential -/
def PotsAt (K : PySem.W.Frag) (H : Hp) (v : V) (es : List (Str × Rat)) : Prop := ∃ a xs, v = .ref a ∧ SqT K H a xs ∧ Paired (fun v (e : Str × Rat) => ∃ t u, v = .ref t ∧ SqT K H t [.str e.1, u] ∧ RatAt K H u e.2) xs es
def spFit (K : PySem.W.Frag) (C : Addr) : Sp := fun vs H Q _ => ∃ (v y : V) (o : Own) (x : Str) (ties : Ties) (st : List Rat), vs = [v, .str x, y] ∧ CircN K C H v o ∧ OwnOk o ∧ (x, ties) ∈ o.joinings ∧ RatsAt K H y st ∧ st.length = o.parts.length ∧ (∀ fl, FreeOf o ties fl → JoinOk o ties fl st) ∧
  ∀ fl H', FreeOf o ties fl → Same H H' → Q (.bl (decide (joinL o ties fl st = st))) H'
def spFlow (K : PySem.W.Frag) (C : Addr) : Sp := fun vs H Q _ => ∃ (v y : V) (o : Own) (x : Str) (ties : Ties) (st : List Rat), vs = [v, .str x, y] ∧ CircN K C H v o ∧ OwnOk o ∧ (x, ties) ∈ o.joinings ∧ RatsAt K H y st ∧ st.length = o.parts.length ∧ Fits4 st ∧ (∀ fl, FreeOf o ties fl → JoinOk o ties fl st ∧ Fits4 (joinL o ties fl st) ∧ Fits4 (diffL (joinL o ties fl st) st)) ∧
  ∀ fl v' H', FreeOf o ties fl → Same H H' → RatsAt K H' v' (chargeL o (diffL (joinL o ties fl st) st)) → Q v' H'
def spSquare (K : PySem.W.Frag) (C : Addr) : Sp := fun vs H Q _ => ∃ (v y : V) (o : Own) (row : List Rat), vs = [v, y] ∧ CircN K C H v o ∧ OwnOk o ∧ RatsAt K H y row ∧ row.length = o.parts.length ∧ SqOk o row ∧ ∀ v' H', Same H H' → RatAt K H' v' (sqR o row) → Q v' H'
def spLost (K : PySem.W.Frag) (C : Addr) : Sp := fun vs H Q _ => ∃ (v y : V) (o : Own) (x : Str) (ties : Ties) (st : List Rat), vs = [v, .str x, y] ∧ CircN K C H v o ∧ OwnOk o ∧ (x, ties) ∈ o.joinings ∧ RatsAt K H y st ∧ st.length = o.parts.length ∧ Fits4 st ∧ (∀ fl, FreeOf o ties fl → JoinOk o ties fl st ∧ Fits4 (joinL o ties fl st) ∧ SqOk o (diffL (joinL o ties fl st) st)) ∧
  ∀ fl v' H', FreeOf o ties fl → Same H H' → RatAt K H' v' (sqR o (diffL (joinL o ties fl st) st)) → Q v' H'
def spPots (K : PySem.W.Frag) (C : Addr) : Sp := fun vs H Q _ => ∃ (v y : V) (o : Own) (x : Str) (ties : Ties) (st : List Rat), vs = [v, .str x, y] ∧ CircN K C H v o ∧ OwnOk o ∧ (x, ties) ∈ o.joinings ∧ RatsAt K H y st ∧ st.length = o.parts.length ∧
  (∀ fl, FreeOf o ties fl → JoinOk o ties fl st ∧ joinL o ties fl st = st ∧ ∀ j ∈ fl, ∃ r, potT o ties fl st j = some r) ∧
  ∀ fl fl' v' H', FreeOf o ties fl → FreeOf o ties fl' → Same H H' → PotsAt K H' v' (fl'.map fun j => (j, (potT o ties fl st).at j)) → Q v' H'
section
variable {P : Program} {w : World} {K : PySem.W.Frag} {mg : Str → Option Value} {base : Heap} {C z : Addr}
end
end Ct

/-! Sums over parts; the step stands at right angles to all that fits; sources at 0: from one side to the other. -/
namespace Ct
open PySem PySem.Spec PyProof.Rows L2 TL RZ
/-- size times number times number, added up -/
def dotR (o : Own) (a b : List Rat) : Rat := sumL (prodL (chargeL o a) b)
/-- a row's number at a part -/
abbrev atP (o : Own) (a : List Rat) (x : Str) : Rat := (aheadT o a).at x
section
variable {o : Own} (once : (o.parts.map (·.1)).Nodup)
include once
end
section
variable {o : Own} {ties : Ties} {fl : List Str} (N : NetOk o ties fl)
include N
end
/-! ### sources at 0 -/
def Flat (o : Own) : Prop := ∀ e ∈ o.sources, ratF e.2 = 0
section
variable {o : Own} {ties : Ties} {fl : List Str} (N : NetOk o ties fl) (f : Flat o)
include N f
end
end Ct

/-! Fractions by one denominator; rows in least terms. -/
namespace Ct
open PySem PySem.Spec PyProof.Rows L2 TL RZ
/-- so many times r is a whole number, M at most -/
def Wn (D M : Nat) (r : Rat) : Prop := ∃ n : Int, r * (D : Rat) = (n : Rat) ∧ n.natAbs ≤ M
/-! ### rows in least terms -/
/-- only ones divide all of the row -/
def Prim (r : List Int) : Prop := ∀ q : Int, (∀ n ∈ r, q ∣ n) → (∃ n ∈ r, n ≠ 0) → q.natAbs = 1
end Ct

/-! How great the numbers of the elimination become. -/
namespace Ct
open PySem PySem.Spec PyProof.Rows L2 TL RZ
/-- a row, but for a factor: whole numbers of X at most at all places below m, behind them a fraction by D -/
def Gd (m X Y D : Nat) (r : List Int) : Prop := ∃ (g : Rat) (w : Nat → Rat), g ≠ 0 ∧ (∀ j, (idx r j : Rat) = g * w j) ∧ (∀ j, j < m → Wn 1 X (w j)) ∧ Wn D Y (w m) ∧ ∀ j, m < j → w j = 0
def upX (X : Nat) : Nat → Nat
  | 0 => X
  | n + 1 => 2 * (upX X n * upX X n)
def upY (X Y : Nat) : Nat → Nat
  | 0 => Y
  | n + 1 => 2 * (upX X n * upY X Y n)
end Ct

/-! How great the told potentials become; the elimination of a joining's equations. -/
namespace Ct
open PySem PySem.Spec PyProof.Rows L2 TL RZ
/-- the bounds that a joining starts from: sizes by S, voltages by D -/
structure Sized (o : Own) (ties : Ties) (fl : List Str) (st : List Rat) (S C D A G : Nat) : Prop where
  size : ∀ t ∈ ties, Wn S C (cS o t)
  ahead : ∀ t ∈ ties, Wn D A ((aheadT o st).at t.1)
  given : ∀ t ∈ ties, Wn D G ((zeroT o fl).at t.2.1) ∧ Wn D G ((zeroT o fl).at t.2.2)
section
variable {o : Own} {ties : Ties} {fl : List Str} {st : List Rat} {S C D A G : Nat}
end
end Ct

set_option exponentiation.threshold 100000
/-! All that a joining comes across stays short. -/
namespace Ct
open PySem PySem.Spec PyProof.Rows L2 TL RZ
/-- the numbers stay short -/
structure Short (T m S C D A G X Y : Nat) : Prop where
  S0 : 0 < S
  D0 : 0 < D
  X1 : 1 ≤ X
  hX : T * C ≤ X
  hY : T * (C * (A + (G + G))) ≤ Y
  sd : S * D < 2 ^ 4400
  g : G + G < 2 ^ 4400
  a : A + (G + G) < 2 ^ 4400
  c : C < 2 ^ 4400
  ca : C * (A + (G + G)) < 2 ^ 4400
  tc : T * C < 2 ^ 4400
  y0 : Y < 2 ^ 4400
  x : upX X m * D < 2 ^ 4400
  y : upY X Y m < 2 ^ 4400
  dp : D * (upX X m) ^ m < 2 ^ 4400
  yp : G + upY X Y m * (upX X m) ^ m < 2 ^ 4400
  gp : G * (upX X m) ^ m < 2 ^ 4400
section
variable {o : Own} {ties : Ties} {fl : List Str} {st : List Rat} {S C D A G X Y : Nat}
/-- both ends of each tie are free or fixed -/
def EndsAt (o : Own) (ties : Ties) (fl : List Str) : Prop := ∀ t ∈ ties, (t.2.1 ∈ fl ∨ ∃ r, givenT o t.2.1 = some r) ∧ (t.2.2 ∈ fl ∨ ∃ r, givenT o t.2.2 = some r)
end
end Ct

namespace Ct
open PySem PySem.Spec PyProof.Rows L2 TL
abbrev s_l_circuit_tied : Stmt := top 59
abbrev N_l_circuit_tied : List Str := ["pot", "parts", "sources", "some", "found", "part", "plus", "minus"]
theorem sc_l_circuit_tied : FnScope N_l_circuit_tied ["pot", "parts", "sources"] (defScope s_l_circuit_tied) := ⟨rfl, rfl, rfl, by decide +kernel, rfl, by decide +kernel, by decide +kernel⟩
/-- the names that stand around -/
def someOf (ss : List Str) : List Str := (["gnd", "gnd", "m", "n", "m", "n", "o"] : List Str) ++ ss ++ ss
def spTiedN (K : PySem.W.Frag) : Sp := fun vs H Q _ => ∃ (p a b : Addr) (G : Hp) (n : Nat) (ps ss : List Str), vs = [.ref p, .ref a, .ref b] ∧ Beside p G H ∧ PotAt p H n ∧ n + 40 ≤ 1000000 ∧
  G a = some (.lst (ps.map V.str)) ∧ G b = some (.lst (ss.map V.str)) ∧ ps.length ≤ 8 ∧ ss.length ≤ 4 ∧ ps.Nodup ∧ (∀ x ∈ ss, Name x) ∧
  ∀ (l : Addr) (ts : List V) (ties : List (Str × Str × Str)) (G' H' : Hp), Same G G' → Beside p G' H' → PotAt p H' (n + 40) → G l = none → G' l = some (.lst ts) → Paired (TieAt K G') ts ties →
    ties.length ≤ ps.length → (ties.map (·.1)).Nodup → (∀ t ∈ ties, t.1 ∈ ps ∧ t.2.1 ∈ someOf ss ∧ t.2.2 ∈ someOf ss) → Q (.ref l) H'
theorem name_of {x : Str} (h : (1 ≤ x.length ∧ x.length ≤ 6) ∧ (tl x).all (fun c => decide (97 ≤ c ∧ c ≤ 122)) = true ∧ x ≠ "gnd") : Name x :=
  ⟨h.1.1, h.1.2, fun c hc => by simpa using List.all_eq_true.mp h.2.1 c hc, h.2.2⟩
theorem nm_m : Name "m" := name_of (by decide +kernel)
theorem nm_n : Name "n" := name_of (by decide +kernel)
theorem nm_o : Name "o" := name_of (by decide +kernel)
theorem some_junc {ss : List Str} (h : ∀ x ∈ ss, Name x) : ∀ x ∈ someOf ss, Junc x := by
  intro x hx
  unfold someOf at hx
  rcases List.mem_append.mp hx with hx | hx
  · rcases List.mem_append.mp hx with hx | hx
    · simp only [List.mem_cons, List.not_mem_nil, or_false] at hx
      rcases hx with rfl | rfl | rfl | rfl | rfl | rfl | rfl
      · exact .inl rfl
      · exact .inl rfl
      · exact .inr nm_m
      · exact .inr nm_n
      · exact .inr nm_m
      · exact .inr nm_n
      · exact .inr nm_o
    · exact .inr (h x hx)
  · exact .inr (h x hx)
theorem str_at {xs : List Str} {i : Nat} {v : V} (h : (xs.map V.str)[i]? = some v) : ∃ x ∈ xs, v = .str x := by
  rw [List.getElem?_map] at h
  cases e : xs[i]? with
  | none => rw [e] at h; cases h
  | some x => rw [e] at h; exact ⟨x, List.mem_of_getElem? e, (Option.some.inj h).symm⟩
theorem Paired.perm {α β : Type} {F : α → β → Prop} {xs zs : List α} (h : xs.Perm zs) : ∀ {ys : List β}, Paired F zs ys → ∃ ws, ws.Perm ys ∧ Paired F xs ws := by
  induction h with
  | nil => exact fun p => ⟨_, .refl _, p⟩
  | cons x _ ih =>
    intro ys p
    cases p with
    | cons f r =>
      obtain ⟨ws, h1, h2⟩ := ih r
      exact ⟨_, h1.cons _, .cons f h2⟩
  | swap x y l =>
    intro ys p
    cases p with
    | cons f r =>
      cases r with
      | cons g r => exact ⟨_, .swap _ _ _, .cons g (.cons f r)⟩
  | trans _ _ ih1 ih2 =>
    intro ys p
    obtain ⟨ws, h1, h2⟩ := ih2 p
    obtain ⟨us, h3, h4⟩ := ih1 h2
    exact ⟨us, h3.trans h1, h4⟩
section
variable {P : Program} {w : World} {K : PySem.W.Frag} {mg : Str → Option Value} {base : Heap}
theorem k_circuit_tied (D : Lies K mg "_law_circuit_tied" s_l_circuit_tied) (T : Plain mg) (G_l_take : Keeps P w K mg base 1 "_law_take" ["pot", "upto"] spTake) (G_l_of : Keeps P w K mg base 2 "_law_of" ["pot", "some"] (spOf K))
    (G_l_some : Keeps P w K mg base 2 "_law_some" ["pot", "pool", "many"] (spSome K)) : Keeps P w K mg base 3 "_law_circuit_tied" ["pot", "parts", "sources"] (spTiedN K) := by
  refine D.keeps sc_l_circuit_tied (fun _ _ _ _ _ _ us hl => bindsL3 (fun _ _ _ => rfl) us hl) (fun vs H Q E h => ?_) (fun f cdv A outer s H vs Q E hr h => ?_)
  · obtain ⟨p, a, b, G, n, ps, ss, rfl, _⟩ := h
    rfl
  · obtain ⟨p, a, b, G, n, ps, ss, rfl, bs, ht, hn, ga, gb, lp, ls, nd, hs, k⟩ := h
    refine ⟨_, (pss_cons (ps_par (i := 3) (j := 4) (by rfl) sc_l_circuit_tied.nd rfl rfl (by decide) rfl rfl (pa_cons (pe_op op_cat (pe_op op_cat (pe_lst (pa_cons pe_str (pa_cons pe_str (pa_cons pe_str (pa_cons pe_str (pa_cons pe_str (pa_cons pe_str (pa_cons pe_str pa_nil)))))))) (pv 2)) (pv 2)) (pa_cons (pe_lst pa_nil) pa_nil)) (by rfl))
      (pss_cons (ps_for PassesOwn.never rfl (pi_list (pv 1)) (pg_name (i := 5) sc_l_circuit_tied.nd rfl (Or.inl rfl))
        (pss_cons (ps_par (i := 6) (j := 7) (by rfl) sc_l_circuit_tied.nd rfl rfl (by decide) rfl rfl (pa_cons (pe_go G_l_of (hr.mono (by decide)) rfl (pa_cons (pv 0) (pa_cons (pv 3) pa_nil))) (pa_cons (pe_go G_l_of (hr.mono (by decide)) rfl (pa_cons (pv 0) (pa_cons (pv 3) pa_nil))) pa_nil)) (by rfl))
        (pss_one (ps_if (pt_cmpR op_gt (pe_go G_l_take (hr.mono (by decide)) rfl (pa_cons (pv 0) (pa_cons pe_int pa_nil))) pe_int (nomark _))
          (pss_one (ps_expr (pe_bm PySem.F.plainAttrs_list PySem.F.slot_list_append PySem.F.type_list_append mt_append (pv 4) (pa_cons (pe_tup (pa_cons (pv 5) (pa_cons (pv 6) (pa_cons (pv 7) pa_nil)))) pa_nil))))
          pss_nil))))
      (pss_one (ps_ret (pe_go G_l_some (hr.mono (by decide)) rfl (pa_cons (pv 0) (pa_cons (pv 4) (pa_cons (pe_callB call_len_seq (by rfl) T.n_len b_len (pa_cons (pv 4) pa_nil)) pa_nil)))))))), ?_⟩
    refine ⟨by show 7 ≤ sizeLine; decide, fun l1 n1 => ?_⟩
    obtain ⟨b1, s1, g1⟩ := bs.new (o := .lst [V.str "gnd", V.str "gnd", V.str "m", V.str "n", V.str "m", V.str "n", V.str "o"]) ht.some n1
    have t1 := ht.new (o := .lst [V.str "gnd", V.str "gnd", V.str "m", V.str "n", V.str "m", V.str "n", V.str "o"]) n1
    refine ⟨_, rfl, l1, b, _, _, rfl, rfl, upd_same, b1.sub _ _ (s1 _ _ gb), ?_, fun l2 n2 => ?_⟩
    · rw [List.length_map]
      show 7 + _ ≤ 16777216
      omega
    obtain ⟨b2, s2, g2⟩ := b1.new (o := .lst ([V.str "gnd", V.str "gnd", V.str "m", V.str "n", V.str "m", V.str "n", V.str "o"] ++ ss.map V.str)) t1.some n2
    have t2 := t1.new (o := .lst ([V.str "gnd", V.str "gnd", V.str "m", V.str "n", V.str "m", V.str "n", V.str "o"] ++ ss.map V.str)) n2
    refine ⟨_, rfl, l2, b, _, _, rfl, rfl, upd_same, b2.sub _ _ (s2 _ _ (s1 _ _ gb)), ?_, fun S nS => ?_⟩
    · rw [List.length_append, List.length_map]
      show (7 + _) + _ ≤ 16777216
      omega
    obtain ⟨b3, s3, g3⟩ := b2.new (o := .lst ([V.str "gnd", V.str "gnd", V.str "m", V.str "n", V.str "m", V.str "n", V.str "o"] ++ ss.map V.str ++ ss.map V.str)) t2.some nS
    have t3 := t2.new (o := .lst ([V.str "gnd", V.str "gnd", V.str "m", V.str "n", V.str "m", V.str "n", V.str "o"] ++ ss.map V.str ++ ss.map V.str)) nS
    refine ⟨Nat.zero_le _, fun F nF => ⟨_, _, rfl, ?_⟩⟩
    obtain ⟨b4, s4, g4⟩ := b3.new (o := .lst []) t3.some nF
    have t4 := t3.new (o := .lst []) nF
    have sG := s1.trans (s2.trans s3)
    have eS : [V.str "gnd", V.str "gnd", V.str "m", V.str "n", V.str "m", V.str "n", V.str "o"] ++ ss.map V.str ++ ss.map V.str = (someOf ss).map V.str := by
      unfold someOf
      rw [List.map_append, List.map_append]
      rfl
    have lS : (someOf ss).length ≤ 15 ∧ 0 < (someOf ss).length := by
      unfold someOf
      rw [List.length_append, List.length_append]
      show 7 + _ + _ ≤ 15 ∧ 0 < 7 + _ + _
      omega
    have npF : p ≠ F := fun z => t3.some (z ▸ nF)
    generalize hG0 : upd (upd (upd G l1 (.lst [V.str "gnd", V.str "gnd", V.str "m", V.str "n", V.str "m", V.str "n", V.str "o"])) l2 (.lst ([V.str "gnd", V.str "gnd", V.str "m", V.str "n", V.str "m", V.str "n", V.str "o"] ++ ss.map V.str))) S
      (.lst ([V.str "gnd", V.str "gnd", V.str "m", V.str "n", V.str "m", V.str "n", V.str "o"] ++ ss.map V.str ++ ss.map V.str)) = G0 at *
    have gS : G0 S = some (.lst ((someOf ss).map V.str)) := by
      rw [← hG0, ← eS]
      exact upd_same
    refine ⟨_, rfl, a, rfl, ⟨_, SqL.of (b4.sub _ _ (s4 _ _ (sG _ _ ga)))⟩, for_list (xs := ps.map V.str) (fun i σ H' => ∃ (v5 v6 v7 : Option V) (Gi : Hp) (vs : List V) (ties : List (Str × Str × Str)), σ = [some (.ref p), some (.ref a), some (.ref b), some (.ref S), some (.ref F), v5, v6, v7] ∧
      Same G0 Gi ∧ Beside p Gi H' ∧ PotAt p H' (n + 3 * i) ∧ Gi F = some (.lst vs) ∧ Paired (TieAt K Gi) vs ties ∧ ties.length ≤ i ∧ (ties.map (·.1)).Sublist (ps.take i) ∧ ∀ t ∈ ties, t.2.1 ∈ someOf ss ∧ t.2.2 ∈ someOf ss)
      ⟨none, none, none, _, [], [], rfl, s4, b4, t4, upd_same, .nil, Nat.le_refl _, List.nil_sublist _, fun _ h => nomatch h⟩ (fun i σ H' _ ⟨_, _, _, Gi, _, _, _, s, bi, _⟩ => SqL.of (bi.sub _ _ (s _ _ (sG _ _ ga)))) ?_ ?_⟩
    · rintro i x σ H' hx ⟨v5, v6, v7, Gi, vs, ties, rfl, si, bi, ti, gF, pt, lt, sub, jn⟩
      obtain ⟨y, hy, rfl⟩ : ∃ y, ps[i]? = some y ∧ x = V.str y := by
        rw [List.getElem?_map] at hx
        cases e : ps[i]? with
        | none => rw [e] at hx; cases hx
        | some y => rw [e] at hx; exact ⟨y, rfl, (Option.some.inj hx).symm⟩
      have hi : i < 8 := Nat.lt_of_lt_of_le (List.getElem?_eq_some_iff.mp hy).1 lp
      have gSi := si _ _ gS
      refine ⟨_, rfl, _, rfl, p, S, Gi, n + 3 * i, _, rfl, bi, ti, by omega, SqL.of gSi, by rw [List.length_map]; omega, by rw [List.length_map]; omega, fun j1 w1 G1 H1 e1 q1 c1 u1 => ?_⟩
      refine ⟨_, rfl, _, rfl, p, S, G1, n + 3 * i + 1, _, rfl, c1, u1, by omega, SqL.of (q1 _ _ gSi), by rw [List.length_map]; omega, by rw [List.length_map]; omega, fun j2 w2 G2 H2 e2 q2 c2 u2 => ?_⟩
      obtain ⟨x1, m1, rfl⟩ := str_at e1
      obtain ⟨x2, m2, rfl⟩ := str_at e2
      refine ⟨_, _, rfl, _, rfl, p, G2, n + 3 * i + 2, 5, rfl, c2, u2, by omega, by decide, by decide, fun d G3 H3 d0 d5 q3 c3 u3 => ?_⟩
      have s3' : Same Gi G3 := q1.trans (q2.trans q3)
      have gF3 := s3' _ _ gF
      refine ⟨_, _, rfl, rfl, _, rfl, ite2 (fun h0 => ?_) (fun h0 => ?_)⟩
      · refine ⟨_, rfl, .inl ⟨rfl, _, SqL.of (c3.sub _ _ gF3)⟩, _, rfl, _, rfl, _, rfl, by show 3 ≤ sizeLine; decide, fun t nt => ?_⟩
        obtain ⟨c4, q4, g4'⟩ := c3.new (o := .tup [V.str y, V.str x1, V.str x2]) u3.some nt
        have gF4 := q4 _ _ gF3
        refine ⟨F, vs, _, rfl, rfl, c4.sub _ _ gF4, ?_, ?_⟩
        · have := pt.length
          show vs.length < 16777216
          omega
        have st : ∀ v c, TieAt K Gi v c → TieAt K (upd (upd G3 t (.tup [V.str y, V.str x1, V.str x2])) F (.lst (vs ++ [.ref t]))) v c := fun v c h => (h.same (s3'.trans q4)).list gF4
        refine ⟨_, _, _, _, vs ++ [.ref t], ties ++ [(y, x1, x2)], rfl, same_but (si.trans (s3'.trans q4)) g4, c4.both npF, ?_, upd_same, (pt.mono st).snoc ⟨t, rfl, SqT.list gF4 (SqT.of upd_same)⟩, ?_, ?_, ?_⟩
        · have := (u3.new (o := .tup [V.str y, V.str x1, V.str x2]) nt).past (o := .lst (vs ++ [.ref t])) npF
          exact this
        · rw [List.length_append, List.length_singleton]
          omega
        · rw [List.map_append, take_snoc hy]
          exact sub.append (List.Sublist.refl _)
        · intro z hz
          rcases List.mem_append.mp hz with hz | hz
          · exact jn z hz
          · rw [List.mem_singleton] at hz
            subst hz
            exact ⟨m1, m2⟩
      · refine ⟨_, _, _, _, vs, ties, rfl, si.trans s3', c3, ?_, gF3, pt.mono fun v c h => h.same s3', by omega, sub.trans (by rw [take_snoc hy]; exact List.sublist_append_left _ _), jn⟩
        exact u3
    · rintro σ H' ⟨v5, v6, v7, Gi, vs, ties, rfl, si, bi, ti, gF, pt, lt, sub, jn⟩
      rw [List.length_map] at ti lt sub
      rw [List.take_length] at sub
      have lv := pt.length
      refine ⟨_, rfl, _, rfl, _, rfl, F, _, rfl, .inl (SqL.of (bi.sub _ _ gF)), p, F, Gi, n + 3 * ps.length, vs.length, vs, rfl, bi, ti, by omega, SqL.of gF, Nat.le_refl _, by omega, fun ys rs l G5 H5 pm ly s5 b5 t5 gl gl0 => ?_⟩
      have er : rs = [] := by
        have := pm.length_eq
        rw [List.length_append] at this
        exact List.eq_nil_of_length_eq_zero (by omega)
      subst er
      rw [List.append_nil] at pm
      obtain ⟨ws, w1, w2⟩ := Paired.perm pm pt
      have w3 : (ws.map (·.1)).Perm (ties.map (·.1)) := w1.map _
      refine k l ys ws G5 H5 (sG.trans (si.trans s5)) b5 (t5.more (by omega) hn) (sG.trans si |>.free gl0) gl (w2.mono fun v c h => h.same s5) ?_ ?_ fun t htt => ?_
      · rw [w1.length_eq]
        omega
      · exact w3.nodup_iff.mpr (nd.sublist sub)
      · have h1 := w1.mem_iff.mp htt
        exact ⟨sub.subset (List.mem_map_of_mem h1), jn t h1⟩
end
end Ct

namespace Ct
open PySem PySem.Spec PyProof.Rows L2 TL
abbrev s_l_circuit_drawn : Stmt := top 60
abbrev N_l_circuit_drawn : List Str := ["pot", "parts", "joinings", "sources", "names", "whose", "own", "name"]
theorem sc_l_circuit_drawn : FnScope N_l_circuit_drawn ["pot", "parts", "joinings", "sources"] (defScope s_l_circuit_drawn) := ⟨rfl, rfl, rfl, by decide +kernel, rfl, by decide +kernel, by decide +kernel⟩
def sizes7 : List (Int × Int) := [(1, 1), (1, 1), (2, 1), (1, 2), (3, 1), (5, 1), (2, 3)]
/-- what is drawn is out of the law's own lists -/
def JoiIn (ps ss : List Str) (j : Str × List (Str × Str × Str)) : Prop := j.2.length ≤ ps.length ∧ ∀ t ∈ j.2, t.2.1 ∈ someOf ss ∧ t.2.2 ∈ someOf ss
structure DrawnOk (o : Own) : Prop where
  sizes : ∀ e ∈ o.parts, e.2 ∈ sizes7
  volts : ∀ e ∈ o.sources, drawn (-9) 9 e.2
  ends : ∀ j ∈ o.joinings, JoiIn (o.parts.map (·.1)) (o.sources.map (·.1)) j
def spDrawnN (K : PySem.W.Frag) : Sp := fun vs H Q _ => ∃ (p : Addr) (G : Hp) (n a b c : Nat), vs = [.ref p, .int a, .int b, .int c] ∧ Beside p G H ∧ PotAt p H n ∧ n + 400 ≤ 1000000 ∧ 1 ≤ a ∧ a ≤ 8 ∧ 1 ≤ b ∧ b ≤ 6 ∧ c ≤ 4 ∧
  ∀ (v : V) (o : Own) (G' H' : Hp), Same G G' → Beside p G' H' → PotAt p H' (n + 400) → OwnAt K G' v o → OwnOk o → DrawnOk o → o.parts.length = a → o.joinings.length = b → o.sources.length = c → Q v H'
/-- the same, its list of joinings still new -/
def spDrawnJ (K : PySem.W.Frag) : Sp := fun vs H Q _ => ∃ (p : Addr) (G : Hp) (n a b c : Nat), vs = [.ref p, .int a, .int b, .int c] ∧ Beside p G H ∧ PotAt p H n ∧ n + 400 ≤ 1000000 ∧ 1 ≤ a ∧ a ≤ 8 ∧ 1 ≤ b ∧ b ≤ 6 ∧ c ≤ 4 ∧
  ∀ (q l D1 D2 : Addr) (x1 x2 vs : List V) (o : Own) (G' H' : Hp), Same G G' → Beside p G' H' → PotAt p H' (n + 400) → p ≠ l → G' l = none → H' l = some (.lst vs) → Paired (JoiAt K G') vs o.joinings → G' q = some (.dK (kvs3 (.ref D1) (.ref D2) (.ref l))) → G' D1 = some (.lst x1) → Paired (EntAt K G') x1 o.sources → G' D2 = some (.lst x2) → Paired (EntAt K G') x2 o.parts → OwnOk o → DrawnOk o → o.parts.length = a → o.joinings.length = b → o.sources.length = c → Q (.ref q) H'
theorem merge3 (s p j : V) : mergeK [] (kvs3 s p j) = kvs3 s p j := by
  unfold mergeK kvs3
  simp [putK, List.foldl, n_sp, n_js, n_jp, n_ps, n_sj, n_pj]
theorem put_p (s p j v : V) : putK (kvs3 s p j) (.inr "parts") v = kvs3 s v j := by
  unfold kvs3
  simp [putK, n_sp, n_js, n_jp, n_ps, n_sj, n_pj]
theorem dput_p {H : Hp} {d : Addr} {s p j v : V} (h : H d = some (.dK (kvs3 s p j))) : DPut H d (.str "parts") v (upd H d (.dK (kvs3 s v j))) := by
  have q := DPut.k (k := Sum.inr "parts") (v := v) h (by show 3 < 16777216; decide)
  rw [put_p] at q
  exact q
/-! ### the fractions and names are such as the document wants -/
theorem ratio_ok {a b : Int} (hb : 0 < b) (ha : a.natAbs < 2 ^ 1000) (hb2 : b.natAbs < 2 ^ 1000) : FrOk (ratio a b) := by
  have g0 : 0 < Int.gcd a b := Int.gcd_pos_of_ne_zero_right a (by omega)
  have g1 : 0 < (Int.gcd a b : Int) := by omega
  refine ⟨?_, ?_, ?_, ?_⟩
  · exact Int.ediv_pos_of_pos_of_dvd hb (by omega) (Int.gcd_dvd_right a b)
  · exact Int.gcd_ediv_gcd_ediv_gcd g0
  · have := Int.natAbs_ediv_le_natAbs a (Int.gcd a b : Int)
    exact Nat.lt_of_le_of_lt this ha
  · have := Int.natAbs_ediv_le_natAbs b (Int.gcd a b : Int)
    exact Nat.lt_of_le_of_lt this hb2
theorem small_nat {i : Int} (h0 : -(1000000 : Int) ≤ i) (h1 : i ≤ 1000000) : i.natAbs < 2 ^ 1000 := Nat.lt_of_le_of_lt (show i.natAbs ≤ 1000000 by omega) (by decide +kernel)
theorem drawn_ok {f : Int × Int} (h : drawn (-9) 9 f) : FrOk f := by
  obtain ⟨b, d, hb, d0, d1, rfl⟩ := h
  refine ratio_ok (by omega) (small_nat ?_ ?_) (small_nat (by omega) (by omega))
  all_goals rcases hb with rfl | rfl | rfl | rfl <;> omega
def pool1 : List Str := ["a", "b", "c", "d", "e", "m", "cap", "part", "lid", "gn"]
def pool2 : List Str := ["s", "t", "a", "src", "m"]
def pool3 : List Str := ["x", "y", "z", "up", "a", "down", "s"]
def nameB (x : Str) : Bool := decide ((1 ≤ x.length ∧ x.length ≤ 6) ∧ (tl x).all (fun c => decide (97 ≤ c ∧ c ≤ 122)) = true ∧ x ≠ "gnd")
theorem names_of {l : List Str} (h : l.all nameB = true) : ∀ x ∈ l, Name x := fun x hx => name_of (of_decide_eq_true (List.all_eq_true.mp h x hx))
theorem pool1_ok : (∀ x ∈ pool1, Name x) ∧ pool1.Nodup := ⟨names_of (by decide +kernel), by decide +kernel⟩
theorem pool2_ok : (∀ x ∈ pool2, Name x) ∧ pool2.Nodup := ⟨names_of (by decide +kernel), by decide +kernel⟩
theorem pool3_ok : (∀ x ∈ pool3, Name x) ∧ pool3.Nodup := ⟨names_of (by decide +kernel), by decide +kernel⟩
/-- what some of a pool's names are -/
theorem some_names {pool : List Str} (hp : (∀ x ∈ pool, Name x) ∧ pool.Nodup) {ys rs : List V} (h : (ys ++ rs).Perm (pool.map V.str)) : ∃ xs : List Str, ys = xs.map V.str ∧ xs.Nodup ∧ ∀ x ∈ xs, Name x := by
  obtain ⟨ws, w1, w2⟩ := Paired.perm h (strs_pair pool)
  have e := strs_are w2
  refine ⟨ws.take ys.length, ?_, (w1.nodup_iff.mpr hp.2).sublist (List.take_sublist _ _), fun x hx => hp.1 x (w1.mem_iff.mp (List.mem_of_mem_take hx))⟩
  rw [List.map_take, ← e, List.take_left']
  rfl
theorem sizes7_ok : ∀ f ∈ sizes7, FrOk f ∧ 0 < f.1 := by
  intro f hf
  simp only [sizes7, List.mem_cons, List.not_mem_nil, or_false] at hf
  rcases hf with rfl | rfl | rfl | rfl | rfl | rfl | rfl <;> exact ⟨⟨by decide, by decide, small_nat (by decide) (by decide), small_nat (by decide) (by decide)⟩, by decide⟩
theorem Paired.map_eq {α β γ : Type} {F : α → β → Prop} {f : β → α} : ∀ {xs : List α} {ys : List β}, Paired F xs ys → (∀ x y, F x y → f y = x) → ys.map f = xs
  | _, _, .nil, _ => rfl
  | _, _, .cons h r, k => by rw [List.map_cons, k _ _ h, Paired.map_eq (γ := γ) r k]
theorem Paired.all {α β : Type} {F : α → β → Prop} : ∀ {xs : List α} {ys : List β}, Paired F xs ys → ∀ y ∈ ys, ∃ x ∈ xs, F x y
  | _, _, .nil, _, h => nomatch h
  | _, _, .cons h r, y, hy => by
    rcases List.mem_cons.mp hy with rfl | hy
    · exact ⟨_, List.mem_cons_self, h⟩
    · obtain ⟨x, hx, q⟩ := Paired.all r y hy
      exact ⟨x, List.mem_cons_of_mem _ hx, q⟩
section
variable {P : Program} {w : World} {K : PySem.W.Frag} {mg : Str → Option Value} {base : Heap}
theorem k_circuit_drawnJ (D : Lies K mg "_law_circuit_drawn" s_l_circuit_drawn) (T : Plain mg) (G_l_of : Keeps P w K mg base 2 "_law_of" ["pot", "some"] (spOf K)) (G_l_some : Keeps P w K mg base 2 "_law_some" ["pot", "pool", "many"] (spSome K))
    (G_l_frac_drawn : Keeps P w K mg base 3 "_law_frac_drawn" ["pot", "low", "high"] spFracDrawn) (G_l_circuit_tied : Keeps P w K mg base 3 "_law_circuit_tied" ["pot", "parts", "sources"] (spTiedN K)) :
    Keeps P w K mg base 4 "_law_circuit_drawn" ["pot", "parts", "joinings", "sources"] (spDrawnJ K) := by
  refine D.keeps sc_l_circuit_drawn (fun _ _ _ _ _ _ us hl => bindsL4 (fun _ _ _ _ => rfl) us hl) (fun vs H Q E h => ?_) (fun f cdv A outer s H vs Q E hr h => ?_)
  · obtain ⟨p, G, n, a, b, c, rfl, _⟩ := h
    rfl
  · obtain ⟨p, G, n, a, b, c, rfl, bs, ht, hn, ha, ha2, hb, hb2, hc, k⟩ := h
    refine ⟨_, (pss_cons (ps_set (i := 4) sc_l_circuit_drawn.nd rfl (Or.inl rfl) (pe_go G_l_some (hr.mono (by decide)) rfl (pa_cons (pv 0) (pa_cons (pe_lst (pa_cons pe_str (pa_cons pe_str (pa_cons pe_str (pa_cons pe_str (pa_cons pe_str (pa_cons pe_str (pa_cons pe_str (pa_cons pe_str (pa_cons pe_str (pa_cons pe_str pa_nil))))))))))) (pa_cons (pv 1) pa_nil)))))
      (pss_cons (ps_set (i := 5) sc_l_circuit_drawn.nd rfl (Or.inl rfl) (pe_go G_l_some (hr.mono (by decide)) rfl (pa_cons (pv 0) (pa_cons (pe_lst (pa_cons pe_str (pa_cons pe_str (pa_cons pe_str (pa_cons pe_str (pa_cons pe_str pa_nil)))))) (pa_cons (pv 3) pa_nil)))))
      (pss_cons (ps_set (i := 6) sc_l_circuit_drawn.nd rfl (Or.inl rfl) (pe_disp (pps_cons pe_str (pe_lc (own := [("name", 7)]) (g := gName 7) (tt := tYes) rfl sc_l_circuit_drawn.nd (pi_list (pv 5)) (blkOk_by (N := N_l_circuit_drawn) (sc := defScope s_l_circuit_drawn) (by decide +kernel)) (fun _ _ _ _ _ => pg_name (i := 7) sc_l_circuit_drawn.nd rfl (Or.inl rfl)) (fun _ _ _ _ _ => pts_nil) (fun _ _ _ _ _ => by exact (pe_tup (pa_cons (pv 7) (pa_cons (pe_go G_l_frac_drawn (hr.mono (by decide)) rfl (pa_cons (pv 0) (pa_cons (pe_un un_neg pe_int) (pa_cons pe_int pa_nil)))) pa_nil))))) (pps_cons pe_str (pe_lst pa_nil) (pps_cons pe_str (pe_lst pa_nil) pps_nil))) (by rfl) (by rfl) (fun z => by cases z) (by decide)))
      (pss_cons (ps_dput (hu_of hr) (pv 6) pe_str (pe_lc (own := [("name", 7)]) (g := gName 7) (tt := tYes) rfl sc_l_circuit_drawn.nd (pi_list (pv 4)) (blkOk_by (N := N_l_circuit_drawn) (sc := defScope s_l_circuit_drawn) (by decide +kernel)) (fun _ _ _ _ _ => pg_name (i := 7) sc_l_circuit_drawn.nd rfl (Or.inl rfl)) (fun _ _ _ _ _ => pts_nil) (fun _ _ _ _ _ => by exact (pe_tup (pa_cons (pv 7) (pa_cons (pe_go G_l_of (hr.mono (by decide)) rfl (pa_cons (pv 0) (pa_cons (pe_lst (pa_cons (pe_tup (pa_cons pe_int (pa_cons pe_int pa_nil))) (pa_cons (pe_tup (pa_cons pe_int (pa_cons pe_int pa_nil))) (pa_cons (pe_tup (pa_cons pe_int (pa_cons pe_int pa_nil))) (pa_cons (pe_tup (pa_cons pe_int (pa_cons pe_int pa_nil))) (pa_cons (pe_tup (pa_cons pe_int (pa_cons pe_int pa_nil))) (pa_cons (pe_tup (pa_cons pe_int (pa_cons pe_int pa_nil))) (pa_cons (pe_tup (pa_cons pe_int (pa_cons pe_int pa_nil))) pa_nil)))))))) pa_nil))) pa_nil))))) rfl)
      (pss_cons (ps_for PassesOwn.never rfl (pi_list (pe_go G_l_some (hr.mono (by decide)) rfl (pa_cons (pv 0) (pa_cons (pe_lst (pa_cons pe_str (pa_cons pe_str (pa_cons pe_str (pa_cons pe_str (pa_cons pe_str (pa_cons pe_str (pa_cons pe_str pa_nil)))))))) (pa_cons (pv 2) pa_nil))))) (pg_name (i := 7) sc_l_circuit_drawn.nd rfl (Or.inl rfl))
        (pss_one (ps_expr (pe_bm PySem.F.plainAttrs_list PySem.F.slot_list_append PySem.F.type_list_append mt_append (pe_dget (hu_of hr) (pv 6) pe_str (fun _ _ => rfl)) (pa_cons (pe_tup (pa_cons (pv 7) (pa_cons (pe_go G_l_circuit_tied (hr.mono (by decide)) rfl (pa_cons (pv 0) (pa_cons (pv 4) (pa_cons (pv 5) pa_nil)))) pa_nil))) pa_nil)))))
      (pss_one (ps_ret (pv 6)))))))), ?_⟩
    refine ⟨_, rfl, by show 10 ≤ sizeLine; decide, fun l1 n1 => ⟨_, rfl, ?_⟩⟩
    obtain ⟨b1, s1, g1⟩ := bs.new (o := .lst (pool1.map V.str)) ht.some n1
    refine ⟨p, l1, _, n, a, pool1.map V.str, rfl, b1, ht.new n1, by omega, SqL.of upd_same, by show a ≤ 10; omega, by show 10 < 1000000; decide, fun ys1 rs1 A1 G2 H2 pm1 ly1 s2 b2 t2 gA gA0 => ?_⟩
    obtain ⟨ps, rfl, nd1, nm1⟩ := some_names pool1_ok pm1
    rw [List.length_map] at ly1
    refine ⟨_, rfl, by show 5 ≤ sizeLine; decide, fun l2 n2 => ⟨_, rfl, ?_⟩⟩
    obtain ⟨b3, s3, g3⟩ := b2.new (o := .lst (pool2.map V.str)) t2.some n2
    refine ⟨p, l2, _, n + a, c, pool2.map V.str, rfl, b3, t2.new n2, by omega, SqL.of upd_same, by show c ≤ 5; omega, by show 5 < 1000000; decide, fun ys2 rs2 B1 G4 H4 pm2 ly2 s4 b4 t4 gB gB0 => ?_⟩
    obtain ⟨ss, rfl, nd2, nm2⟩ := some_names pool2_ok pm2
    rw [List.length_map] at ly2
    have gA4 := s4 _ _ (s3 _ _ gA)
    refine fun q nq => into_pairC ?_
    obtain ⟨b5, s5, g5⟩ := b4.new (o := .dK []) t4.some nq
    have t5 := t4.new (o := .dK []) nq
    refine comp_pot (c := 2) (es := ss) (R := StrV) (R' := fun H' => EntAt K H') (P := fun x e => e.1 = x ∧ drawn (-9) 9 e.2) b5 t5 (by omega) (fun R r => ⟨_, rfl, r⟩) (SqL.of (s5 _ _ gB)) (strs_pair ss) (by rw [List.length_map]; omega) (fun s _ _ h => h.same s) (fun _ hD _ _ h => h.list hD)
      (fun x e Gi Hi m Z r he si bi ti hm hz => ?_) (fun G6 H6 D1 acc1 fs1 gD10 s6 b6 t6 gD1 pa1 pf1 => ?_)
    · obtain rfl : x = .str e := r
      refine ⟨rfl, _, rfl, _, rfl, _, rfl, p, Gi, m, -9, 9, rfl, bi, ti, hm, by decide, by decide, by decide, fun f t G7 H7 df s7 b7 t7 g7 => ⟨by show 2 ≤ sizeLine; decide, fun t2 nt2 => ?_⟩⟩
      obtain ⟨b8, s8, g8⟩ := b7.new (o := .tup [.str e, .ref t]) t7.some nt2
      exact hz _ (e, f) _ _ (s7.trans s8) b8 (t7.new nt2) ⟨t2, _, rfl, SqT.of upd_same, t, rfl, SqT.of (s8 _ _ g7)⟩ ⟨rfl, df⟩
    refine ⟨Nat.zero_le _, fun l3 n3 => ⟨Nat.zero_le _, fun l4 n4 => ?_⟩⟩
    obtain ⟨b9, s9, g9⟩ := b6.new (o := .lst []) t6.some n3
    have t9 := t6.new (o := .lst []) n3
    obtain ⟨b10, s10, g10⟩ := b9.new (o := .lst []) t9.some n4
    have t10 := t9.new (o := .lst []) n4
    have gq10 := s10 _ _ (s9 _ _ (s6 _ _ upd_same))
    refine ⟨b10.sub _ _ gq10, kvs3 (.ref D1) (.ref l3) (.ref l4), rfl, by show 3 ≤ 15; decide, ?_⟩
    rw [merge3]
    have npq : p ≠ q := fun z => t4.some (z ▸ nq)
    have b11 := b10.both (o := .dK (kvs3 (.ref D1) (.ref l3) (.ref l4))) npq
    have t11 := t10.past (o := .dK (kvs3 (.ref D1) (.ref l3) (.ref l4))) npq
    have gq4 : G4 q = none := g5
    have s11 : Same G4 (upd (upd (upd G6 l3 (.lst [])) l4 (.lst [])) q (.dK (kvs3 (.ref D1) (.ref l3) (.ref l4)))) := same_but (s5.trans (s6.trans (s9.trans s10))) gq4
    have f11 : ∀ {b : Addr} {z : HO}, b ≠ q → G6 b = some z → (upd (upd (upd G6 l3 (.lst [])) l4 (.lst [])) q (.dK (kvs3 (.ref D1) (.ref l3) (.ref l4)))) b = some z := fun nb h => (upd_ne nb).trans (s10 _ _ (s9 _ _ h))
    have n43 : l3 ≠ l4 := ne_of_none upd_same n4
    have l3q : l3 ≠ q := fun z => by rw [z, b6.sub _ _ (s6 _ _ upd_same)] at n3; cases n3
    have l4q : l4 ≠ q := fun z => by rw [z, b9.sub _ _ (s9 _ _ (s6 _ _ upd_same))] at n4; cases n4
    have hl4 : (upd (upd (upd G6 l3 (.lst [])) l4 (.lst [])) q (.dK (kvs3 (.ref D1) (.ref l3) (.ref l4)))) l4 = some (.lst []) := (upd_ne l4q).trans upd_same
    have D1q : D1 ≠ q := fun z => by rw [z, s6 _ _ upd_same] at gD1; cases gD1
    have hD1 := f11 D1q gD1
    have pa11 : Paired (EntAt K (upd (upd (upd G6 l3 (.lst [])) l4 (.lst [])) q (.dK (kvs3 (.ref D1) (.ref l3) (.ref l4))))) acc1 fs1 := pa1.mono fun v c h => (h.same (s9.trans s10)).dict gq10
    have hq11 : (upd (upd (upd G6 l3 (.lst [])) l4 (.lst [])) q (.dK (kvs3 (.ref D1) (.ref l3) (.ref l4)))) q = some (.dK (kvs3 (.ref D1) (.ref l3) (.ref l4))) := upd_same
    generalize upd (upd (upd G6 l3 (.lst [])) l4 (.lst [])) q (.dK (kvs3 (.ref D1) (.ref l3) (.ref l4))) = G11 at *
    refine into_name ?_
    dsimp only
    refine into_dput (comp_pot (c := 1) (es := ps) (R := StrV) (R' := fun H' => EntAt K H') (P := fun x e => e.1 = x ∧ e.2 ∈ sizes7) b11 t11 (by omega) (fun R r => ⟨_, rfl, r⟩) (SqL.of (s11 _ _ gA4)) (strs_pair ps) (by rw [List.length_map]; omega) (fun s _ _ h => h.same s) (fun _ hD _ _ h => h.list hD)
      (fun x e Gi Hi m Z r he si bi ti hm hz => ?_) (fun G12 H12 D2 acc2 fs2 gD20 s12 b12 t12 gD2 pa2 pf2 => ?_))
    · obtain rfl : x = .str e := r
      refine ⟨rfl, _, rfl, _, rfl, into_args1 (lst_frs (K := K) sizes7 bi ti (by decide) fun l vs G7 H7 s7 b7 t7 gl pr => ⟨p, l, G7, m, vs, rfl, b7, t7, hm, SqL.of gl, by rw [pr.length]; decide, by rw [pr.length]; decide, fun j v G8 H8 hv s8 b8 t8 => ⟨by show 2 ≤ sizeLine; decide, fun t2 nt2 => ?_⟩⟩)⟩
      obtain ⟨f, hf, hv2⟩ := Paired.at pr hv
      obtain ⟨b9', s9', g9'⟩ := b8.new (o := .tup [.str e, v]) t8.some nt2
      exact hz _ (e, f) _ _ (s7.trans (s8.trans s9')) b9' (t8.new nt2) ⟨t2, _, rfl, SqT.of upd_same, hv2.same (s8.trans s9')⟩ ⟨rfl, List.mem_of_getElem? hf⟩
    refine ⟨_, rfl, q, _, rfl, dput_p (b12.sub _ _ (s12 _ _ hq11)), ?_⟩
    have b13 := b12.both (o := .dK (kvs3 (.ref D1) (.ref D2) (.ref l4))) npq
    have t13 := t12.past (o := .dK (kvs3 (.ref D1) (.ref D2) (.ref l4))) npq
    have gq12 := s12 _ _ hq11
    have s13 : Same G4 (upd G12 q (.dK (kvs3 (.ref D1) (.ref D2) (.ref l4)))) := same_but (s11.trans s12) gq4
    have hl13 : (upd G12 q (.dK (kvs3 (.ref D1) (.ref D2) (.ref l4)))) l4 = some (.lst []) := (upd_ne l4q).trans (s12 _ _ hl4)
    have D2q : D2 ≠ q := fun z => by rw [z, hq11] at gD20; cases gD20
    have h13D1 : (upd G12 q (.dK (kvs3 (.ref D1) (.ref D2) (.ref l4)))) D1 = some (.lst acc1) := (upd_ne D1q).trans (s12 _ _ hD1)
    have h13D2 : (upd G12 q (.dK (kvs3 (.ref D1) (.ref D2) (.ref l4)))) D2 = some (.lst acc2) := (upd_ne D2q).trans gD2
    have h13q : (upd G12 q (.dK (kvs3 (.ref D1) (.ref D2) (.ref l4)))) q = some (.dK (kvs3 (.ref D1) (.ref D2) (.ref l4))) := upd_same
    have pa13 : Paired (EntAt K (upd G12 q (.dK (kvs3 (.ref D1) (.ref D2) (.ref l4))))) acc1 fs1 := pa11.mono fun v c h => (h.same s12).dict gq12
    have pb13 : Paired (EntAt K (upd G12 q (.dK (kvs3 (.ref D1) (.ref D2) (.ref l4))))) acc2 fs2 := pa2.mono fun v c h => h.dict gq12
    generalize upd G12 q (.dK (kvs3 (.ref D1) (.ref D2) (.ref l4))) = G13 at *
    have D1l4 : D1 ≠ l4 := fun z => by
      have h1 := b9.sub _ _ (s9 _ _ gD1)
      rw [z, n4] at h1
      cases h1
    have D2l4 : D2 ≠ l4 := fun z => by rw [z, hl4] at gD20; cases gD20
    refine ⟨_, rfl, by show 7 ≤ sizeLine; decide, fun l5 n5 => ⟨_, rfl, ?_⟩⟩
    obtain ⟨b14, s14, g14⟩ := b13.new (o := .lst (pool3.map V.str)) t13.some n5
    refine ⟨p, l5, _, _, b, pool3.map V.str, rfl, b14, t13.new n5, by omega, SqL.of upd_same, by show b ≤ 7; omega, by show 7 < 1000000; decide, fun ys3 rs3 J1 G15 H15 pm3 ly3 s15 b15 t15 gJ gJ0 => ?_⟩
    obtain ⟨js, rfl, nd3, nm3⟩ := some_names pool3_ok pm3
    rw [List.length_map] at ly3
    have z15 := s14.trans s15
    have l4n : ∀ {x : Addr} {o : HO}, G15 x = some o → x ≠ l4 → (hide l4 G15) x = some o := fun h n => (hide_ne n).trans h
    have npl4 : p ≠ l4 := fun z => t9.some (z ▸ n4)
    have J1l4 : J1 ≠ l4 := fun z => by rw [z, s14 _ _ hl13] at gJ0; cases gJ0
    have sG : Same G4 (hide l4 G15) := fun x o h => l4n (z15 _ _ (s13 _ _ h)) fun z => by
      have h1 := b9.sub _ _ (s9 _ _ (s6 _ _ (s5 _ _ h)))
      rw [z, n4] at h1
      cases h1
    have pa15 : Paired (EntAt K (hide l4 G15)) acc1 fs1 := pa13.mono fun v c h => by
      obtain ⟨t, u, rfl, h1, t', rfl, h2⟩ := h.same z15
      exact ⟨t, _, rfl, SqT.hide (z15 _ _ hl13) h1, t', rfl, SqT.hide (z15 _ _ hl13) h2⟩
    have pb15 : Paired (EntAt K (hide l4 G15)) acc2 fs2 := pb13.mono fun v c h => by
      obtain ⟨t, u, rfl, h1, t', rfl, h2⟩ := h.same z15
      exact ⟨t, _, rfl, SqT.hide (z15 _ _ hl13) h1, t', rfl, SqT.hide (z15 _ _ hl13) h2⟩
    generalize hN : n + a + c + 2 * ss.length + 1 * ps.length + b = N at *
    refine ⟨J1, rfl, ⟨_, SqL.of (b15.sub _ _ gJ)⟩, for_list (xs := js.map V.str) (fun i σ H' => ∃ (v7 : Option V) (Gi : Hp) (vs : List V) (joins : List (Str × List (Str × Str × Str))),
      σ = [some (.ref p), some (.int a), some (.int b), some (.int c), some (.ref A1), some (.ref B1), some (.ref q), v7] ∧ Same (hide l4 G15) Gi ∧ Beside p Gi H' ∧ Gi l4 = none ∧ H' l4 = some (.lst vs) ∧
      PotAt p H' (N + 40 * i) ∧ Paired (JoiAt K Gi) vs joins ∧ joins.map (·.1) = js.take i ∧ ∀ j ∈ joins, JoiOk ps j ∧ JoiIn ps ss j)
      ⟨_, _, [], [], rfl, Same.refl _, b15.hide, hide_at, b15.sub _ _ (z15 _ _ hl13), by exact t15, .nil, rfl, fun _ h => nomatch h⟩ (fun i σ H' _ ⟨_, Gi, _, _, _, s, bi, _⟩ => SqL.of (bi.sub _ _ (s _ _ (l4n gJ J1l4)))) ?_ ?_⟩
    · rintro i x σ H' hx ⟨v7, Gi, vs, joins, rfl, si, bi, g4i, h4i, ti, pj, ej, oj⟩
      obtain ⟨y, hy, rfl⟩ : ∃ y, js[i]? = some y ∧ x = V.str y := by
        rw [List.getElem?_map] at hx
        cases e : js[i]? with
        | none => rw [e] at hx; cases hx
        | some y => rw [e] at hx; exact ⟨y, rfl, (Option.some.inj hx).symm⟩
      have hi : i < js.length := (List.getElem?_eq_some_iff.mp hy).1
      have ba := bi.add g4i npl4 h4i
      have sa : Same Gi (upd Gi l4 (.lst vs)) := same_upd g4i
      have qi := ba.sub _ _ (sa _ _ (si _ _ (l4n (z15 _ _ h13q) l4q.symm)))
      refine ⟨_, rfl, q, _, rfl, get_j qi, .inl ⟨rfl, _, SqL.of h4i⟩, _, rfl, _, rfl, _, rfl, _, rfl, ?_⟩
      refine ⟨p, A1, B1, _, N + 40 * i, ps, ss, rfl, ba, ti, by omega, sa _ _ (si _ _ (sG _ _ gA4)), sa _ _ (si _ _ (sG _ _ gB)), by omega, by omega, nd1, nm2, fun l ts ties G16 H16 s16 b16 t16 gl0 gl pt few once tok => ⟨by show 2 ≤ sizeLine; decide, fun t nt => ?_⟩⟩
      have g16 : G16 l4 = some (.lst vs) := s16 _ _ upd_same
      have h16 := b16.sub _ _ g16
      have ll4 : l ≠ l4 := fun z => by rw [z, upd_same] at gl0; cases gl0
      have tl4 : l4 ≠ t := ne_of_none h16 nt
      have bh : Beside p (hide l4 G16) H16 := b16.hide
      obtain ⟨b17, s17, g17⟩ := bh.new (o := .tup [.str y, .ref l]) t16.some nt
      have g17l : (upd (hide l4 G16) t (.tup [.str y, .ref l])) l4 = none := by rw [upd_ne tl4]; exact hide_at
      have lt : l ≠ t := ne_of_none (b16.sub _ _ gl) nt
      have sh : Same Gi (hide l4 G16) := same_hide (sa.trans s16) g4i
      refine ⟨l4, vs, _, rfl, rfl, (upd_ne tl4).trans h16, ?_, ?_⟩
      · have := pj.length
        have e2 := congrArg List.length ej
        rw [List.length_map, List.length_take] at e2
        show vs.length < 16777216
        omega
      refine ⟨_, _, vs ++ [.ref t], joins ++ [(y, ties)], rfl, si.trans (sh.trans s17), b17.drop g17l, g17l, upd_same, ?_, (pj.mono fun v c h => h.same (sh.trans s17)).snoc ⟨t, .ref l, rfl, SqT.of upd_same, l, ts, rfl, SqL.of ?_, ?_⟩, ?_, ?_⟩
      · have := (t16.new (o := .tup [.str y, .ref l]) nt).past (o := .lst (vs ++ [.ref t])) npl4
        exact this
      · rw [upd_ne lt, hide_ne ll4]
        exact gl
      · exact pt.mono fun v c h => (h.hide g16).same s17
      · rw [List.map_append, ej, take_snoc hy]
        rfl
      · intro j hj
        rcases List.mem_append.mp hj with hj | hj
        · exact oj j hj
        · rw [List.mem_singleton] at hj
          subst hj
          exact ⟨⟨nm3 y (List.mem_of_getElem? hy), by show ties.length ≤ 8; omega, once, fun t ht => ⟨(tok t ht).1, some_junc nm2 _ (tok t ht).2.1, some_junc nm2 _ (tok t ht).2.2⟩⟩, few, fun t ht => (tok t ht).2⟩
    · rintro σ H' ⟨v7, Gi, vs, joins, rfl, si, bi, g4i, h4i, ti, pj, ej, oj⟩
      rw [List.length_map] at ti ej
      rw [List.take_length] at ej
      have ba := bi.add g4i npl4 h4i
      have sa : Same Gi (upd Gi l4 (.lst vs)) := same_upd g4i
      have e1 : fs1.map (·.1) = ss := Paired.map_eq (γ := Nat) pf1 fun x y h => h.1
      have e2 : fs2.map (·.1) = ps := Paired.map_eq (γ := Nat) pf2 fun x y h => h.1
      have c1 : fs1.length = ss.length := pf1.length.symm
      have c2 : fs2.length = ps.length := pf2.length.symm
      have c3 : joins.length = js.length := by rw [← ej, List.length_map]
      refine ⟨_, rfl, k q l4 D1 D2 acc1 acc2 vs ⟨fs1, fs2, joins⟩ Gi H' (s1.trans (s2.trans (s3.trans (s4.trans (sG.trans si))))) bi (ti.more (by omega) hn) npl4 g4i h4i pj (si _ _ (l4n (z15 _ _ h13q) l4q.symm)) (si _ _ (l4n (z15 _ _ h13D1) D1l4)) (pa15.mono fun v c h => h.same si) (si _ _ (l4n (z15 _ _ h13D2) D2l4)) (pb15.mono fun v c h => h.same si) ?_ ?_ ?_ ?_ ?_⟩
      · refine ⟨by show fs1.length ≤ 4; omega, by show 1 ≤ fs2.length; omega, by show fs2.length ≤ 8; omega, by show 1 ≤ joins.length; omega, by show joins.length ≤ 6; omega, fun e he => ?_, fun e he => ?_, by show (fs1.map (·.1)).Nodup; rw [e1]; exact nd2, by show (fs2.map (·.1)).Nodup; rw [e2]; exact nd1, by show (joins.map (·.1)).Nodup; rw [ej]; exact nd3, fun j hj => ?_⟩
        · obtain ⟨x, hx, h1, h2⟩ := Paired.all pf1 e he
          exact ⟨h1 ▸ nm2 x hx, drawn_ok h2⟩
        · obtain ⟨x, hx, h1, h2⟩ := Paired.all pf2 e he
          exact ⟨h1 ▸ nm1 x hx, sizes7_ok _ h2⟩
        · show JoiOk (fs2.map (·.1)) j
          rw [e2]
          exact (oj j hj).1
      · refine ⟨fun e he => ?_, fun e he => ?_, fun j hj => ?_⟩
        · obtain ⟨x, hx, h1, h2⟩ := Paired.all pf2 e he
          exact h2
        · obtain ⟨x, hx, h1, h2⟩ := Paired.all pf1 e he
          exact h2
        · show JoiIn (fs2.map (·.1)) (fs1.map (·.1)) j
          rw [e1, e2]
          exact (oj j hj).2
      · show fs2.length = a
        omega
      · show joins.length = b
        omega
      · show fs1.length = c
        omega
theorem Keeps.as {k : Nat} {x : Str} {ps : List Str} {sp sp' : Sp} (G : Keeps P w K mg base k x ps sp) (h : ∀ vs H Q E, sp' vs H Q E → sp vs H Q E) : Keeps P w K mg base k x ps sp' := by
  obtain ⟨f, fd, g1, g2⟩ := G.ex
  exact ⟨f, fd, ⟨fun vs H Q E q => g1.len vs H Q E (h vs H Q E q), fun A outer s H args us vs Q E a b c d e => g1.run A outer s H args us vs Q E a b c d (h vs H Q E e)⟩, g2⟩
theorem k_circuit_drawn (G_drawnJ : Keeps P w K mg base 4 "_law_circuit_drawn" ["pot", "parts", "joinings", "sources"] (spDrawnJ K)) : Keeps P w K mg base 4 "_law_circuit_drawn" ["pot", "parts", "joinings", "sources"] (spDrawnN K) := by
  refine G_drawnJ.as fun vs H Q E h => ?_
  obtain ⟨p, G, n, a, b, c, e, bs, ht, hn, ha, ha2, hb, hb2, hc, k⟩ := h
  refine ⟨p, G, n, a, b, c, e, bs, ht, hn, ha, ha2, hb, hb2, hc, fun q l D1 D2 x1 x2 vs o G' H' s b' t npl g4 h4 pj hq h1 p1 h2 p2 ok dr la lb lc => ?_⟩
  have sa : Same G' (upd G' l (.lst vs)) := same_upd g4
  exact k (.ref q) o _ H' (s.trans sa) (b'.add g4 npl h4) t ⟨q, .ref D1, .ref D2, .ref l, rfl, sa _ _ hq, ⟨D1, x1, rfl, SqL.of (sa _ _ h1), p1.mono fun v c h => h.same sa⟩, ⟨D2, x2, rfl, SqL.of (sa _ _ h2), p2.mono fun v c h => h.same sa⟩, ⟨l, vs, rfl, SqL.of upd_same, pj.mono fun v c h => h.same sa⟩⟩ ok dr la lb lc
end
end Ct

/-! The free junctions are told in one way; sides that can be asked. -/
namespace Ct
open PySem PySem.Spec PyProof.Rows L2 TL RZ
def LeS (x y : Str) : Prop := ¬ y.cps.toList < x.cps.toList
end Ct

/-! A drawn circuit's joinings as nets; their sizes. -/
namespace Ct
open PySem PySem.Spec PyProof.Rows L2 TL RZ
section
variable {o : Own} {x : Str} {ties : Ties} (ok : OwnOk o) (dr : DrawnOk o) (hj : (x, ties) ∈ o.joinings)
include ok dr hj
end
section
variable {o : Own} {x : Str} {ties : Ties} {fl : List Str} (ok : OwnOk o) (dr : DrawnOk o) (hj : (x, ties) ∈ o.joinings) (fo : FreeOf o ties fl)
include ok dr hj fo
end
end Ct

/-! enumerate of a tuple. -/
namespace Ct
open PySem PySem.Spec PyProof.Rows L2 TL
def ItEnT (K : PySem.W.Frag) (a : Addr) : It where
  go := fun i H => ∃ xs x, SqT K H a xs ∧ xs[i]? = some x
  yld := fun i H v H' => ∃ T x, v = .ref T ∧ H T = none ∧ H' = upd H T (.tup [.int (i : Nat), x]) ∧ ∀ xs, SqT K H a xs → xs[i]? = some x
  stop := fun i H => ∃ xs, SqT K H a xs ∧ xs.length ≤ i
def iEnT (K : PySem.W.Frag) (ta : TA) : TI := fun σ H R => ta σ H fun vs H1 => ∃ a xs, vs = [.ref a] ∧ SqT K H1 a xs ∧ R (ItEnT K a) H1
end Ct

set_option pp.maxSteps 1500
/-! Scripts: run, behind, losses. -/
namespace Ct
open PySem PySem.Spec PyProof.Rows L2 TL RZ
structure Plain3 (mg : Str → Option Value) : Prop where
  c_LONGEST_SCRIPT : ∃ t, mg "LONGEST_SCRIPT" = some (.int 40 t)
def tiesOf (o : Own) (x : Str) : Ties := (o.joinings.lookup x).getD []
open Classical in
noncomputable def freeF (o : Own) (ties : Ties) : List Str := if h : ∃ fl, FreeOf o ties fl then h.choose else []
/-- one step, a script's steps, all standings -/
noncomputable def stepR (o : Own) (st : List Rat) (x : Str) : List Rat := joinL o (tiesOf o x) (freeF o (tiesOf o x)) st
noncomputable def lastR (o : Own) (js : List Str) (st : List Rat) : List Rat := js.foldl (stepR o) st
noncomputable def runR (o : Own) (js : List Str) (st : List Rat) : List (List Rat) := (List.range (js.length + 1)).map fun m => lastR o (js.take m) st
/-- what a script comes across -/
def RunOk (o : Own) (js : List Str) (st : List Rat) : Prop := ∀ i x, js[i]? = some x → ∀ fl, FreeOf o (tiesOf o x) fl → JoinOk o (tiesOf o x) fl (lastR o (js.take i) st)
def StandsAt (K : PySem.W.Frag) (H : Hp) (v : V) (rs : List (List Rat)) : Prop := ∃ a xs, v = .ref a ∧ SqT K H a xs ∧ Paired (RatsAt K H) xs rs
def spCheckScr (K : PySem.W.Frag) (C : Addr) : Sp := fun vs H Q _ => ∃ (v : V) (s : Addr) (o : Own) (js : List Str), vs = [v, .ref s] ∧ CircN K C H v o ∧ OwnOk o ∧ SqT K H s (js.map V.str) ∧ js.length ≤ 40 ∧ (∀ x ∈ js, x ∈ o.joinings.map (·.1)) ∧ ∀ H', Same H H' → Q .non H'
def spRun (K : PySem.W.Frag) (C : Addr) : Sp := fun vs H Q _ => ∃ (v y : V) (s : Addr) (o : Own) (js : List Str) (st : List Rat), vs = [v, .ref s, y] ∧ CircN K C H v o ∧ OwnOk o ∧ SqT K H s (js.map V.str) ∧ js.length ≤ 40 ∧ (∀ x ∈ js, x ∈ o.joinings.map (·.1)) ∧ RatsAt K H y st ∧ st.length = o.parts.length ∧ RunOk o js st ∧
  ∀ v' H', Same H H' → StandsAt K H' v' (runR o js st) → Q v' H'
def spBehind (K : PySem.W.Frag) (C : Addr) : Sp := fun vs H Q _ => ∃ (v y : V) (s : Addr) (o : Own) (js : List Str) (st : List Rat), vs = [v, .ref s, y] ∧ CircN K C H v o ∧ OwnOk o ∧ SqT K H s (js.map V.str) ∧ js.length ≤ 40 ∧ (∀ x ∈ js, x ∈ o.joinings.map (·.1)) ∧ RatsAt K H y st ∧ st.length = o.parts.length ∧ RunOk o js st ∧
  ∀ v' H', Same H H' → RatsAt K H' v' (lastR o js st) → Q v' H'
section
variable {P : Program} {w : World} {K : PySem.W.Frag} {mg : Str → Option Value} {base : Heap} {C : Addr}
end
end Ct

/-! What a script loses. -/
namespace Ct
open PySem PySem.Spec PyProof.Rows L2 TL RZ
theorem into_par {i j : Nat} {ta : TA} {D : Ends} {σ : L2.St} {H : Hp} (h : ta σ H fun vs H1 => ∃ v w, vs = [v, w] ∧ D.nx ((σ.set i (some v)).set j (some w)) H1) : tPar i j ta D σ H := h
theorem into_cons {te : TE} {t : TA} {σ : L2.St} {H : Hp} {Q : List V → Hp → Prop} (h : te σ H fun x H1 => t σ H1 fun xs H2 => Q (x :: xs) H2) : tCons te t σ H Q := h
section
variable {K : PySem.W.Frag}
end
def sqsL (o : Own) (xs ys : List (List Rat)) : List Rat := List.zipWith (fun x y => sqR o (diffL x y)) xs ys
def PairOk (o : Own) (x y : List Rat) : Prop := x.length = o.parts.length ∧ y.length = o.parts.length ∧ Fits4 x ∧ Fits4 y ∧ SqOk o (diffL x y)
def spSqs (K : PySem.W.Frag) (C : Addr) : Sp := fun vs H Q _ => ∃ (v u t : V) (o : Own) (xs ys : List (List Rat)), vs = [v, u, t] ∧ CircN K C H v o ∧ OwnOk o ∧ StandsAt K H u xs ∧ StandsAt K H t ys ∧ ys.length ≤ xs.length ∧ ys.length < 1000000 ∧ (∀ (i : Nat) (x y : List Rat), xs[i]? = some x → ys[i]? = some y → PairOk o x y) ∧
  ∀ v' H', Same H H' → RatsAt K H' v' (sqsL o xs ys) → Q v' H'
def spLosses (K : PySem.W.Frag) (C : Addr) : Sp := fun vs H Q _ => ∃ (v y : V) (s : Addr) (o : Own) (js : List Str) (st : List Rat), vs = [v, .ref s, y] ∧ CircN K C H v o ∧ OwnOk o ∧ SqT K H s (js.map V.str) ∧ js.length ≤ 40 ∧ (∀ x ∈ js, x ∈ o.joinings.map (·.1)) ∧ RatsAt K H y st ∧ st.length = o.parts.length ∧ RunOk o js st ∧
  (∀ i, i < js.length → PairOk o (lastR o (js.take i) st) (lastR o (js.take (i + 1)) st)) ∧ ∀ v' H', Same H H' → RatsAt K H' v' (sqsL o (runR o js st) ((runR o js st).drop 1)) → Q v' H'
section
variable {P : Program} {w : World} {K : PySem.W.Frag} {mg : Str → Option Value} {base : Heap} {C : Addr}
end
end Ct

/-! Nine joinings of a drawn circuit stay short. -/
namespace Ct
open PySem PySem.Spec PyProof.Rows L2 TL RZ
def cU : Nat := 8 * (120 * 28800 * 1658880000)
def cP : Nat := (upX 120 3) ^ 3
def cW : Nat := 2 + 480 * cU
/-- the state behind i joinings -/
def StAt (o : Own) (i : Nat) (st : List Rat) : Prop := st.length = o.parts.length ∧ ∃ k, 1 ≤ k ∧ k ≤ 6 * cP ^ i ∧ ∀ r ∈ st, Wn (30 * k) (690 * cW ^ i * k) r
/-- two standings by one denominator -/
def BothAt (o : Own) (i : Nat) (a b : List Rat) : Prop := ∃ k, 1 ≤ k ∧ k ≤ 6 * cP ^ (i + 1) ∧ (∀ r ∈ a, Wn (30 * k) (690 * cW ^ (i + 1) * k) r) ∧ ∀ r ∈ b, Wn (30 * k) (690 * cW ^ (i + 1) * k) r
section
variable {o : Own} {x : Str} {ties : Ties} {fl : List Str} (ok : OwnOk o) (dr : DrawnOk o) (four : o.parts.length ≤ 4) (hj : (x, ties) ∈ o.joinings) (fo : FreeOf o ties fl)
include ok dr four hj fo
end
section
variable {o : Own} (ok : OwnOk o) (dr : DrawnOk o) (four : o.parts.length ≤ 4) {js : List Str} {st : List Rat} (hx : ∀ x ∈ js, x ∈ o.joinings.map (·.1)) (eight : js.length ≤ 9) (h0 : StAt o 0 st)
include ok dr four hx eight h0
end
end Ct

namespace Ct
open PySem PySem.Spec PyProof.Rows L2 TL
def Own.ground (o : Own) : Own := { o with sources := o.sources.map fun e => (e.1, 0, 1) }
def setFr (x : Str) (f : Int × Int) (l : List (Str × Int × Int)) : List (Str × Int × Int) := l.map fun e => (e.1, if e.1 = x then f else e.2)
def Own.setPart (o : Own) (x : Str) (f : Int × Int) : Own := { o with parts := setFr x f o.parts }
def Own.setSource (o : Own) (x : Str) (f : Int × Int) : Own := { o with sources := setFr x f o.sources }
def spGround (K : PySem.W.Frag) : Sp := fun vs H Q _ => ∃ (v : V) (o : Own), vs = [v] ∧ OwnAt K H v o ∧ OwnOk o ∧ ∀ v' H', Same H H' → OwnAt K H' v' o.ground → Q v' H'
def spWith (K : PySem.W.Frag) : Sp := fun vs H Q _ => ∃ (v num : V) (x : Str) (o : Own) (f : Int × Int) (part : Bool), vs = [v, .str (if part then "parts" else "sources"), .str x, num] ∧ OwnAt K H v o ∧ OwnOk o ∧ FrAt K H num f ∧
  ∀ v' H', Same H H' → OwnAt K H' v' (if part then o.setPart x f else o.setSource x f) → Q v' H'
section
variable {P : Program} {w : World} {K : PySem.W.Frag} {mg : Str → Option Value} {base : Heap}
end
end Ct

/-! The law's own standings and scripts. -/
namespace Ct
open PySem PySem.Spec PyProof.Rows L2 TL RZ
abbrev s_l_circuit_names : Stmt := top 58
abbrev N_l_circuit_names : List Str := ["own", "kind", "row"]
theorem sc_l_circuit_names : FnScope N_l_circuit_names ["own", "kind"] (defScope s_l_circuit_names) := ⟨rfl, rfl, rfl, by decide +kernel, rfl, by decide +kernel, by decide +kernel⟩
def spNamesO (K : PySem.W.Frag) : Sp := fun vs H Q _ => ∃ (v : V) (o : Own) (b : Bool), vs = [v, .str (if b then "parts" else "joinings")] ∧ OwnAt K H v o ∧ OwnOk o ∧
  ∀ l H', Same H H' → H l = none → H' l = some (.lst ((if b then o.parts.map (·.1) else o.joinings.map (·.1)).map V.str)) → Q (.ref l) H'
def spStanding (K : PySem.W.Frag) : Sp := fun vs H Q _ => ∃ (p : Addr) (v : V) (G : Hp) (n : Nat) (o : Own), vs = [.ref p, v] ∧ Beside p G H ∧ PotAt p H n ∧ n + 20 ≤ 1000000 ∧ OwnAt K G v o ∧ OwnOk o ∧
  ∀ (v' : V) (st : List Rat) (G' H' : Hp), Same G G' → Beside p G' H' → PotAt p H' (n + 20) → RatsAt K G' v' st → st.length = o.parts.length → (∀ r ∈ st, Wn 30 150 r) → Q v' H'
def spScript (K : PySem.W.Frag) : Sp := fun vs H Q _ => ∃ (p : Addr) (v : V) (G : Hp) (n m : Nat) (o : Own), vs = [.ref p, v, .int m] ∧ Beside p G H ∧ PotAt p H n ∧ n + 20 ≤ 1000000 ∧ m ≤ 20 ∧ OwnAt K G v o ∧ OwnOk o ∧
  ∀ (s : Addr) (js : List Str) (G' H' : Hp), Same G G' → Beside p G' H' → PotAt p H' (n + 20) → SqT K G' s (js.map V.str) → js.length = m → (∀ x ∈ js, x ∈ o.joinings.map (·.1)) → Q (.ref s) H'
theorem beside_hide (p : Addr) (H : Hp) : Beside p (hide p H) H := ⟨hide_at, hide_same⟩
theorem PotAt.same' {p : Addr} {H H' : Hp} {n : Nat} (s : Same H H') (h : PotAt p H n) : PotAt p H' n := by
  obtain ⟨x, y, z, e, r⟩ := h
  exact ⟨x, y, z, s _ _ e, r⟩
theorem comp_list {K : PySem.W.Frag} {tl : TE} {g : TG} {tt : TT} {te : TE} {vs : List Nat} {σ : L2.St} {H : Hp} {Q : VK} (h : tl σ H fun x H1 => tLc (iList K fun _ _ R => R x H1) g tt te vs σ H1 Q) : tLc (iList K tl) g tt te vs σ H Q := h
section
variable {P : Program} {w : World} {K : PySem.W.Frag} {mg : Str → Option Value} {base : Heap}
theorem k_names_o (D : Lies K mg "_law_circuit_names" s_l_circuit_names) (T : Plain mg) : Keeps P w K mg base 1 "_law_circuit_names" ["own", "kind"] (spNamesO K) := by
  refine D.keeps sc_l_circuit_names (fun _ _ _ _ _ _ us hl => bindsL2 (fun _ _ => rfl) us hl) (fun vs H Q E h => ?_) (fun f cdv A outer s H vs Q E hr h => ?_)
  · obtain ⟨v, o, b, rfl, _⟩ := h
    rfl
  · obtain ⟨v, o, b, rfl, ho, ok, k⟩ := h
    obtain ⟨dd, vS, vP, vJ, rfl, hd, _, ⟨aP, xP, rfl, hP, pP⟩, ⟨aJ, xJ, rfl, hJ, pJ⟩⟩ := id ho
    refine ⟨_, (pss_one (ps_ret (pe_lc (own := [("row", 2)]) (g := gName 2) (tt := tYes) rfl sc_l_circuit_names.nd (pi_list (pe_dget (hu_of hr) (pv 0) (pv 1) (fun _ _ => rfl))) (blkOk_by (N := N_l_circuit_names) (sc := defScope s_l_circuit_names) (by decide +kernel)) (fun _ _ _ _ _ => pg_name (i := 2) sc_l_circuit_names.nd rfl (Or.inl rfl)) (fun _ _ _ _ _ => pts_nil) (fun _ _ _ _ _ => by exact (pe_ix (ix_tupK (K := K) rfl) (pv 2) pe_int (fun _ _ => rfl)))))), ?_⟩
    cases b with
    | true =>
      refine into_ret (comp_pure (f := fun x : Str => x) (R := HeadAt K H) (R' := fun _ => StrV) (fun R r => ⟨_, rfl, _, rfl, dd, _, rfl, get_p hd, r⟩) hP (heads pP fun v e ⟨t, u, e1, h1, _⟩ => ⟨t, _, e1, h1⟩) (by rw [pP.length]; have := ok.p_few; omega) (fun _ _ _ h => h) (fun _ _ _ _ h => h) (fun x e H0 W re he s0 hz => ?_) (fun H' D' acc nD s' hD hp => ?_))
      · obtain ⟨t, r, rfl, ht⟩ := re
        exact ⟨rfl, _, rfl, t, _, 0, _, rfl, rfl, SqT.same s0 ht, atI_nat (j := 0) rfl, hz _ _ (Same.refl _) rfl⟩
      · rw [List.map_id'] at hp
        have e := strs_are hp
        subst e
        exact k D' H' s' nD hD
    | false =>
      refine into_ret (comp_pure (f := fun x : Str => x) (R := HeadAt K H) (R' := fun _ => StrV) (fun R r => ⟨_, rfl, _, rfl, dd, _, rfl, get_j hd, r⟩) hJ (heads pJ fun v e ⟨t, u, e1, h1, _⟩ => ⟨t, _, e1, h1⟩) (by rw [pJ.length]; have := ok.j_few; omega) (fun _ _ _ h => h) (fun _ _ _ _ h => h) (fun x e H0 W re he s0 hz => ?_) (fun H' D' acc nD s' hD hp => ?_))
      · obtain ⟨t, r, rfl, ht⟩ := re
        exact ⟨rfl, _, rfl, t, _, 0, _, rfl, rfl, SqT.same s0 ht, atI_nat (j := 0) rfl, hz _ _ (Same.refl _) rfl⟩
      · rw [List.map_id'] at hp
        have e := strs_are hp
        subst e
        exact k D' H' s' nD hD
end
end Ct

/-! The law's own scene; a script with each name twice; standings added. -/
namespace Ct
open PySem PySem.Spec PyProof.Rows L2 TL RZ
def spScene (K : PySem.W.Frag) : Sp := fun vs H Q _ => ∃ (p : Addr) (G : Hp) (n : Nat), vs = [.ref p] ∧ Beside p G H ∧ PotAt p H n ∧ n + 500 ≤ 1000000 ∧
  ∀ (t s : Addr) (v y : V) (o : Own) (js : List Str) (st : List Rat) (G' H' : Hp), Same G G' → Beside p G' H' → PotAt p H' (n + 500) → SqT K G' t [v, .ref s, y] → OwnAt K G' v o → OwnOk o → DrawnOk o → o.parts.length ≤ 4 →
    SqT K G' s (js.map V.str) → js.length ≤ 8 → (∀ x ∈ js, x ∈ o.joinings.map (·.1)) → RatsAt K G' y st → st.length = o.parts.length → (∀ r ∈ st, Wn 30 150 r) → Q (.ref t) H'
def twiceL (js : List Str) : List Str := js.flatMap fun x => [x, x]
def spDoubled (K : PySem.W.Frag) : Sp := fun vs H Q _ => ∃ (s : Addr) (js : List Str), vs = [.ref s] ∧ SqT K H s (js.map V.str) ∧ js.length ≤ 40 ∧ ∀ q H', Same H H' → SqT K H' q ((twiceL js).map V.str) → Q (.ref q) H'
def intsL (l : List Int) : List V := l.map V.int
theorem intsL_at {l : List Int} {i : Nat} {v : V} (h : (intsL l)[i]? = some v) : ∃ j ∈ l, v = .int j := by
  unfold intsL at h
  rw [List.getElem?_map] at h
  cases e : l[i]? with
  | none => rw [e] at h; cases h
  | some x => rw [e] at h; exact ⟨x, List.mem_of_getElem? e, (Option.some.inj h).symm⟩
theorem of_new {K : PySem.W.Frag} {p : Addr} {G H : Hp} {n : Nat} {Q : VK} (l : List Int) (bs : Beside p G H) (ht : PotAt p H n) (hn : n + 1 ≤ 1000000) (l0 : 0 < l.length) (l1 : l.length < 1000000)
    (k : ∀ j ∈ l, ∀ G' H', Same G G' → Beside p G' H' → PotAt p H' (n + 1) → Q (.int j) H') : (intsL l).length ≤ sizeLine ∧ ∀ a, H a = none → spOf K [.ref p, .ref a] (upd H a (.lst (intsL l))) Q E0 := by
  have e : (intsL l).length = l.length := List.length_map ..
  refine ⟨by rw [e]; show l.length ≤ 16777216; omega, fun a na => ?_⟩
  obtain ⟨b1, s1, g1⟩ := bs.new (o := .lst (intsL l)) ht.some na
  refine ⟨p, a, _, n, intsL l, rfl, b1, ht.new na, hn, SqL.of upd_same, by omega, by omega, fun i v G' H' hv s' b' t' => ?_⟩
  obtain ⟨j, hj, rfl⟩ := intsL_at hv
  exact k j hj G' H' (s1.trans s') b' t'
section
variable {P : Program} {w : World} {K : PySem.W.Frag} {mg : Str → Option Value} {base : Heap}
end
end Ct

/-! Standings of the law's own, taken and added. -/
namespace Ct
open PySem PySem.Spec PyProof.Rows L2 TL RZ
/-- one standing, so many times another added -/
def addL (a b : List Rat) (k : Rat) : List Rat := List.zipWith (fun x y => x + k * y) a b
def spLMore (K : PySem.W.Frag) : Sp := fun vs H Q _ => ∃ (u v t : V) (a b : List Rat) (k : Rat), vs = [u, v, t] ∧ RatsAt K H u a ∧ RatsAt K H v b ∧ RatAt K H t k ∧ a.length = b.length ∧ a.length ≤ 100 ∧ Fits4 a ∧ Fits4 b ∧ FitR 4400 k ∧ (∀ y ∈ b, FitR 4400 (k * y)) ∧ ∀ v' H', Same H H' → RatsAt K H' v' (addL a b k) → Q v' H'
section
variable {P : Program} {w : World} {K : PySem.W.Frag} {mg : Str → Option Value} {base : Heap}
end
end Ct

/-! The law's own equality: a recursion over what is told. -/
namespace Ct
open PySem PySem.Spec PyProof.Rows L2 TL RZ
/-- tuples of whole numbers, so deep -/
def IntsD : Nat → PyData → Prop
  | 0, x => ∃ i, x = .int i
  | d + 1, x => ∃ xs, x = .tuple xs ∧ xs.length < 1000000 ∧ ∀ y ∈ xs, IntsD d y
def spIs (K : PySem.W.Frag) (d : Nat) : Sp := fun vs H Q _ => ∃ (v u : V) (x : PyData), vs = [v, u] ∧ Dp K H v x ∧ Dp K H u x ∧ IntsD d x ∧ ∀ H', Same H H' → Q (.bl true) H'
section
variable {P : Program} {w : World} {K : PySem.W.Frag} {mg : Str → Option Value} {base : Heap}
end
end Ct

/-! Scripts one behind the other, each name twice, starts in a straight line. -/
namespace Ct
open PySem PySem.Spec PyProof.Rows L2 TL RZ
section
variable {o : Own} (ok : OwnOk o) (dr : DrawnOk o)
include ok dr
end
end Ct

/-! t[b::2] of a tuple, b 0 or 1. -/
namespace Ct
open PySem PySem.Spec PyProof.Rows L2 TL
def evL {α : Type} : List α → List α
  | [] => []
  | [x] => [x]
  | x :: _ :: r => x :: evL r
/-- t[lo::2] -/
def tTwo (K : PySem.W.Frag) (te : TE) (tl : TO) : TE := fun σ H Q => te σ H fun x H1 => tl σ H1 fun lo H2 => ∃ a xs, x = .ref a ∧ SqT K H2 a xs ∧ ∀ p, H2 p = none → Q (.ref p) (upd H2 p (.tup (evL (xs.drop (HT.sIx xs.length 0 lo)))))
end Ct

/-! A script in two parts; each second standing of a doubled one; straight lines. -/
namespace Ct
open PySem PySem.Spec PyProof.Rows L2 TL RZ
/-- each two neighbours -/
def adjL {α β : Type} (f : α → α → β) (l : List α) : List β := List.zipWith f l (l.drop 1)
section
variable {o : Own} {js : List Str} {st : List Rat} {n : Nat}
def PairsOk (o : Own) (js : List Str) (st : List Rat) : Prop := ∀ i, i < js.length → PairOk o (lastR o (js.take i) st) (lastR o (js.take (i + 1)) st)
end
section
variable {o : Own} (ok : OwnOk o) (dr : DrawnOk o) {js : List Str} {st : List Rat} (hx : ∀ x ∈ js, x ∈ o.joinings.map (·.1)) (len : st.length = o.parts.length)
include ok dr hx len
end
end Ct

/-! What is taken between two standings stays short. -/
namespace Ct
open PySem PySem.Spec PyProof.Rows L2 TL RZ
end Ct

/-! Scripts turned about, sources at 0; sums of two states stay short. -/
namespace Ct
open PySem PySem.Spec PyProof.Rows L2 TL RZ
section
variable {o : Own} (ok : OwnOk o) (dr : DrawnOk o) (f : Flat o)
include ok dr f
end
/-! ### how great such sums are -/
/-! ### a drawn circuit, its sources at 0 -/
end Ct

namespace Ct
open PySem PySem.Spec PyProof.Rows L2 TL RZ
abbrev s_with_lines : Stmt := top 35
abbrev N_with_lines : List Str := ["circuit", "place", "new", "lines"]
theorem sc_with_lines : FnScope N_with_lines ["circuit", "place", "new"] (defScope s_with_lines) := ⟨rfl, rfl, rfl, by decide +kernel, rfl, by decide +kernel, by decide +kernel⟩
abbrev s_check_part : Stmt := top 26
abbrev N_check_part : List Str := ["circuit", "value"]
theorem sc_check_part : FnScope N_check_part ["circuit", "value"] (defScope s_check_part) := ⟨rfl, rfl, rfl, by decide +kernel, rfl, by decide +kernel, by decide +kernel⟩
abbrev s_check_source : Stmt := top 27
abbrev N_check_source : List Str := ["circuit", "value"]
theorem sc_check_source : FnScope N_check_source ["circuit", "value"] (defScope s_check_source) := ⟨rfl, rfl, rfl, by decide +kernel, rfl, by decide +kernel, by decide +kernel⟩
def spWithLines (K : PySem.W.Frag) (C : Addr) : Sp := fun vs H Q _ => ∃ (v : V) (o o' : Own) (n : Nat) (b : Addr) (news : List Str), vs = [v, .int n, .ref b] ∧ CircN K C H v o ∧ OwnOk o ∧ OwnOk o' ∧ H b = some (.lst (txts news)) ∧
  n ≤ (rowsOf o).length ∧ news.length ≤ 100 ∧ (rowsOf o).take n ++ news ++ (rowsOf o).drop (n + news.length) = rowsOf o' ∧ ∀ v' H', Same H H' → CircN K C H' v' o' → Q v' H'
def spCheckPart (K : PySem.W.Frag) (C : Addr) : Sp := fun vs H Q _ => ∃ (v : V) (o : Own) (x : Str), vs = [v, .str x] ∧ CircN K C H v o ∧ OwnOk o ∧ x ∈ o.parts.map (·.1) ∧ ∀ H', Same H H' → Q .non H'
def spCheckSource (K : PySem.W.Frag) (C : Addr) : Sp := fun vs H Q _ => ∃ (v : V) (o : Own) (x : Str), vs = [v, .str x] ∧ CircN K C H v o ∧ OwnOk o ∧ x ∈ o.sources.map (·.1) ∧ ∀ H', Same H H' → Q .non H'
/-- numbers of few digits -/
def Few18 (f : Int × Int) : Prop := f.1.natAbs < 10 ^ 18 ∧ f.2.natAbs < 10 ^ 18
def spWithSize (K : PySem.W.Frag) (C : Addr) : Sp := fun vs H Q _ => ∃ (v u : V) (o : Own) (x : Str) (f : Int × Int), vs = [v, .str x, u] ∧ CircN K C H v o ∧ OwnOk o ∧ x ∈ o.parts.map (·.1) ∧ FrAt K H u f ∧ FrOk f ∧ Few18 f ∧ 0 < f.1 ∧
  ∀ v' H', Same H H' → CircN K C H' v' (o.setPart x f) → Q v' H'
def spWithSource (K : PySem.W.Frag) (C : Addr) : Sp := fun vs H Q _ => ∃ (v u : V) (o : Own) (x : Str) (f : Int × Int), vs = [v, .str x, u] ∧ CircN K C H v o ∧ OwnOk o ∧ x ∈ o.sources.map (·.1) ∧ FrAt K H u f ∧ FrOk f ∧ Few18 f ∧
  ∀ v' H', Same H H' → CircN K C H' v' (o.setSource x f) → Q v' H'
def spGrounded (K : PySem.W.Frag) (C : Addr) : Sp := fun vs H Q _ => ∃ (v : V) (o : Own), vs = [v] ∧ CircN K C H v o ∧ OwnOk o ∧ ∀ v' H', Same H H' → CircN K C H' v' o.ground → Q v' H'
/-! ### the edits keep what the document asks -/
theorem set_names (x : Str) (f : Int × Int) (l : List (Str × Int × Int)) : (setFr x f l).map (·.1) = l.map (·.1) := by
  unfold setFr
  rw [List.map_map]
  rfl
theorem setPart_ok {o : Own} {x : Str} {f : Int × Int} (ok : OwnOk o) (hf : FrOk f) (h0 : 0 < f.1) : OwnOk (o.setPart x f) where
  s_few := ok.s_few
  p_some := by show 1 ≤ (setFr x f o.parts).length; unfold setFr; rw [List.length_map]; exact ok.p_some
  p_few := by show (setFr x f o.parts).length ≤ 8; unfold setFr; rw [List.length_map]; exact ok.p_few
  j_some := ok.j_some
  j_few := ok.j_few
  src := ok.src
  prt := fun e he => by
    obtain ⟨z, hz, rfl⟩ := List.mem_map.mp (show e ∈ o.parts.map _ from he)
    have q := ok.prt z hz
    refine ⟨q.1, ?_⟩
    show FrOk (if z.1 = x then f else z.2) ∧ 0 < (if z.1 = x then f else z.2).1
    split
    · exact ⟨hf, h0⟩
    · exact q.2
  s_once := ok.s_once
  p_once := by show ((setFr x f o.parts).map (·.1)).Nodup; rw [set_names]; exact ok.p_once
  j_once := ok.j_once
  joi := fun j hj => by show JoiOk ((setFr x f o.parts).map (·.1)) j; rw [set_names]; exact ok.joi j hj
theorem setSource_ok {o : Own} {x : Str} {f : Int × Int} (ok : OwnOk o) (hf : FrOk f) : OwnOk (o.setSource x f) where
  s_few := by show (setFr x f o.sources).length ≤ 4; unfold setFr; rw [List.length_map]; exact ok.s_few
  p_some := ok.p_some
  p_few := ok.p_few
  j_some := ok.j_some
  j_few := ok.j_few
  src := fun e he => by
    obtain ⟨z, hz, rfl⟩ := List.mem_map.mp (show e ∈ o.sources.map _ from he)
    have q := ok.src z hz
    refine ⟨q.1, ?_⟩
    show FrOk (if z.1 = x then f else z.2)
    split
    · exact hf
    · exact q.2
  prt := ok.prt
  s_once := by show ((setFr x f o.sources).map (·.1)).Nodup; rw [set_names]; exact ok.s_once
  p_once := ok.p_once
  j_once := ok.j_once
  joi := ok.joi
/-! ### one line exchanged -/
theorem name_at {l : List (Str × Int × Int)} {x : Str} (h : x ∈ l.map (·.1)) : ∃ (j : Nat) (e : Str × Int × Int), l[j]? = some e ∧ e.1 = x := by
  obtain ⟨e, he, rfl⟩ := List.mem_map.mp h
  obtain ⟨j, hj⟩ := List.getElem?_of_mem he
  exact ⟨j, e, hj, rfl⟩
theorem set_one {x : Str} {f : Int × Int} {β : Type} (g : Str × Int × Int → β) : ∀ {l : List (Str × Int × Int)} {j : Nat} {e : Str × Int × Int}, (l.map (·.1)).Nodup → l[j]? = some e → e.1 = x →
    (setFr x f l).map g = (l.map g).take j ++ g (x, f) :: (l.map g).drop (j + 1)
  | [], _, _, _, h, _ => by simp at h
  | z :: r, 0, e, nd, h, hx => by
    simp at h
    subst h
    have hr : setFr x f r = r := by
      unfold setFr
      refine List.map_congr_left (g := id) (fun y hy => ?_) |>.trans (List.map_id r)
      have hn : y.1 ≠ x := fun q => (List.nodup_cons.mp nd).1 (by
        show z.1 ∈ r.map (·.1)
        rw [hx, ← q]
        exact List.mem_map_of_mem hy)
      show (y.1, if y.1 = x then f else y.2) = y
      rw [if_neg hn]
    show g (z.1, if z.1 = x then f else z.2) :: (setFr x f r).map g = _
    rw [if_pos hx, hr, hx]
    rfl
  | z :: r, j + 1, e, nd, h, hx => by
    have hj : r[j]? = some e := by simpa using h
    have hn : z.1 ≠ x := fun q => (List.nodup_cons.mp nd).1 (by
      show z.1 ∈ r.map (·.1)
      rw [q, ← hx]
      exact List.mem_map_of_mem (List.mem_of_getElem? hj))
    show g (z.1, if z.1 = x then f else z.2) :: (setFr x f r).map g = _
    rw [if_neg hn, set_one g (List.nodup_cons.mp nd).2 hj hx]
    rfl
theorem mid_take {α : Type} (A B R : List α) (j : Nat) (hj : j < B.length) (y : α) : (A ++ (B ++ R)).take (A.length + j) ++ [y] ++ (A ++ (B ++ R)).drop (A.length + j + 1) = A ++ ((B.take j ++ y :: B.drop (j + 1)) ++ R) := by
  rw [List.take_append, List.take_of_length_le (by omega), show A.length + j - A.length = j by omega, List.take_append_of_le_length (by omega), show A.length + j + 1 = A.length + (j + 1) by omega, List.drop_append, List.drop_of_length_le (by omega), show A.length + (j + 1) - A.length = j + 1 by omega, List.drop_append_of_le_length (by omega)]
  simp
theorem rows_part {o : Own} {x : Str} {f : Int × Int} {j : Nat} {e : Str × Int × Int} (ok : OwnOk o) (h : o.parts[j]? = some e) (hx : e.1 = x) :
    (rowsOf o).take (1 + o.sources.length + j) ++ [entLine "part " (x, f)] ++ (rowsOf o).drop (1 + o.sources.length + j + 1) = rowsOf (o.setPart x f) := by
  have hj := (List.getElem?_eq_some_iff.mp h).1
  have q := mid_take (("circuit" : Str) :: o.sources.map (entLine "source ")) (o.parts.map (entLine "part ")) (o.joinings.flatMap joiRows) j (by rw [List.length_map]; exact hj) (entLine "part " (x, f))
  rw [← set_one (entLine "part ") ok.p_once h hx] at q
  have el : (("circuit" : Str) :: o.sources.map (entLine "source ")).length = 1 + o.sources.length := by rw [List.length_cons, List.length_map]; omega
  rw [el] at q
  have e1 : rowsOf o = (("circuit" : Str) :: o.sources.map (entLine "source ")) ++ (o.parts.map (entLine "part ") ++ o.joinings.flatMap joiRows) := by
    unfold rowsOf
    rw [List.append_assoc]
    rfl
  have e2 : rowsOf (o.setPart x f) = (("circuit" : Str) :: o.sources.map (entLine "source ")) ++ ((setFr x f o.parts).map (entLine "part ") ++ o.joinings.flatMap joiRows) := by
    unfold rowsOf
    rw [List.append_assoc]
    rfl
  rw [e1, e2]
  exact q
theorem rows_source {o : Own} {x : Str} {f : Int × Int} {j : Nat} {e : Str × Int × Int} (ok : OwnOk o) (h : o.sources[j]? = some e) (hx : e.1 = x) :
    (rowsOf o).take (1 + j) ++ [entLine "source " (x, f)] ++ (rowsOf o).drop (1 + j + 1) = rowsOf (o.setSource x f) := by
  have hj := (List.getElem?_eq_some_iff.mp h).1
  have q := mid_take [("circuit" : Str)] (o.sources.map (entLine "source ")) (o.parts.map (entLine "part ") ++ o.joinings.flatMap joiRows) j (by rw [List.length_map]; exact hj) (entLine "source " (x, f))
  rw [← set_one (entLine "source ") ok.s_once h hx] at q
  have e1 : rowsOf o = [("circuit" : Str)] ++ (o.sources.map (entLine "source ") ++ (o.parts.map (entLine "part ") ++ o.joinings.flatMap joiRows)) := by
    unfold rowsOf
    rw [List.append_assoc]
    rfl
  have e2 : rowsOf (o.setSource x f) = [("circuit" : Str)] ++ ((setFr x f o.sources).map (entLine "source ") ++ (o.parts.map (entLine "part ") ++ o.joinings.flatMap joiRows)) := by
    unfold rowsOf
    rw [List.append_assoc]
    rfl
  rw [e1, e2]
  exact q
section
variable {P : Program} {w : World} {K : PySem.W.Frag} {mg : Str → Option Value} {base : Heap} {C : Addr}
theorem cut_lo {xs : List Str} {n : Nat} (h : n ≤ xs.length) : cutV (txts xs) none (some (n : Int)) = txts (xs.take n) := by
  unfold cutV txts
  rw [HT.sIx_nat]
  show ((xs.map V.str).drop 0).take (min n (xs.map V.str).length - 0) = _
  rw [List.drop_zero, List.length_map, Nat.min_eq_left h, Nat.sub_zero, List.map_take]
theorem cut_hi {xs : List Str} {n : Nat} : cutV (txts xs) (some (n : Int)) none = txts (xs.drop n) := by
  unfold cutV txts
  rw [HT.sIx_nat]
  show ((xs.map V.str).drop (min n (xs.map V.str).length)).take ((xs.map V.str).length - min n (xs.map V.str).length) = _
  rw [List.take_of_length_le (by rw [List.length_drop]; omega), List.map_drop]
  by_cases h : n ≤ (xs.map V.str).length
  · rw [Nat.min_eq_left h]
  · rw [Nat.min_eq_right (by omega), List.drop_of_length_le (Nat.le_refl _), List.drop_of_length_le (by omega)]
theorem CircN.txt {H : Hp} {v : V} {o : Own} (h : CircN K C H v o) : ∃ c dx fs, v = .ref c ∧ H c = some (.ins C dx fs) ∧ fs.lookup ("text" : Str) = some (.str (textOf o)) := by
  obtain ⟨c, dx, fs, _, _, _, _, _, _, a, b, d, _⟩ := h
  exact ⟨c, dx, fs, a, b, d⟩
theorem k_with_lines (D : Lies K mg "_with_lines" s_with_lines) (T : Plain mg) (Z : ClassT K mg C) (G_Circuit : Makes P w K mg base 7 "Circuit" C ["self", "text"] (spInitN K C)) : Keeps P w K mg base 9 "_with_lines" ["circuit", "place", "new"] (spWithLines K C) := by
  refine D.keeps sc_with_lines (fun _ _ _ _ _ _ us hl => bindsL3 (fun _ _ _ => rfl) us hl) (fun vs H Q E h => ?_) (fun f cdv A outer s0 H vs Q E hr h => ?_)
  · obtain ⟨v, o, o', n, b, news, rfl, _⟩ := h
    rfl
  · obtain ⟨v, o, o', n, b, news, rfl, hc, ok, ok', hb, hn, hl, hrows, k⟩ := h
    obtain ⟨c, dx, fs, rfl, hc1, hc2⟩ := hc.txt
    have few := rows_few ok
    refine ⟨_, (pss_cons (ps_set (i := 3) sc_with_lines.nd rfl (Or.inl rfl) (pe_split (pe_fld (pv 0) rfl) pe_str))
      (pss_one (ps_ret (pe_new G_Circuit (hr.mono (by decide)) rfl (pa_cons (pe_joinK (K := K) rfl pe_str (pe_op op_cat (pe_op op_cat (pe_slice sl_list (pv 3) po_none (po_some (pv 1))) (pv 2)) (pe_slice sl_list (pv 3) (po_some (pe_op op_add (pv 1) (pe_callB call_len_seq (by rfl) T.n_len b_len (pa_cons (pv 2) pa_nil)))) po_none))) pa_nil))))), ?_⟩
    refine ⟨_, rfl, c, C, dx, fs, _, rfl, hc1, Z.cl, Z.nT, hc2, ⟨_, rfl⟩, _, _, rfl, rfl, by rw [nl_len]; rfl, text_len ok, fun q nq => ?_⟩
    rw [text_split ok]
    have s1 := same_upd (o := .lst ((rowsOf o).map V.str)) nq
    have q1 : (upd H q (.lst ((rowsOf o).map V.str))) q = some (.lst (txts (rowsOf o))) := upd_same
    generalize upd H q (.lst ((rowsOf o).map V.str)) = H1 at *
    refine ⟨⟨_, rfl⟩, _, rfl, _, rfl, _, rfl, q, _, rfl, SqL.of q1, fun l1 n1 => ?_⟩
    rw [cut_lo hn]
    have s2 := same_upd (o := .lst (txts ((rowsOf o).take n))) n1
    have q2 : (upd H1 l1 (.lst (txts ((rowsOf o).take n)))) l1 = some (.lst (txts ((rowsOf o).take n))) := upd_same
    generalize upd H1 l1 (.lst (txts ((rowsOf o).take n))) = H2 at *
    have b2 := s2 _ _ (s1 _ _ hb)
    refine ⟨_, rfl, l1, b, _, _, rfl, rfl, q2, b2, ?_, fun l2 n2 => ?_⟩
    · unfold txts
      rw [List.length_map, List.length_map, List.length_take]
      show _ ≤ 16777216
      omega
    have e3 : txts ((rowsOf o).take n) ++ txts news = txts ((rowsOf o).take n ++ news) := by
      unfold txts
      rw [List.map_append]
    rw [e3]
    have s3 := same_upd (o := .lst (txts ((rowsOf o).take n ++ news))) n2
    have q3 : (upd H2 l2 (.lst (txts ((rowsOf o).take n ++ news)))) l2 = some (.lst (txts ((rowsOf o).take n ++ news))) := upd_same
    generalize upd H2 l2 (.lst (txts ((rowsOf o).take n ++ news))) = H3 at *
    refine ⟨_, rfl, _, rfl, _, rfl, b, _, rfl, .inl (SqL.of (s3 _ _ b2)), _, _, rfl, rfl, _, rfl, q, _, rfl, SqL.of (s3 _ _ (s2 _ _ q1)), fun l3 n3 => ?_⟩
    have e4 : ((n : Int) + (((txts news).length : Nat) : Int)) = ((n + news.length : Nat) : Int) := by
      unfold txts
      rw [List.length_map]
      omega
    rw [e4, cut_hi]
    have s4 := same_upd (o := .lst (txts ((rowsOf o).drop (n + news.length)))) n3
    have q4 : (upd H3 l3 (.lst (txts ((rowsOf o).drop (n + news.length))))) l3 = some (.lst (txts ((rowsOf o).drop (n + news.length)))) := upd_same
    generalize upd H3 l3 (.lst (txts ((rowsOf o).drop (n + news.length)))) = H4 at *
    refine ⟨l2, l3, _, _, rfl, rfl, s4 _ _ q3, q4, ?_, fun l4 n4 => ?_⟩
    · unfold txts
      rw [List.length_map, List.length_map, List.length_append, List.length_take, List.length_drop]
      show _ ≤ 16777216
      omega
    have e5 : txts ((rowsOf o).take n ++ news) ++ txts ((rowsOf o).drop (n + news.length)) = txts (rowsOf o') := by
      unfold txts
      rw [← List.map_append, hrows]
    rw [e5]
    have s5 := same_upd (o := .lst (txts (rowsOf o'))) n4
    have sall := s1.trans (s2.trans (s3.trans (s4.trans s5)))
    refine ⟨_, l4, rowsOf o', rfl, rfl, .inl (SqL.of upd_same), rows_join ok', fun x dx2 nx ndx nxd => ?_⟩
    have s6 : Same (upd H4 l4 (.lst (txts (rowsOf o')))) (upd (upd (upd H4 l4 (.lst (txts (rowsOf o')))) dx2 (.own x)) x (.ins C dx2 [])) := fun a z e => by
      rw [upd_ne (ne_of_none e nx), upd_ne (ne_of_none e ndx)]
      exact e
    exact ⟨_, x, dx2, o', rfl, s6, nx, upd_same, ok', fun H' s' hc' => ⟨rfl, k _ H' (sall.trans s') hc'⟩⟩
theorem k_check_part (D : Lies K mg "check_part" s_check_part) (T : Plain mg) (Z : ClassT K mg C) (G_names_of : Keeps P w K mg base 1 "names_of" ["told"] (spNamesT K)) : Keeps P w K mg base 2 "check_part" ["circuit", "value"] (spCheckPart K C) := by
  refine D.keeps sc_check_part (fun _ _ _ _ _ _ us hl => bindsL2 (fun _ _ => rfl) us hl) (fun vs H Q E h => ?_) (fun f cdv A outer s0 H vs Q E hr h => ?_)
  · obtain ⟨v, o, x, rfl, _⟩ := h
    rfl
  · obtain ⟨v, o, x, rfl, hc, ok, hx, k⟩ := h
    obtain ⟨c, dx, fs, ts, us, rfl, hc1, hc2, hq, hp⟩ := hc.prt
    refine ⟨_, (pss_one (ps_if (pt_cmpR op_notIn_seq (pv 1) (pe_go G_names_of (hr.mono (by decide)) rfl (pa_cons (pe_fld (pv 0) rfl) pa_nil)) (by rfl))
        (pss_one (ps_never))
        pss_nil)), ?_⟩
    refine ⟨_, rfl, _, rfl, c, C, dx, fs, _, rfl, hc1, Z.cl, Z.nP, hc2, ts, us, o.parts.map (·.1), rfl, hq.sq, heads hp fun v c h => HeadAt.ent h, by rw [List.length_map]; have := ok.p_few; omega, fun l H1 s1 _ hl => ?_⟩
    refine ⟨l, _, rfl, .inl (SqL.of hl), rfl, strs_flat _, false, congrArg V.bl ?_, iteF (k H1 s1)⟩
    rw [if_pos rfl, in_strs, decide_eq_true hx]
    rfl
theorem k_check_source (D : Lies K mg "check_source" s_check_source) (T : Plain mg) (Z : ClassT K mg C) (G_names_of : Keeps P w K mg base 1 "names_of" ["told"] (spNamesT K)) : Keeps P w K mg base 2 "check_source" ["circuit", "value"] (spCheckSource K C) := by
  refine D.keeps sc_check_source (fun _ _ _ _ _ _ us hl => bindsL2 (fun _ _ => rfl) us hl) (fun vs H Q E h => ?_) (fun f cdv A outer s0 H vs Q E hr h => ?_)
  · obtain ⟨v, o, x, rfl, _⟩ := h
    rfl
  · obtain ⟨v, o, x, rfl, hc, ok, hx, k⟩ := h
    obtain ⟨c, dx, fs, ts, us, rfl, hc1, hc2, hq, hp⟩ := hc.src
    refine ⟨_, (pss_one (ps_if (pt_cmpR op_notIn_seq (pv 1) (pe_go G_names_of (hr.mono (by decide)) rfl (pa_cons (pe_fld (pv 0) rfl) pa_nil)) (by rfl))
        (pss_one (ps_never))
        pss_nil)), ?_⟩
    refine ⟨_, rfl, _, rfl, c, C, dx, fs, _, rfl, hc1, Z.cl, Z.nS, hc2, ts, us, o.sources.map (·.1), rfl, hq, heads hp fun v c h => HeadAt.ent h, by rw [List.length_map]; have := ok.s_few; omega, fun l H1 s1 _ hl => ?_⟩
    refine ⟨l, _, rfl, .inl (SqL.of hl), rfl, strs_flat _, false, congrArg V.bl ?_, iteF (k H1 s1)⟩
    rw [if_pos rfl, in_strs, decide_eq_true hx]
    rfl
end
theorem prt_line (x : Str) (f : Int × Int) : Str.empty ++ "part " ++ x ++ " " ++ fracText f = entLine "part " (x, f) := by
  rw [emp_app]
  rfl
theorem src_line (x : Str) (f : Int × Int) : Str.empty ++ "source " ++ x ++ " " ++ fracText f = entLine "source " (x, f) := by
  rw [emp_app]
  rfl
/-- where the name stands, first and only there -/
theorem first_nm {l : List (Str × Int × Int)} {x : Str} {j : Nat} {e : Str × Int × Int} (nd : (l.map (·.1)).Nodup) (h : l[j]? = some e) (hx : e.1 = x) :
    ((l.map (·.1)).map V.str)[j]? = some (V.str x) ∧ ∀ (m : Nat) (z : V), m < j → ((l.map (·.1)).map V.str)[m]? = some z → eqV z (V.str x) = false := by
  have hj : (l.map (·.1))[j]? = some x := by rw [List.getElem?_map, h, ← hx]; rfl
  refine ⟨by rw [List.getElem?_map, hj]; rfl, fun m z hm hz => ?_⟩
  rw [List.getElem?_map] at hz
  cases e2 : (l.map (·.1))[m]? with
  | none => rw [e2] at hz; cases hz
  | some y =>
    rw [e2] at hz
    obtain rfl := Option.some.inj hz
    show (y == x) = false
    refine beq_eq_false_iff_ne.mpr fun q => ?_
    subst q
    have h1 := (List.getElem?_eq_some_iff.mp e2)
    have h2 := (List.getElem?_eq_some_iff.mp hj)
    obtain ⟨a1, b1⟩ := h1
    obtain ⟨a2, b2⟩ := h2
    exact (List.pairwise_iff_getElem.mp nd) m j a1 a2 hm (b1.trans b2.symm)
section
variable {P : Program} {w : World} {K : PySem.W.Frag} {mg : Str → Option Value} {base : Heap} {C : Addr}
end
end Ct

/-! sep.join(reversed(xs)), xs a list of texts. -/
namespace JR
open PySem PySem.Spec PyProof.Rows L2 RT
section
variable {prog : Program} {w : World} {A : Around} {E : Value → Shared → Prop} {s : Shared}
theorem join_rev {it l : Addr} {items : Array Value} {x : Str} {t : Tok} {Q : Value → Shared → Prop} (hh : A.handled = none) (hit : s.heap.IsRevIter it l ((items.size : Int) - 1)) (hl : s.heap.IsList l items) (hne : l ≠ it) (hn : items.size ≤ sizeLine) (hstr : ∀ v ∈ items.toList, ∃ y u, v = Value.str y u)
    (hq : ∀ (h' : Heap) (tk : Nat) (acc : Array Value) (ps : List (Str × Tok)), (∀ b o, b ≠ it → s.heap.get? b = some o → h'.get? b = some o) → ItemsOf (fun i v => items[items.size - 1 - i]? = some v) acc items.size → strValues ps = acc.toList →
      JoinOk x (ps.map (·.1)) = true ∧ ∀ t' k, Q (.str (Txt.join x (ps.map (·.1))) t') { s with heap := h', toks := k }) :
    wpAny (model prog w) A (call (.builtin "str.join") [.str x t, .ref it]) Q E s := by
  refine wpAny_call (codeAny_call_builtin F.slot_str_join.plain F.entry_str_join (F.slot_str_join.check _ _ _ _ _ _ _ _ (typeIs_str _ _ _) (F.args_str_join_2 _ _) ?_))
  rw [join_tree_other]
  have hT : s.TypeIs (.ref it) "list_reverseiterator" := hit.typeIs
  refine wpAny_bind (wpAny_typeOf hT ?_)
  show wpAny _ A.in1 ((pyIter (.ref it)).tryCatch _ >>= fun it => collect it >>= fun items => joinTail x items) _ _ s
  refine wpAny_bind (wpAny_tryCatch (wpAny_pyIter_revIter hit ?_))
  refine wpAny_bind (collect_rev (A := A.in1) hh hit hl hne hn fun h' tk acc hk hacc => ?_)
  obtain ⟨ps, hps⟩ := exists_strValues acc.toList fun v hv => by
    obtain ⟨j, hj, rfl⟩ := Array.mem_iff_getElem.mp (Array.mem_toList_iff.mp hv)
    have e := hacc.2 j _ (Array.getElem?_eq_getElem hj)
    exact hstr _ (Array.mem_toList_iff.mpr (Array.mem_of_getElem? e))
  rw [← hps]
  obtain ⟨hok, hpost⟩ := hq h' tk acc ps hk hacc hps
  unfold JoinOk at hok
  rw [Bool.not_eq_true'] at hok
  have g : Gives (joinTail x (strValues ps)) (joinMade x ps) := by
    have g0 := gives_joinTail x ps hok
    cases ps with
    | nil => exact g0
    | cons p r => cases r with
      | nil => exact g0
      | cons q r' => exact g0
  exact g prog w A (wants Q E) _ (post_join ps ⟨joinFit_length hok, hpost⟩)
end
section
variable {X : Cx} {o e : Expr} {to te : TE}
def tJoinRev (K : PySem.W.Frag) (to te : TE) : TE := fun σ H Q => to σ H fun x H1 => ∃ a : Str, x = .str a ∧ te σ H1 fun y H2 => ∃ (p : Addr) (ys : List Str), y = .ref p ∧ SqL K H2 p (ys.map V.str) ∧ (ys.map (·.length)).sum + ys.length * a.length ≤ 16777216 ∧ Q (.str (Txt.join a ys.reverse)) H2
theorem rev_sum (ys : List Str) : (ys.reverse.map (·.length)).sum = (ys.map (·.length)).sum := by
  rw [List.map_reverse, List.sum_reverse]
theorem pe_joinRev {apos p2 pos pos2 : Pos} (hc : X.calm = true) (ho : PE X o to) (hg2 : Gl X "reversed") (hm2 : X.mg "reversed" = none) (he : PE X e te)
    (hs2 : starEach [e] X.env = (false, eval e X.env) :: starEach [] X.env := by rfl) (hs : starEach [.Call (.Name "reversed" p2) [e] [] pos2] X.env = [(false, eval (.Call (.Name "reversed" p2) [e] [] pos2) X.env)] := by rfl)
    (hbase : attributeBase o "join" X.env (eval o X.env) = eval o X.env := by rfl) (hline : (apos.endLine == pos.line) = true := by rfl) :
    PE X (.Call (.Attribute o "join" apos) [.Call (.Name "reversed" p2) [e] [] pos2] [] pos) (tJoinRev X.K to te) := by
  refine ⟨fun pins s σ H Q I h => ?_⟩
  refine PySem.Call_method1 hbase hs hline (thn (ho.run pins s σ H _ I h) fun v s1 ⟨x, H1, I1, r1, q1⟩ => ?_)
  obtain ⟨a, rfl, q1⟩ := q1
  obtain ⟨t, rfl⟩ := _root_.id r1
  refine ⟨"str", _, F.plainAttrs_str, F.slot_str_join, F.type_str_join, typeIs_str _ _ _, (fun _ e => nomatch e), Calls.callWith_builtin rfl (Calls.evalArgs_plain (Calls.spliced_cons ?_))⟩
  refine Call_ (ld_blt I1 hg2 hm2 PyProof.Rows.boot_reversed (PyProof.Rows.callWith_type1 (args_cons (thn (he.run pins s1 σ H1 _ I1 q1) fun u s2 ⟨y, H2, I2, r2, q2⟩ => args_nil ?_) hs2) hs2 rfl))
  obtain ⟨p, ys, ev, hq, few, q⟩ := q2
  subst ev
  obtain rfl : u = Value.ref p := r2
  obtain ⟨its, rv, p', hz⟩ := I2.list hq
  refine call_reversed_list p'.isList (Calls.spliced_nil ?_)
  have k0 : ∀ b o, s2.heap.get? b = some o → (s2.heap.push (revObj p ((its.toArray.size : Int) - 1))).get? b = some o := fun b o e => Heap.get?_push_of_some _ e
  have I3 : Inv X pins σ H2 { s2 with heap := s2.heap.push (revObj p ((its.toArray.size : Int) - 1)) } := I2.kept (t' := s2.toks) k0
  obtain ⟨f0, f1, f2, f3, f4, f5⟩ := I2.fpOk (H' := H2) (b := s2.heap.objs.size) (Nat.le_refl _) (I2.hok.fresh (Nat.le_refl _))
  have hl := p'.isList
  obtain ⟨ol, hol, _⟩ := id hl
  have hne : p ≠ s2.heap.objs.size := Nat.ne_of_lt (Heap.lt_size hol)
  have hn : its.toArray.size ≤ sizeLine := by rw [List.size_toArray, ← rv.length]; exact hz
  refine join_rev (s := { s2 with heap := s2.heap.push (revObj p ((its.toArray.size : Int) - 1)) }) (I2.ok.hd hc) ⟨_, Heap.get?_push_size _ rfl, rfl, rfl⟩ (hl.push _) hne hn (fun v hv => ?_) fun h' tk acc ps hk hi hps => ?_
  · rw [List.toList_toArray] at hv
    obtain ⟨j, hj⟩ := List.mem_iff_getElem?.mp hv
    have lj := (List.getElem?_eq_some_iff.mp hj).1
    obtain ⟨v', g1, g2⟩ := rv.get (i := j) (List.getElem?_eq_getElem (by rw [rv.length]; exact lj))
    rw [hj] at g1
    cases g1
    rw [List.getElem_map] at g2
    obtain ⟨t', e'⟩ := g2
    exact ⟨_, t', e'⟩
  · have vr := vals_rev rv hi
    rw [← hps, ← List.map_reverse] at vr
    have e : ps.map (·.1) = ys.reverse := by
      have key : ∀ (l : List Str) (ps : List (Str × Tok)), Vals (l.map V.str) (strValues ps) → ps.map (·.1) = l := by
        intro l
        induction l with
        | nil =>
          intro ps h
          cases ps with
          | nil => rfl
          | cons a b => cases h
        | cons z l ih =>
          intro ps h
          cases ps with
          | nil => cases h
          | cons a b =>
            cases h with
            | cons h1 h2 =>
              obtain ⟨t', e'⟩ := h1
              have e'' : Value.str a.1 a.2 = Value.str z t' := e'
              injection e'' with e1 _
              rw [List.map_cons, e1, ih b h2]
      exact key _ _ vr
    rw [e]
    refine ⟨?_, fun t' k => ⟨.str _, H2, (I3.turned (t' := k) (fun b o hb e => hk b o hb e) f0 f1 f3 f4 f5), ⟨t', rfl⟩, q⟩⟩
    exact joinOk_of (by rw [rev_sum, List.length_reverse]; exact few)
end
end JR

/-! Fractions' texts, of numbers of few digits. -/
namespace Ct
open PySem PySem.Spec PyProof.Rows L2 TL RZ
structure PlainV (mg : Str → Option Value) : Prop where
  n_reversed : mg "reversed" = none
abbrev s_integer_text : Stmt := top 18
abbrev N_integer_text : List Str := ["number", "high", "pieces", "low", "sign"]
theorem sc_integer_text : FnScope N_integer_text ["number"] (defScope s_integer_text) := ⟨rfl, rfl, rfl, by decide +kernel, rfl, by decide +kernel, by decide +kernel⟩
abbrev s_fraction_text : Stmt := top 15
abbrev N_fraction_text : List Str := ["number", "top", "bottom"]
theorem sc_fraction_text : FnScope N_fraction_text ["number"] (defScope s_fraction_text) := ⟨rfl, rfl, rfl, by decide +kernel, rfl, by decide +kernel, by decide +kernel⟩
def spIntText : Sp := fun vs H Q _ => ∃ n : Int, vs = [.int n] ∧ n.natAbs < 10 ^ 18 ∧ ∀ H', Same H H' → Q (.str (numText n)) H'
def spTextS (K : PySem.W.Frag) : Sp := fun vs H Q _ => ∃ (t : Addr) (f : Int × Int), vs = [.ref t] ∧ SqT K H t [.int f.1, .int f.2] ∧ Few18 f ∧ ∀ H', Same H H' → Q (.str (fracText f)) H'
theorem sign_text (n : Int) : (if n < 0 then ("-" : Str) else ("" : Str)) ++ numText ((n.natAbs : Nat) : Int) = numText n := by
  refine ext_tl ?_
  have z : ¬ (((n.natAbs : Nat) : Int) < 0) := by omega
  rw [tl_append, tl_numText, tl_numText, if_neg z, Int.natAbs_natCast]
  by_cases h : n < 0
  · rw [if_pos h, if_pos h]
    rfl
  · rw [if_neg h, if_neg h]
    rfl
theorem few_18 {n : Nat} (h : n < 10 ^ 18) : n < 2 ^ 1000 := Nat.lt_trans h (by decide +kernel)
theorem into_anyZ' {te : TE} {σ : L2.St} {H : Hp} {Q : VK} {F : V → Hp → Prop} (h1 : ∀ Z : VK, (∀ v H', F v H' → Z v H') → te σ H Z) (h2 : ∀ v H', F v H' → Q v H') : te σ H Q := h1 Q h2
section
variable {P : Program} {w : World} {K : PySem.W.Frag} {mg : Str → Option Value} {base : Heap}
theorem k_integer_text (D : Lies K mg "_integer_text" s_integer_text) (T : Plain mg) (TV : PlainV mg) : Keeps P w K mg base 1 "_integer_text" ["number"] spIntText := by
  refine D.keeps sc_integer_text (fun _ _ _ _ _ _ us hl => bindsL1 (fun _ => rfl) us hl) (fun vs H Q E h => ?_) (fun f cdv A outer s H vs Q E hr h => ?_)
  · obtain ⟨n, rfl, _⟩ := h
    rfl
  · obtain ⟨n, rfl, few, k⟩ := h
    refine ⟨_, (pss_cons (ps_par (i := 1) (j := 2) (by rfl) sc_integer_text.nd rfl rfl (by decide) rfl rfl (pa_cons (pe_callB call_abs (by rfl) T.n_abs b_abs (pa_cons (pv 0) pa_nil)) (pa_cons (pe_lst pa_nil) pa_nil)) (by rfl))
      (pss_cons (ps_while PassesOwn.never (pt_cmpR op_ge (pv 1) (pe_ci T.c_SHIFT rfl) (nomark _))
        (pss_cons (ps_never)
        (pss_one (ps_never))))
      (pss_cons (ps_set (i := 4) sc_integer_text.nd rfl (Or.inl rfl) (pe_ifExp (pt_cmpR op_lt (pv 0) pe_int (nomark _)) pe_str pe_str))
      (pss_one (ps_ret (pe_op op_add_str (pe_op op_add_str (pv 4) (pe_callTy call_str_int (by rfl) T.n_str b_str (pa_cons (pv 1) pa_nil))) (JR.pe_joinRev rfl pe_str (by rfl) TV.n_reversed (pv 2)))))))), ?_⟩
    refine into_seq (into_par (into_cons ?_))
    refine into_cb (into_args1 ⟨_, rfl, n, rfl, ?_⟩)
    have ea : (if n < 0 then -n else n) = ((n.natAbs : Nat) : Int) := by split <;> omega
    rw [ea]
    refine into_args1 ⟨by show 0 ≤ sizeLine; decide, fun F nF => ⟨_, _, rfl, ?_⟩⟩
    have s1 := same_upd (o := .lst []) nF
    have hF : (upd H F (.lst [])) F = some (.lst []) := upd_same
    generalize upd H F (.lst []) = H1 at *
    refine into_seq ⟨fun m σ' H' => σ' = [some (.int n), some (.int ((n.natAbs : Nat) : Int)), some (.ref F), none, none] ∧ H' = H1, ⟨0, rfl, rfl⟩, ?_⟩
    rintro m σ' H' ⟨rfl, rfl⟩
    refine ⟨_, rfl, _, _, rfl, rfl, _, rfl, no_if (decide_eq_false (by omega)) ?_⟩
    dsimp only
    refine into_set ?_
    refine into_anyZ' (F := fun x H2 => x = V.str (if n < 0 then "-" else "") ∧ H2 = H') (fun Z fin => ?_) (fun x H2 ⟨ex, eh⟩ => ?_)
    · refine ⟨_, rfl, _, _, rfl, rfl, _, rfl, ?_⟩
      by_cases h : n < 0
      · refine if_true_of' (decide_eq_true h) (fin _ _ ⟨?_, rfl⟩)
        rw [if_pos h]
      · refine no_if (decide_eq_false h) (fin _ _ ⟨?_, rfl⟩)
        rw [if_neg h]
    subst ex eh
    refine into_name ?_
    have few2 : (((n.natAbs : Nat) : Int)).natAbs < 2 ^ 1000 := by rw [Int.natAbs_natCast]; exact few_18 few
    have len := num_len few2
    have ls : (if n < 0 then ("-" : Str) else "").length ≤ 1 := by
      split
      · show ("-" : Str).length ≤ 1
        decide +kernel
      · show ("" : Str).length ≤ 1
        decide +kernel
    refine into_ret (into_op (into_op ⟨_, rfl, into_cb (into_args1 ⟨_, rfl, _, rfl, log_of few2, ?_⟩)⟩))
    refine ⟨_, _, rfl, rfl, ?_, ?_⟩
    · show _ + (numText _).length ≤ 16777216
      omega
    refine ⟨_, rfl, _, rfl, F, [], rfl, SqL.of hF, by show 0 + 0 * _ ≤ _; omega, ?_⟩
    refine ⟨_, _, rfl, rfl, ?_, ?_⟩
    · rw [len_app]
      show _ + (numText _).length + (Txt.join "" []).length ≤ 16777216
      have z : (Txt.join "" []).length = 0 := by decide +kernel
      omega
    have e : ((if n < 0 then ("-" : Str) else "") ++ Str.ofString (toString (((n.natAbs : Nat) : Int)))) ++ Txt.join "" ([] : List Str).reverse = numText n := by
      rw [show Str.ofString (toString (((n.natAbs : Nat) : Int))) = numText ((n.natAbs : Nat) : Int) from rfl, sign_text]
      refine ext_tl ?_
      rw [tl_append]
      have z : tl (Txt.join "" ([] : List Str).reverse) = [] := by decide +kernel
      rw [z, List.append_nil]
    rw [e]
    exact k _ s1
theorem k_fraction_textS (D : Lies K mg "fraction_text" s_fraction_text) (T : Plain mg) (G_integer_text : Keeps P w K mg base 1 "_integer_text" ["number"] spIntText) : Keeps P w K mg base 2 "fraction_text" ["number"] (spTextS K) := by
  refine D.keeps sc_fraction_text (fun _ _ _ _ _ _ us hl => bindsL1 (fun _ => rfl) us hl) (fun vs H Q E h => ?_) (fun f cdv A outer s H vs Q E hr h => ?_)
  · obtain ⟨t, f, rfl, _⟩ := h
    rfl
  · obtain ⟨t, ⟨a, b⟩, rfl, ht, ⟨ha, hb⟩, k⟩ := h
    refine ⟨_, (pss_cons (ps_asg (pv 0) (pg_tup rfl (pgs_cons (pg_name (i := 1) sc_fraction_text.nd rfl (Or.inl rfl)) (pgs_cons (pg_name (i := 2) sc_fraction_text.nd rfl (Or.inl rfl)) pgs_nil))))
      (pss_cons (ps_if (pt_cmpR op_eq (pv 2) pe_int (nomark _))
        (pss_one (ps_ret (pe_go G_integer_text (hr.mono (by decide)) rfl (pa_cons (pv 1) pa_nil))))
        pss_nil)
      (pss_one (ps_ret (pe_joined (PJ.cons (pe_fmt (pe_go G_integer_text (hr.mono (by decide)) rfl (pa_cons (pv 1) pa_nil))) (PJ.cons pe_str (PJ.cons (pe_fmt (pe_go G_integer_text (hr.mono (by decide)) rfl (pa_cons (pv 2) pa_nil))) PJ.nil)))))))), ?_⟩
    refine ⟨_, rfl, t, _, rfl, ht, rfl, _, _, rfl, _, _, rfl, ⟨rfl, ?_⟩⟩
    refine ⟨_, rfl, rfl, _, rfl, ite2 (fun h0 => ?_) (fun h0 => ?_)⟩
    · have e : b = 1 := V.int.inj (of_decide_eq_true h0)
      refine into_ret (into_call (into_args1 ⟨_, rfl, a, rfl, ha, fun H' s' => ?_⟩))
      have k := k H' s'
      rw [show fracText (a, b) = numText a by unfold fracText; rw [if_pos e]] at k
      exact k
    · have e : ¬ b = 1 := fun z => h0 (decide_eq_true (by rw [z]))
      have na : (numText a).length ≤ 1921 := num_len (few_18 ha)
      have nb : (numText b).length ≤ 1921 := num_len (few_18 hb)
      have ns : ("/" : Str).length = 1 := by decide +kernel
      have e1 : (Str.empty ++ numText a).length ≤ 1921 := by rw [emp_app]; exact na
      rw [show fracText (a, b) = numText a ++ "/" ++ numText b by unfold fracText; rw [if_neg e]] at k
      refine into_next ?_
      dsimp only
      refine into_ret ?_
      refine ⟨_, rfl, a, rfl, ha, fun H1 s1 => .inl ⟨_, rfl, Nat.le_trans na (by decide), _, rfl, Nat.le_trans e1 (by decide), _, rfl, ?_, _, rfl, b, rfl, hb, fun H2 s2 => .inl ⟨_, rfl, Nat.le_trans nb (by decide), _, rfl, ?_, ?_⟩⟩⟩
      · show (Str.empty ++ numText a ++ "/").length ≤ 16777216
        rw [len_app]
        omega
      · show (Str.empty ++ numText a ++ "/" ++ numText b).length ≤ 16777216
        rw [len_app, len_app]
        omega
      · show Q (.str (Str.empty ++ numText a ++ "/" ++ numText b)) H2
        rw [emp_app]
        exact k _ (s1.trans s2)
end
end Ct

namespace Ct
open PySem PySem.Spec PyProof.Rows L2 TL RZ
abbrev s_with_size : Stmt := top 33
abbrev N_with_size : List Str := ["circuit", "part", "size", "place"]
theorem sc_with_size : FnScope N_with_size ["circuit", "part", "size"] (defScope s_with_size) := ⟨rfl, rfl, rfl, by decide +kernel, rfl, by decide +kernel, by decide +kernel⟩
abbrev s_with_source : Stmt := top 34
abbrev N_with_source : List Str := ["circuit", "source", "voltage", "place"]
theorem sc_with_source : FnScope N_with_source ["circuit", "source", "voltage"] (defScope s_with_source) := ⟨rfl, rfl, rfl, by decide +kernel, rfl, by decide +kernel, by decide +kernel⟩
section
variable {P : Program} {w : World} {K : PySem.W.Frag} {mg : Str → Option Value} {base : Heap} {C : Addr}
theorem k_with_size (D : Lies K mg "with_size" s_with_size) (T : Plain mg) (Z : ClassT K mg C) (G_check_part : Keeps P w K mg base 2 "check_part" ["circuit", "value"] (spCheckPart K C)) (G_is_above_nought : Keeps P w K mg base 3 "is_above_nought" ["value"] (spIsSize K))
    (G_names_of : Keeps P w K mg base 1 "names_of" ["told"] (spNamesT K)) (G_fraction_text : Keeps P w K mg base 2 "fraction_text" ["number"] (spTextS K)) (G_with_lines : Keeps P w K mg base 9 "_with_lines" ["circuit", "place", "new"] (spWithLines K C)) :
    Keeps P w K mg base 10 "with_size" ["circuit", "part", "size"] (spWithSize K C) := by
  refine D.keeps sc_with_size (fun _ _ _ _ _ _ us hl => bindsL3 (fun _ _ _ => rfl) us hl) (fun vs H Q E h => ?_) (fun f cdv A outer s0 H vs Q E hr h => ?_)
  · obtain ⟨v, u, o, x, f, rfl, _⟩ := h
    rfl
  · obtain ⟨v, u, o, x, fr, rfl, hc, ok, hx, ⟨t, rfl, ht⟩, hf, few, h0, k⟩ := h
    obtain ⟨j, e, hj, ex⟩ := name_at hx
    have nx : Name x := ex ▸ (ok.prt e (List.mem_of_getElem? hj)).1
    refine ⟨_, (pss_cons (ps_expr (pe_go G_check_part (hr.mono (by decide)) rfl (pa_cons (pv 0) (pa_cons (pv 1) pa_nil))))
      (pss_cons (ps_if (pt_not (pt_val (pe_go G_is_above_nought (hr.mono (by decide)) rfl (pa_cons (pv 2) pa_nil))))
        (pss_one (ps_never))
        pss_nil)
      (pss_cons (ps_set (i := 3) sc_with_size.nd rfl (Or.inl rfl) (pe_op op_add (pe_op op_add pe_int (pe_callB call_len_seq (by rfl) T.n_len b_len (pa_cons (pe_fld (pv 0) rfl) pa_nil))) (pe_bm PySem.F.plainAttrs_list PySem.F.slot_list_index PySem.F.type_list_index mt_index (pe_go G_names_of (hr.mono (by decide)) rfl (pa_cons (pe_fld (pv 0) rfl) pa_nil)) (pa_cons (pv 1) pa_nil))))
      (pss_one (ps_ret (pe_go G_with_lines (hr.mono (by decide)) rfl (pa_cons (pv 0) (pa_cons (pv 3) (pa_cons (pe_lst (pa_cons (pe_joined (PJ.cons pe_str (PJ.cons (pe_fmt (pv 1)) (PJ.cons pe_str (PJ.cons (pe_fmt (pe_go G_fraction_text (hr.mono (by decide)) rfl (pa_cons (pv 2) pa_nil))) PJ.nil))))) pa_nil)) pa_nil))))))))), ?_⟩
    refine ⟨_, rfl, _, rfl, v, o, x, rfl, hc, ok, hx, fun H1 s1 => ?_⟩
    refine ⟨_, rfl, t, fr, rfl, SqT.same s1 ht, hf.1, hf.2.1, h0, true, rfl, iteF ?_⟩
    have hc1 := hc.same s1
    obtain ⟨c, dx, fs, ts, us, rfl, a1, a2, a3, a4⟩ := hc1.src
    obtain ⟨c', dx', fs', tp, vs, e1, b1, b2, b3, b4⟩ := hc1.prt
    obtain rfl := V.ref.inj e1
    have l4 := a4.length
    refine ⟨_, rfl, c, C, dx, fs, _, rfl, a1, Z.cl, Z.nS, a2, ts, us, rfl, .inr a3, _, _, rfl, rfl, ?_⟩
    refine ⟨_, rfl, c, C, dx', fs', _, rfl, b1, Z.cl, Z.nP, b2, tp, vs, o.parts.map (·.1), rfl, b3.sq, heads b4 fun v c h => HeadAt.ent h, by rw [List.length_map]; have := ok.p_few; omega, fun l H2 s2 _ hl => ?_⟩
    obtain ⟨q1, q2⟩ := first_nm ok.p_once hj ex
    refine ⟨.inl ⟨rfl, _, SqL.of hl⟩, _, rfl, l, _, _, j, _, rfl, rfl, SqL.of hl, rfl, strs_flat _, q1, by show (x == x) = true; simp, q2, _, _, rfl, rfl, ?_⟩
    have lf := frac_len hf.2.2.1 hf.2.2.2
    have lx := nx.2.1
    have z1 : (Str.empty ++ ("part " : Str)).length = 5 := by rw [emp_app]; exact prt_len
    refine ⟨_, rfl, _, rfl, ⟨_, rfl, ?_, _, rfl, .inl ⟨_, rfl, Nat.le_trans lx (by decide), _, rfl, ?_, _, rfl, ?_, _, rfl, t, fr, rfl, SqT.same (s1.trans s2) ht, few, fun H3 s3 => .inl ⟨_, rfl, Nat.le_trans lf (by decide), _, rfl, ?_, ?_⟩⟩⟩⟩
    · show _ ≤ 16777216
      omega
    · rw [len_app]
      show _ ≤ 16777216
      omega
    · rw [len_app, len_app, sp_len]
      show _ ≤ 16777216
      omega
    · rw [len_app, len_app, len_app, sp_len]
      show _ ≤ 16777216
      omega
    rw [prt_line]
    refine ⟨by show 1 ≤ sizeLine; decide, fun b nb => ?_⟩
    have s4 := same_upd (o := .lst [V.str (entLine "part " (x, fr))]) nb
    have ep : (1 : Int) + ((us.length : Nat) : Int) + ((j : Nat) : Int) = ((1 + o.sources.length + j : Nat) : Int) := by omega
    have lr := (List.getElem?_eq_some_iff.mp hj).1
    refine ⟨.ref c, o, o.setPart x fr, 1 + o.sources.length + j, b, [entLine "part " (x, fr)], (by show [V.ref c, V.int ((1 : Int) + ((us.length : Nat) : Int) + ((j : Nat) : Int)), V.ref b] = _; rw [ep]), hc.same (s1.trans (s2.trans (s3.trans s4))), ok, setPart_ok ok hf h0, upd_same, ?_, by show 1 ≤ 100; decide, rows_part ok hj ex, fun v' H' s' hc' => k v' H' (s1.trans (s2.trans (s3.trans (s4.trans s')))) hc'⟩
    unfold rowsOf
    rw [List.length_cons, List.length_append, List.length_append, List.length_map, List.length_map]
    omega
theorem k_with_source (D : Lies K mg "with_source" s_with_source) (T : Plain mg) (Z : ClassT K mg C) (G_check_source : Keeps P w K mg base 2 "check_source" ["circuit", "value"] (spCheckSource K C)) (G_is_fraction : Keeps P w K mg base 2 "is_fraction" ["value"] (spIsFr K))
    (G_names_of : Keeps P w K mg base 1 "names_of" ["told"] (spNamesT K)) (G_fraction_text : Keeps P w K mg base 2 "fraction_text" ["number"] (spTextS K)) (G_with_lines : Keeps P w K mg base 9 "_with_lines" ["circuit", "place", "new"] (spWithLines K C)) :
    Keeps P w K mg base 10 "with_source" ["circuit", "source", "voltage"] (spWithSource K C) := by
  refine D.keeps sc_with_source (fun _ _ _ _ _ _ us hl => bindsL3 (fun _ _ _ => rfl) us hl) (fun vs H Q E h => ?_) (fun f cdv A outer s0 H vs Q E hr h => ?_)
  · obtain ⟨v, u, o, x, f, rfl, _⟩ := h
    rfl
  · obtain ⟨v, u, o, x, fr, rfl, hc, ok, hx, ⟨t, rfl, ht⟩, hf, few, k⟩ := h
    obtain ⟨j, e, hj, ex⟩ := name_at hx
    have nx : Name x := ex ▸ (ok.src e (List.mem_of_getElem? hj)).1
    refine ⟨_, (pss_cons (ps_expr (pe_go G_check_source (hr.mono (by decide)) rfl (pa_cons (pv 0) (pa_cons (pv 1) pa_nil))))
      (pss_cons (ps_if (pt_not (pt_val (pe_go G_is_fraction (hr.mono (by decide)) rfl (pa_cons (pv 2) pa_nil))))
        (pss_one (ps_never))
        pss_nil)
      (pss_cons (ps_set (i := 3) sc_with_source.nd rfl (Or.inl rfl) (pe_op op_add pe_int (pe_bm PySem.F.plainAttrs_list PySem.F.slot_list_index PySem.F.type_list_index mt_index (pe_go G_names_of (hr.mono (by decide)) rfl (pa_cons (pe_fld (pv 0) rfl) pa_nil)) (pa_cons (pv 1) pa_nil))))
      (pss_one (ps_ret (pe_go G_with_lines (hr.mono (by decide)) rfl (pa_cons (pv 0) (pa_cons (pv 3) (pa_cons (pe_lst (pa_cons (pe_joined (PJ.cons pe_str (PJ.cons (pe_fmt (pv 1)) (PJ.cons pe_str (PJ.cons (pe_fmt (pe_go G_fraction_text (hr.mono (by decide)) rfl (pa_cons (pv 2) pa_nil))) PJ.nil))))) pa_nil)) pa_nil))))))))), ?_⟩
    refine ⟨_, rfl, _, rfl, v, o, x, rfl, hc, ok, hx, fun H1 s1 => ?_⟩
    refine ⟨_, rfl, t, fr, rfl, SqT.same s1 ht, hf.1, hf.2.1, true, rfl, iteF ?_⟩
    have hc1 := hc.same s1
    obtain ⟨c, dx, fs, ts, us, rfl, a1, a2, a3, a4⟩ := hc1.src
    refine ⟨_, rfl, c, C, dx, fs, _, rfl, a1, Z.cl, Z.nS, a2, ts, us, o.sources.map (·.1), rfl, a3, heads a4 fun v c h => HeadAt.ent h, by rw [List.length_map]; have := ok.s_few; omega, fun l H2 s2 _ hl => ?_⟩
    obtain ⟨q1, q2⟩ := first_nm ok.s_once hj ex
    refine ⟨.inl ⟨rfl, _, SqL.of hl⟩, _, rfl, l, _, _, j, _, rfl, rfl, SqL.of hl, rfl, strs_flat _, q1, by show (x == x) = true; simp, q2, _, _, rfl, rfl, ?_⟩
    have lf := frac_len hf.2.2.1 hf.2.2.2
    have lx := nx.2.1
    have z1 : (Str.empty ++ ("source " : Str)).length = 7 := by rw [emp_app]; exact src_len
    refine ⟨_, rfl, _, rfl, ⟨_, rfl, ?_, _, rfl, .inl ⟨_, rfl, Nat.le_trans lx (by decide), _, rfl, ?_, _, rfl, ?_, _, rfl, t, fr, rfl, SqT.same (s1.trans s2) ht, few, fun H3 s3 => .inl ⟨_, rfl, Nat.le_trans lf (by decide), _, rfl, ?_, ?_⟩⟩⟩⟩
    · show _ ≤ 16777216
      omega
    · rw [len_app]
      show _ ≤ 16777216
      omega
    · rw [len_app, len_app, sp_len]
      show _ ≤ 16777216
      omega
    · rw [len_app, len_app, len_app, sp_len]
      show _ ≤ 16777216
      omega
    rw [src_line]
    refine ⟨by show 1 ≤ sizeLine; decide, fun b nb => ?_⟩
    have s4 := same_upd (o := .lst [V.str (entLine "source " (x, fr))]) nb
    have ep : (1 : Int) + ((j : Nat) : Int) = ((1 + j : Nat) : Int) := by omega
    have lr := (List.getElem?_eq_some_iff.mp hj).1
    refine ⟨.ref c, o, o.setSource x fr, 1 + j, b, [entLine "source " (x, fr)], (by show [V.ref c, V.int ((1 : Int) + ((j : Nat) : Int)), V.ref b] = _; rw [ep]), hc.same (s1.trans (s2.trans (s3.trans s4))), ok, setSource_ok ok hf, upd_same, ?_, by show 1 ≤ 100; decide, rows_source ok hj ex, fun v' H' s' hc' => k v' H' (s1.trans (s2.trans (s3.trans (s4.trans s')))) hc'⟩
    unfold rowsOf
    rw [List.length_cons, List.length_append, List.length_append, List.length_map, List.length_map]
    omega
end
end Ct

/-! Any value looked for in a list of texts. -/
namespace PySem.SeqAt
open PySem
theorem text_declines_dict (b : Str) (u : Tok) (l : Addr) (es : Array DictEntry) (n : Nat) (dd : Option Addr) (sl : Array (Option Value)) :
    Meets (Builtin.«str.__eq__» ⟨[.str b u, .ref l], []⟩) (fun _ R s => s.heap.get? l = some { cls := .type "dict", dict := dd, data := .dict es n, slots := sl } ∧ R (.ok (.ret .notImplemented)) s) :=
  .of_wp fun prog w A R s h => by
    obtain ⟨hp, g, d, tk, os⟩ := s
    obtain ⟨hl, h⟩ := h
    wp_walk using wpAny_loadPart' hl, wpAny_load hl
    exact ⟨_, rfl, h⟩
theorem dict_declines_text (b : Str) (u : Tok) (l : Addr) (es : Array DictEntry) (n : Nat) (dd : Option Addr) (sl : Array (Option Value)) :
    Meets (Builtin.«dict.__eq__» ⟨[.ref l, .str b u], []⟩) (fun _ R s => s.heap.get? l = some { cls := .type "dict", dict := dd, data := .dict es n, slots := sl } ∧ R (.ok (.ret .notImplemented)) s) :=
  .of_wp fun prog w A R s h => by
    obtain ⟨hp, g, d, tk, os⟩ := s
    obtain ⟨hl, h⟩ := h
    have f1 := F.sub_str_dict
    wp_walk using wpAny_loadPart' hl, wpAny_load hl
    exact ⟨_, rfl, h⟩
end PySem.SeqAt
namespace PySem.SeqAt
open PySem
section
variable {A : Around} {s : Shared}
theorem rc_text_dict {l : Addr} {o : Obj} {es : Array DictEntry} {n : Nat} (b : Str) (u : Tok) (ho : s.heap.get? l = some o) (hc : o.cls = .type "dict") (hd : o.data = .dict es n) (hu : A.units < cLine) : RcAt A s (.str b u) (.ref l) false := fun prog w E Q h => by
  obtain ⟨cls, dd, data, sl⟩ := o
  simp only at hc hd
  subst hc hd
  refine rc_eq_decline_or (k := false) (typeIs_str s b u) ⟨_, ho, rfl⟩ (by decide) F.sub_dict_str F.slot_str_eq F.slot_dict_eq_refl (fun _ hq => ?_) (fun _ hq => ?_) (fun _ hq => wpAny_of_eq (rfl : isSame (.str b u) (.ref l) = pure false) hq) (.inr hu) h
  · exact call_meets F.slot_str_eq (typeIs_str s b u) F.entry_str_eq (F.args_str_eq_2 _ _) (text_declines_dict b u l es n dd sl) ⟨ho, hq⟩
  · exact call_meets F.slot_dict_eq_refl ⟨_, ho, rfl⟩ F.entry_dict_eq (F.args_dict_eq_2 _ _) (dict_declines_text b u l es n dd sl) ⟨ho, hq⟩
theorem eq_text_dict {l : Addr} {o : Obj} {es : Array DictEntry} {n : Nat} (b : Str) (u : Tok) (ho : s.heap.get? l = some o) (hc : o.cls = .type "dict") (hd : o.data = .dict es n) (hu : A.units < cLine) : EqAt A s (.str b u) (.ref l) false := fun prog w E Q h => by
  unfold eqBool
  exact wpAny_holding (wpAny_ite_split (fun z => absurd (eq_of_beq z) nofun) fun _ => wpAny_bind (rc_text_dict b u ho hc hd hu prog w E _ (wpAny_truthy_bool h)))
end
end PySem.SeqAt
namespace Ct
open PySem PySem.Spec PyProof.Rows L2 TL
def isTx (x : Str) : PyData → Bool
  | .str y => x == y
  | _ => false
def isIn (d : PyData) (ns : List Str) : Bool := ns.any fun x => isTx x d
section
variable {X : Cx} {pins : List (Addr × Obj)} {σ : L2.St} {H : Hp} {s : Shared}
theorem text_eqAt {A : Around} (I : Inv X pins σ H s) (hu : A.units < cLine) {v : V} {u : Value} {d : PyData} (h : AnyV X.K H v d) (r : RelV v u) (x : Str) (t : Tok) : SeqAt.EqAt A s (.str x t) u (isTx x d) := by
  cases h with
  | non => cases (show u = Value.none from r); exact SeqAt.EqAt.str_none x t
  | bl b => cases (show u = Value.bool b from r); exact SeqAt.EqAt.str_bool x t b
  | int i => obtain ⟨t', q⟩ := (show ∃ t, u = Value.int i t from r); cases q; exact SeqAt.EqAt.str_int x t i t'
  | str y => obtain ⟨t', q⟩ := (show ∃ t, u = Value.str y t from r); cases q; exact SeqAt.EqAt.str_str x t y t'
  | lst h _ =>
    cases (show u = Value.ref _ from r)
    obtain ⟨its, _, pl, _⟩ := I.list h
    exact SeqAt.EqAt.str_list x t pl.isList hu
  | tup h _ =>
    cases (show u = Value.ref _ from r)
    obtain ⟨its, _, pl, _⟩ := I.tuple h
    exact SeqAt.EqAt.str_tuple x t pl hu
  | dct h _ =>
    cases (show u = Value.ref _ from r)
    obtain ⟨_, _, va, ra, da⟩ := (show ObjOk X.prog X.w H s.heap _ (.dK _) from I.hok _ _ h)
    obtain ⟨oa, es, ep, hoa, hc, hda, _⟩ := da
    exact SeqAt.eq_text_dict x t hoa hc.1 hda hu
theorem hu65e {k : Nat} {A : Around} (r : Room k A) : A.units + 65 < cLine := by
  have := r.un
  omega
def rNotInA (K : PySem.W.Frag) : R2 := fun x y H Q => ∃ (d : PyData) (p : Addr) (ns : List Str), AnyV K H x d ∧ y = .ref p ∧ SqL K H p (ns.map V.str) ∧ Q (.bl (!isIn d ns)) H
theorem texts_any {d : PyData} : ∀ {ns : List Str} {us : List Value}, Vals (ns.map V.str) us → (us.any fun u => match u with | .str x _ => isTx x d | _ => false) = isIn d ns
  | [], _, .nil => rfl
  | n :: ns, _, .cons r t => by
    obtain ⟨t0, rfl⟩ := (show ∃ t, _ = Value.str n t from r)
    rw [List.any_cons, texts_any t]
    rfl
theorem texts_mem : ∀ {ns : List Str} {us : List Value}, Vals (ns.map V.str) us → ∀ u ∈ us, ∃ x t, u = Value.str x t
  | [], _, .nil, _, h => by cases h
  | n :: ns, _, .cons r t, u, h => by
    rcases List.mem_cons.mp h with rfl | h
    · obtain ⟨t0, q⟩ := (show ∃ t, _ = Value.str n t from r)
      exact ⟨n, t0, q⟩
    · exact texts_mem t u h
theorem op_notInA (hu : X.A.units + 65 < cLine) {K : PySem.W.Frag} (hK : X.K = K) : OpR X (compareOp .NotIn) (rNotInA K) := by
  subst hK
  intro pins s σ H x y v u Q I rx ry h
  obtain ⟨d, p, ns, hd, rfl, hs, q⟩ := h
  cases ry
  obtain ⟨its, r, pl, hz⟩ := I.list hs
  refine SeqAt.notIn_listAt (fun u => match u with | .str x _ => isTx x d | _ => false) pl.isList (fun w hw => ?_) ⟨.bl _, H, I, rfl, ?_⟩
  · obtain ⟨x0, t0, rfl⟩ := texts_mem r w (by simpa using hw)
    exact text_eqAt I (by show X.A.units + 1 < cLine; omega) hd rx x0 t0
  · have e : (its.toArray.any fun u => match u with | .str x _ => isTx x d | _ => false) = isIn d ns := by
      rw [← texts_any (d := d) r]
      simp
    rw [e]
    exact q
end
end Ct

/-! Sizes and voltages changed, whatever is asked. -/
namespace Ct
open PySem PySem.Spec PyProof.Rows L2 TL RZ
theorem isIn_true {d : PyData} {ns : List Str} (h : isIn d ns = true) : ∃ x ∈ ns, d = .str x := by
  obtain ⟨x, hx, e⟩ := List.any_eq_true.mp h
  cases d with
  | str y =>
    have e : (x == y) = true := e
    exact ⟨x, hx, by rw [eq_of_beq e]⟩
  | _ => cases e
/-- pairs of whole numbers of few digits -/
def FewD (e : PyData) : Prop := ∀ a b : Int, e = .tuple [.int a, .int b] → a.natAbs < 10 ^ 18 ∧ b.natAbs < 10 ^ 18
theorem AnyV.str_at {K : PySem.W.Frag} {H : Hp} {v : V} {x : Str} (h : AnyV K H v (.str x)) : v = .str x := by
  cases h
  rfl
def spCheckA (K : PySem.W.Frag) (C CX : Addr) (sel : Own → List (Str × Int × Int)) : Sp := fun vs H Q E => ∃ (v z : V) (o : Own) (d : PyData), vs = [v, z] ∧ CircN K C H v o ∧ OwnOk o ∧ AnyV K H z d ∧
  (∀ H', Same H H' → isIn d ((sel o).map (·.1)) = true → Q .non H') ∧ ∀ H', Same H H' → isIn d ((sel o).map (·.1)) = false → Err1 CX z H' E
def spWithA (K : PySem.W.Frag) (C CN CX : Addr) (sel : Own → List (Str × Int × Int)) (g : PyData → Bool) : Sp := fun vs H Q E => ∃ (v z u : V) (o : Own) (d e : PyData), vs = [v, z, u] ∧ CircN K C H v o ∧ OwnOk o ∧ AnyV K H z d ∧ AnyV K H u e ∧ FewD e ∧
  (∀ H', Same H H' → isIn d ((sel o).map (·.1)) = false → Err1 CN z H' E) ∧ (∀ H', Same H H' → isIn d ((sel o).map (·.1)) = true → g e = false → Err1 CX u H' E) ∧
  ∀ v' H', Same H H' → isIn d ((sel o).map (·.1)) = true → g e = true → Q v' H'
theorem sizeA_is {d : PyData} (h : isSize d = true) : ∃ a b : Int, d = .tuple [.int a, .int b] ∧ 0 < b ∧ Int.gcd a b = 1 ∧ 0 < a := by
  match d, h with
  | .tuple [.int a, .int b], h =>
    have q : (decide (0 < b) && decide (Int.gcd a b = 1) && decide (0 < a)) = true := h
    rw [Bool.and_eq_true, Bool.and_eq_true] at q
    exact ⟨a, b, rfl, of_decide_eq_true q.1.1, of_decide_eq_true q.1.2, of_decide_eq_true q.2⟩
section
variable {P : Program} {w : World} {K : PySem.W.Frag} {mg : Str → Option Value} {base : Heap} {C CE fIX : Addr} {fdX : FuncData}
theorem k_check_partX {CNP : Addr} (M_NoPart : ErrC K mg "NoPart" CNP CE fIX) (FX : FnOk P w K mg base CX0 1 fIX fdX ["self", "value"] (spErr K)) (bX : Binds K fdX ["self", "value"] []) (D : Lies K mg "check_part" s_check_part) (T : Plain mg) (Z : ClassT K mg C) (G_names_of : Keeps P w K mg base 1 "names_of" ["told"] (spNamesT K)) : KeepsX P w K mg base 3 "check_part" ["circuit", "value"] (spCheckA K C CNP Own.parts) := by
  refine D.keepsX sc_check_part (fun _ _ _ _ _ _ us hl => bindsL2 (fun _ _ => rfl) us hl) (fun vs H Q E h => ?_) (fun f cdv A outer s0 H vs Q E hr h => ?_)
  · obtain ⟨v, z, o, d, rfl, _⟩ := h
    rfl
  · obtain ⟨v, z, o, d, rfl, hc, ok, hz, k, kE⟩ := h
    obtain ⟨c, dx, fs, ts, us, rfl, hc1, hc2, hq, hp⟩ := hc.prt
    refine ⟨_, (pss_one (ps_if (pt_cmpR (op_notInA (hu65e hr) rfl) (pv 1) (pe_go G_names_of (hr.mono (by decide)) rfl (pa_cons (pe_fld (pv 0) rfl) pa_nil)) (by rfl))
        (pss_one (ps_raiseV M_NoPart FX bX rfl takesX (hr.mono (by decide)) rfl (pv 1)))
        pss_nil)), ?_⟩
    refine ⟨_, rfl, _, rfl, c, C, dx, fs, _, rfl, hc1, Z.cl, Z.nP, hc2, ts, us, (Own.parts o).map (·.1), rfl, hq.sq, heads hp fun v c h => HeadAt.ent h, by rw [List.length_map]; have := ok.p_few; show _ < _; first | (show o.parts.length < _; omega) | (show o.sources.length < _; omega), fun l H1 s1 _ hl => ?_⟩
    refine ⟨d, l, _, hz.same s1, rfl, SqL.of hl, ?_⟩
    cases e : isIn d ((Own.parts o).map (·.1)) with
    | true => exact ⟨false, rfl, iteF (k H1 s1 e)⟩
    | false => exact ⟨true, rfl, iteT ⟨_, rfl, kE H1 s1 e⟩⟩
theorem k_check_sourceX {CNS : Addr} (M_NoSource : ErrC K mg "NoSource" CNS CE fIX) (FX : FnOk P w K mg base CX0 1 fIX fdX ["self", "value"] (spErr K)) (bX : Binds K fdX ["self", "value"] []) (D : Lies K mg "check_source" s_check_source) (T : Plain mg) (Z : ClassT K mg C) (G_names_of : Keeps P w K mg base 1 "names_of" ["told"] (spNamesT K)) : KeepsX P w K mg base 3 "check_source" ["circuit", "value"] (spCheckA K C CNS Own.sources) := by
  refine D.keepsX sc_check_source (fun _ _ _ _ _ _ us hl => bindsL2 (fun _ _ => rfl) us hl) (fun vs H Q E h => ?_) (fun f cdv A outer s0 H vs Q E hr h => ?_)
  · obtain ⟨v, z, o, d, rfl, _⟩ := h
    rfl
  · obtain ⟨v, z, o, d, rfl, hc, ok, hz, k, kE⟩ := h
    obtain ⟨c, dx, fs, ts, us, rfl, hc1, hc2, hq, hp⟩ := hc.src
    refine ⟨_, (pss_one (ps_if (pt_cmpR (op_notInA (hu65e hr) rfl) (pv 1) (pe_go G_names_of (hr.mono (by decide)) rfl (pa_cons (pe_fld (pv 0) rfl) pa_nil)) (by rfl))
        (pss_one (ps_raiseV M_NoSource FX bX rfl takesX (hr.mono (by decide)) rfl (pv 1)))
        pss_nil)), ?_⟩
    refine ⟨_, rfl, _, rfl, c, C, dx, fs, _, rfl, hc1, Z.cl, Z.nS, hc2, ts, us, (Own.sources o).map (·.1), rfl, hq, heads hp fun v c h => HeadAt.ent h, by rw [List.length_map]; have := ok.s_few; show _ < _; first | (show o.parts.length < _; omega) | (show o.sources.length < _; omega), fun l H1 s1 _ hl => ?_⟩
    refine ⟨d, l, _, hz.same s1, rfl, SqL.of hl, ?_⟩
    cases e : isIn d ((Own.sources o).map (·.1)) with
    | true => exact ⟨false, rfl, iteF (k H1 s1 e)⟩
    | false => exact ⟨true, rfl, iteT ⟨_, rfl, kE H1 s1 e⟩⟩
theorem k_with_sizeX {CNP CBS : Addr} (M_BadSize : ErrC K mg "BadSize" CBS CE fIX) (FX : FnOk P w K mg base CX0 1 fIX fdX ["self", "value"] (spErr K)) (bX : Binds K fdX ["self", "value"] []) (D : Lies K mg "with_size" s_with_size) (T : Plain mg) (Z : ClassT K mg C) (G_check_partX : KeepsX P w K mg base 3 "check_part" ["circuit", "value"] (spCheckA K C CNP Own.parts)) (G_is_above_noughtA : Keeps P w K mg base 3 "is_above_nought" ["value"] (spAnyB K isSize))
    (G_names_of : Keeps P w K mg base 1 "names_of" ["told"] (spNamesT K)) (G_fraction_text : Keeps P w K mg base 2 "fraction_text" ["number"] (spTextS K)) (G_with_lines : Keeps P w K mg base 9 "_with_lines" ["circuit", "place", "new"] (spWithLines K C)) :
    KeepsX P w K mg base 10 "with_size" ["circuit", "part", "size"] (spWithA K C CNP CBS Own.parts isSize) := by
  refine D.keepsX sc_with_size (fun _ _ _ _ _ _ us hl => bindsL3 (fun _ _ _ => rfl) us hl) (fun vs H Q E h => ?_) (fun f cdv A outer s0 H vs Q E hr h => ?_)
  · obtain ⟨v, z, u, o, d, e, rfl, _⟩ := h
    rfl
  · obtain ⟨v, z, u, o, d, e0, rfl, hc, ok, hz, hu, fewD, kN, kB, k0⟩ := h
    refine ⟨_, (pss_cons (ps_expr (pe_goX G_check_partX takesX (fun _ _ _ _ h => h) (hr.mono (by decide)) rfl (pa_cons (pv 0) (pa_cons (pv 1) pa_nil))))
      (pss_cons (ps_if (pt_not (pt_val (pe_go G_is_above_noughtA (hr.mono (by decide)) rfl (pa_cons (pv 2) pa_nil))))
        (pss_one (ps_raiseV M_BadSize FX bX rfl takesX (hr.mono (by decide)) rfl (pv 2)))
        pss_nil)
      (pss_cons (ps_set (i := 3) sc_with_size.nd rfl (Or.inl rfl) (pe_op op_add (pe_op op_add pe_int (pe_callB call_len_seq (by rfl) T.n_len b_len (pa_cons (pe_fld (pv 0) rfl) pa_nil))) (pe_bm PySem.F.plainAttrs_list PySem.F.slot_list_index PySem.F.type_list_index mt_index (pe_go G_names_of (hr.mono (by decide)) rfl (pa_cons (pe_fld (pv 0) rfl) pa_nil)) (pa_cons (pv 1) pa_nil))))
      (pss_one (ps_ret (pe_go G_with_lines (hr.mono (by decide)) rfl (pa_cons (pv 0) (pa_cons (pv 3) (pa_cons (pe_lst (pa_cons (pe_joined (PJ.cons pe_str (PJ.cons (pe_fmt (pv 1)) (PJ.cons pe_str (PJ.cons (pe_fmt (pe_go G_fraction_text (hr.mono (by decide)) rfl (pa_cons (pv 2) pa_nil))) PJ.nil))))) pa_nil)) pa_nil))))))))), ?_⟩
    refine ⟨_, rfl, _, rfl, v, z, o, d, rfl, hc, ok, hz, fun H1 s1 hin => ?_, fun H1 s1 hin => kN H1 s1 hin⟩
    obtain ⟨x, hx, rfl⟩ := isIn_true hin
    obtain rfl := hz.str_at
    obtain ⟨j, e, hj, ex⟩ := name_at hx
    have nx : Name x := ex ▸ (ok.prt e (List.mem_of_getElem? hj)).1
    refine ⟨_, rfl, u, e0, rfl, hu.same s1, fun H2 s2 => ⟨isSize e0, rfl, ?_⟩⟩
    cases hs : isSize e0 with
    | false => exact iteT ⟨_, rfl, kB H2 (s1.trans s2) hin hs⟩
    | true =>
    refine iteF ?_
    obtain ⟨a, b, rfl, hb, hg, h0⟩ := sizeA_is hs
    obtain ⟨t, rfl, ht⟩ := hu.two
    obtain ⟨fa, fb⟩ := fewD a b rfl
    have few : Few18 (a, b) := ⟨fa, fb⟩
    have big : ∀ n : Nat, n < 10 ^ 18 → n < 2 ^ 1000 := fun n h => Nat.lt_of_lt_of_le h (by decide +kernel)
    have hf : FrOk (a, b) := ⟨hb, hg, big _ fa, big _ fb⟩
    have k : ∀ v' H', Same H H' → CircN K C H' v' (o.setPart x (a, b)) → Q v' H' := fun v' H' s _ => k0 v' H' s hin hs
    replace s1 := s1.trans s2
    clear s2
    obtain ⟨fr, efr⟩ : ∃ fr, fr = (a, b) := ⟨_, rfl⟩
    rw [← efr] at hf few k
    have ht : SqT K H t [.int fr.1, .int fr.2] := by rw [efr]; exact ht
    have h0 : 0 < fr.1 := by rw [efr]; exact h0
    have hc1 := hc.same s1
    obtain ⟨c, dx, fs, ts, us, rfl, a1, a2, a3, a4⟩ := hc1.src
    obtain ⟨c', dx', fs', tp, vs, e1, b1, b2, b3, b4⟩ := hc1.prt
    obtain rfl := V.ref.inj e1
    have l4 := a4.length
    refine ⟨_, rfl, c, C, dx, fs, _, rfl, a1, Z.cl, Z.nS, a2, ts, us, rfl, .inr a3, _, _, rfl, rfl, ?_⟩
    refine ⟨_, rfl, c, C, dx', fs', _, rfl, b1, Z.cl, Z.nP, b2, tp, vs, o.parts.map (·.1), rfl, b3.sq, heads b4 fun v c h => HeadAt.ent h, by rw [List.length_map]; have := ok.p_few; omega, fun l H2 s2 _ hl => ?_⟩
    obtain ⟨q1, q2⟩ := first_nm ok.p_once hj ex
    refine ⟨.inl ⟨rfl, _, SqL.of hl⟩, _, rfl, l, _, _, j, _, rfl, rfl, SqL.of hl, rfl, strs_flat _, q1, by show (x == x) = true; simp, q2, _, _, rfl, rfl, ?_⟩
    have lf := frac_len hf.2.2.1 hf.2.2.2
    have lx := nx.2.1
    have z1 : (Str.empty ++ ("part " : Str)).length = 5 := by rw [emp_app]; exact prt_len
    refine ⟨_, rfl, _, rfl, ⟨_, rfl, ?_, _, rfl, .inl ⟨_, rfl, Nat.le_trans lx (by decide), _, rfl, ?_, _, rfl, ?_, _, rfl, t, fr, rfl, SqT.same (s1.trans s2) ht, few, fun H3 s3 => .inl ⟨_, rfl, Nat.le_trans lf (by decide), _, rfl, ?_, ?_⟩⟩⟩⟩
    · show _ ≤ 16777216
      omega
    · rw [len_app]
      show _ ≤ 16777216
      omega
    · rw [len_app, len_app, sp_len]
      show _ ≤ 16777216
      omega
    · rw [len_app, len_app, len_app, sp_len]
      show _ ≤ 16777216
      omega
    rw [prt_line]
    refine ⟨by show 1 ≤ sizeLine; decide, fun b nb => ?_⟩
    have s4 := same_upd (o := .lst [V.str (entLine "part " (x, fr))]) nb
    have ep : (1 : Int) + ((us.length : Nat) : Int) + ((j : Nat) : Int) = ((1 + o.sources.length + j : Nat) : Int) := by omega
    have lr := (List.getElem?_eq_some_iff.mp hj).1
    refine ⟨.ref c, o, o.setPart x fr, 1 + o.sources.length + j, b, [entLine "part " (x, fr)], (by show [V.ref c, V.int ((1 : Int) + ((us.length : Nat) : Int) + ((j : Nat) : Int)), V.ref b] = _; rw [ep]), hc.same (s1.trans (s2.trans (s3.trans s4))), ok, setPart_ok ok hf h0, upd_same, ?_, by show 1 ≤ 100; decide, rows_part ok hj ex, fun v' H' s' hc' => k v' H' (s1.trans (s2.trans (s3.trans (s4.trans s')))) hc'⟩
    unfold rowsOf
    rw [List.length_cons, List.length_append, List.length_append, List.length_map, List.length_map]
    omega
theorem k_with_sourceX {CNS CBV : Addr} (M_BadVoltage : ErrC K mg "BadVoltage" CBV CE fIX) (FX : FnOk P w K mg base CX0 1 fIX fdX ["self", "value"] (spErr K)) (bX : Binds K fdX ["self", "value"] []) (D : Lies K mg "with_source" s_with_source) (T : Plain mg) (Z : ClassT K mg C) (G_check_sourceX : KeepsX P w K mg base 3 "check_source" ["circuit", "value"] (spCheckA K C CNS Own.sources)) (G_is_fractionA : Keeps P w K mg base 2 "is_fraction" ["value"] (spAnyB K isFr))
    (G_names_of : Keeps P w K mg base 1 "names_of" ["told"] (spNamesT K)) (G_fraction_text : Keeps P w K mg base 2 "fraction_text" ["number"] (spTextS K)) (G_with_lines : Keeps P w K mg base 9 "_with_lines" ["circuit", "place", "new"] (spWithLines K C)) :
    KeepsX P w K mg base 10 "with_source" ["circuit", "source", "voltage"] (spWithA K C CNS CBV Own.sources isFr) := by
  refine D.keepsX sc_with_source (fun _ _ _ _ _ _ us hl => bindsL3 (fun _ _ _ => rfl) us hl) (fun vs H Q E h => ?_) (fun f cdv A outer s0 H vs Q E hr h => ?_)
  · obtain ⟨v, z, u, o, d, e, rfl, _⟩ := h
    rfl
  · obtain ⟨v, z, u, o, d, e0, rfl, hc, ok, hz, hu, fewD, kN, kB, k0⟩ := h
    refine ⟨_, (pss_cons (ps_expr (pe_goX G_check_sourceX takesX (fun _ _ _ _ h => h) (hr.mono (by decide)) rfl (pa_cons (pv 0) (pa_cons (pv 1) pa_nil))))
      (pss_cons (ps_if (pt_not (pt_val (pe_go G_is_fractionA (hr.mono (by decide)) rfl (pa_cons (pv 2) pa_nil))))
        (pss_one (ps_raiseV M_BadVoltage FX bX rfl takesX (hr.mono (by decide)) rfl (pv 2)))
        pss_nil)
      (pss_cons (ps_set (i := 3) sc_with_source.nd rfl (Or.inl rfl) (pe_op op_add pe_int (pe_bm PySem.F.plainAttrs_list PySem.F.slot_list_index PySem.F.type_list_index mt_index (pe_go G_names_of (hr.mono (by decide)) rfl (pa_cons (pe_fld (pv 0) rfl) pa_nil)) (pa_cons (pv 1) pa_nil))))
      (pss_one (ps_ret (pe_go G_with_lines (hr.mono (by decide)) rfl (pa_cons (pv 0) (pa_cons (pv 3) (pa_cons (pe_lst (pa_cons (pe_joined (PJ.cons pe_str (PJ.cons (pe_fmt (pv 1)) (PJ.cons pe_str (PJ.cons (pe_fmt (pe_go G_fraction_text (hr.mono (by decide)) rfl (pa_cons (pv 2) pa_nil))) PJ.nil))))) pa_nil)) pa_nil))))))))), ?_⟩
    refine ⟨_, rfl, _, rfl, v, z, o, d, rfl, hc, ok, hz, fun H1 s1 hin => ?_, fun H1 s1 hin => kN H1 s1 hin⟩
    obtain ⟨x, hx, rfl⟩ := isIn_true hin
    obtain rfl := hz.str_at
    obtain ⟨j, e, hj, ex⟩ := name_at hx
    have nx : Name x := ex ▸ (ok.src e (List.mem_of_getElem? hj)).1
    refine ⟨_, rfl, u, e0, rfl, hu.same s1, fun H2 s2 => ⟨isFr e0, rfl, ?_⟩⟩
    cases hs : isFr e0 with
    | false => exact iteT ⟨_, rfl, kB H2 (s1.trans s2) hin hs⟩
    | true =>
    refine iteF ?_
    obtain ⟨a, b, rfl, hb, hg⟩ := fr_is hs
    obtain ⟨t, rfl, ht⟩ := hu.two
    obtain ⟨fa, fb⟩ := fewD a b rfl
    have few : Few18 (a, b) := ⟨fa, fb⟩
    have big : ∀ n : Nat, n < 10 ^ 18 → n < 2 ^ 1000 := fun n h => Nat.lt_of_lt_of_le h (by decide +kernel)
    have hf : FrOk (a, b) := ⟨hb, hg, big _ fa, big _ fb⟩
    have k : ∀ v' H', Same H H' → CircN K C H' v' (o.setSource x (a, b)) → Q v' H' := fun v' H' s _ => k0 v' H' s hin hs
    replace s1 := s1.trans s2
    clear s2
    obtain ⟨fr, efr⟩ : ∃ fr, fr = (a, b) := ⟨_, rfl⟩
    rw [← efr] at hf few k
    have ht : SqT K H t [.int fr.1, .int fr.2] := by rw [efr]; exact ht
    
    have hc1 := hc.same s1
    obtain ⟨c, dx, fs, ts, us, rfl, a1, a2, a3, a4⟩ := hc1.src
    refine ⟨_, rfl, c, C, dx, fs, _, rfl, a1, Z.cl, Z.nS, a2, ts, us, o.sources.map (·.1), rfl, a3, heads a4 fun v c h => HeadAt.ent h, by rw [List.length_map]; have := ok.s_few; omega, fun l H2 s2 _ hl => ?_⟩
    obtain ⟨q1, q2⟩ := first_nm ok.s_once hj ex
    refine ⟨.inl ⟨rfl, _, SqL.of hl⟩, _, rfl, l, _, _, j, _, rfl, rfl, SqL.of hl, rfl, strs_flat _, q1, by show (x == x) = true; simp, q2, _, _, rfl, rfl, ?_⟩
    have lf := frac_len hf.2.2.1 hf.2.2.2
    have lx := nx.2.1
    have z1 : (Str.empty ++ ("source " : Str)).length = 7 := by rw [emp_app]; exact src_len
    refine ⟨_, rfl, _, rfl, ⟨_, rfl, ?_, _, rfl, .inl ⟨_, rfl, Nat.le_trans lx (by decide), _, rfl, ?_, _, rfl, ?_, _, rfl, t, fr, rfl, SqT.same (s1.trans s2) ht, few, fun H3 s3 => .inl ⟨_, rfl, Nat.le_trans lf (by decide), _, rfl, ?_, ?_⟩⟩⟩⟩
    · show _ ≤ 16777216
      omega
    · rw [len_app]
      show _ ≤ 16777216
      omega
    · rw [len_app, len_app, sp_len]
      show _ ≤ 16777216
      omega
    · rw [len_app, len_app, len_app, sp_len]
      show _ ≤ 16777216
      omega
    rw [src_line]
    refine ⟨by show 1 ≤ sizeLine; decide, fun b nb => ?_⟩
    have s4 := same_upd (o := .lst [V.str (entLine "source " (x, fr))]) nb
    have ep : (1 : Int) + ((j : Nat) : Int) = ((1 + j : Nat) : Int) := by omega
    have lr := (List.getElem?_eq_some_iff.mp hj).1
    refine ⟨.ref c, o, o.setSource x fr, 1 + j, b, [entLine "source " (x, fr)], (by show [V.ref c, V.int ((1 : Int) + ((j : Nat) : Int)), V.ref b] = _; rw [ep]), hc.same (s1.trans (s2.trans (s3.trans s4))), ok, setSource_ok ok hf, upd_same, ?_, by show 1 ≤ 100; decide, rows_source ok hj ex, fun v' H' s' hc' => k v' H' (s1.trans (s2.trans (s3.trans (s4.trans s')))) hc'⟩
    unfold rowsOf
    rw [List.length_cons, List.length_append, List.length_append, List.length_map, List.length_map]
    omega
end
end Ct

/-! What displays of literals give, beside a pot. -/
namespace Ct
open PySem PySem.Spec PyProof.Rows L2 TL
/-- only new objects are there behind -/
structure Grown (p : Addr) (G H G' H' : Hp) : Prop where
  sub : Same G G'
  bes : Beside p G' H'
  ext : Same H H'
  new : ∀ b o, G' b = some o → G b = some o ∨ H b = none
theorem Beside.gone {p q : Addr} {G H : Hp} (b : Beside p G H) (nq : H q = none) : G q = none := by
  cases e : G q with
  | none => rfl
  | some o => rw [b.sub q o e] at nq; cases nq
theorem Beside.aside {p q : Addr} {G H : Hp} {o : HO} (b : Beside p G H) (nq : H q = none) : Beside p G (upd H q o) := ⟨b.out, b.sub.trans (same_upd nq)⟩
theorem none_back {H H' : Hp} (s : Same H H') {b : Addr} (n : H' b = none) : H b = none := by
  cases e : H b with
  | none => rfl
  | some o => rw [s _ _ e] at n; cases n
theorem Grown.refl {p : Addr} {G H : Hp} (b : Beside p G H) : Grown p G H G H := ⟨Same.refl _, b, Same.refl _, fun _ _ e => .inl e⟩
theorem Grown.trans {p : Addr} {G H G1 H1 G2 H2 : Hp} (a : Grown p G H G1 H1) (b : Grown p G1 H1 G2 H2) : Grown p G H G2 H2 := ⟨a.sub.trans b.sub, b.bes, a.ext.trans b.ext, fun x o e => (b.new x o e).elim (a.new x o) fun n => .inr (none_back a.ext n)⟩
theorem Grown.here {p : Addr} {G H G' H' : Hp} (g : Grown p G H G' H') (hp : H p ≠ none) : H' p ≠ none := fun z => hp (none_back g.ext z)
theorem Grown.put {p q : Addr} {G H G1 H1 : Hp} (g : Grown p G H G1 H1) (hp : H p ≠ none) (nq : H1 q = none) (o : HO) : Grown p G H (upd G1 q o) (upd H1 q o) :=
  ⟨g.sub.trans (same_upd (g.bes.gone nq)), (g.bes.new (g.here hp) nq).1, g.ext.trans (same_upd nq), fun x u e => by
    by_cases z : x = q
    · exact .inr (z ▸ none_back g.ext nq)
    · rw [upd_ne z] at e
      exact g.new x u e⟩
/-- a place that was taken is not among what is new -/
theorem Grown.none {p q : Addr} {G H G' H' : Hp} {o : HO} (g : Grown p G H G' H') (n : G q = none) (e : H q = some o) : G' q = none := by
  cases z : G' q with
  | none => rfl
  | some u =>
    rcases g.new q u z with h | h
    · rw [n] at h; cases h
    · rw [e] at h; cases h
def GivesA1 (K : PySem.W.Frag) (p : Addr) (σ : L2.St) (G0 : Hp) (t : TE) (d : PyData) : Prop := ∀ (G H : Hp) (Q : VK), Same G0 G → Beside p G H → H p ≠ none → (∀ v G' H', Grown p G H G' H' → AnyV K G' v d → Q v H') → t σ H Q
def GivesAs (K : PySem.W.Frag) (p : Addr) (σ : L2.St) (G0 : Hp) (t : TA) (ds : List PyData) : Prop := ∀ (G H : Hp) (Q : List V → Hp → Prop), Same G0 G → Beside p G H → H p ≠ none → (∀ vs G' H', Grown p G H G' H' → AnyAll K G' vs ds → Q vs H') → t σ H Q
section
variable {K : PySem.W.Frag} {p : Addr} {σ : L2.St} {G0 : Hp}
theorem ga_c {v : V} {d : PyData} (h : ∀ G, AnyV K G v d) : GivesA1 K p σ G0 (tC v) d := fun G H Q _ b _ k => k v G H (.refl b) (h G)
theorem ga_non : GivesA1 K p σ G0 (tC .non) .none := ga_c fun _ => .non
theorem ga_bl {b : Bool} : GivesA1 K p σ G0 (tC (.bl b)) (.bool b) := ga_c fun _ => .bl b
theorem ga_int {i : Int} : GivesA1 K p σ G0 (tC (.int i)) (.int i) := ga_c fun _ => .int i
theorem ga_str {x : Str} : GivesA1 K p σ G0 (tC (.str x)) (.str x) := ga_c fun _ => .str x
theorem ga_var {i : Nat} {v : V} {d : PyData} (e : σ[i]? = some (some v)) (h : AnyV K G0 v d) : GivesA1 K p σ G0 (tVar i) d := fun G H Q s b _ k => ⟨v, e, k v G H (.refl b) (h.same s)⟩
theorem ga_neg {i : Int} {t : TE} (h : GivesA1 K p σ G0 t (.int i)) : GivesA1 K p σ G0 (tUn (rU fun i => .int (-i)) t) (.int (-i)) := fun G H Q s b hp k => h G H _ s b hp fun v G1 H1 g hv => ⟨i, hv.int_at, k _ G1 H1 g (.int _)⟩
theorem ga_op {i j : Int} {g : Int → Int → Int} {t u : TE} (h : GivesA1 K p σ G0 t (.int i)) (h2 : GivesA1 K p σ G0 u (.int j)) : GivesA1 K p σ G0 (tOp (rI0 fun a b => .int (g a b)) t u) (.int (g i j)) := fun G H Q s b hp k =>
  h G H _ s b hp fun v G1 H1 g1 hv => h2 G1 H1 _ (s.trans g1.sub) g1.bes (g1.here hp) fun w G2 H2 g2 hw => ⟨i, j, hv.int_at, hw.int_at, k _ G2 H2 (g1.trans g2) (.int _)⟩
theorem ga_opC {i j : Int} {C : Int → Int → Prop} {g : Int → Int → Int} {t u : TE} (c : C i j) (h : GivesA1 K p σ G0 t (.int i)) (h2 : GivesA1 K p σ G0 u (.int j)) : GivesA1 K p σ G0 (tOp (rI C fun a b => .int (g a b)) t u) (.int (g i j)) := fun G H Q s b hp k =>
  h G H _ s b hp fun v G1 H1 g1 hv => h2 G1 H1 _ (s.trans g1.sub) g1.bes (g1.here hp) fun w G2 H2 g2 hw => ⟨i, j, hv.int_at, hw.int_at, c, k _ G2 H2 (g1.trans g2) (.int _)⟩
theorem gas_nil : GivesAs K p σ G0 tNil [] := fun G H Q _ b _ k => k [] G H (.refl b) .nil
theorem gas_cons {t : TE} {ts : TA} {d : PyData} {ds : List PyData} (h : GivesA1 K p σ G0 t d) (hs : GivesAs K p σ G0 ts ds) : GivesAs K p σ G0 (tCons t ts) (d :: ds) := fun G H Q s b hp k =>
  h G H _ s b hp fun v G1 H1 g1 hv => hs G1 H1 _ (s.trans g1.sub) g1.bes (g1.here hp) fun vs G2 H2 g2 hvs => k _ G2 H2 (g1.trans g2) (.cons (hv.same g2.sub) hvs)
theorem ga_tup {ts : TA} {ds : List PyData} (h : GivesAs K p σ G0 ts ds) (few : ds.length ≤ sizeLine) : GivesA1 K p σ G0 (tTup ts) (.tuple ds) := fun G H Q s b hp k =>
  h G H _ s b hp fun vs G1 H1 g1 hv => ⟨by rw [hv.length]; exact few, fun q nq => k _ _ _ (g1.put hp nq _) (.tup (SqT.of upd_same) (hv.same (same_upd (g1.bes.gone nq))))⟩
theorem ga_lst {ts : TA} {ds : List PyData} (h : GivesAs K p σ G0 ts ds) (few : ds.length ≤ sizeLine) : GivesA1 K p σ G0 (tLst ts) (.list ds) := fun G H Q s b hp k =>
  h G H _ s b hp fun vs G1 H1 g1 hv => ⟨by rw [hv.length]; exact few, fun q nq => k _ _ _ (g1.put hp nq _) (.lst (SqL.of upd_same) (hv.same (same_upd (g1.bes.gone nq))))⟩
theorem ga_dict0 : GivesA1 K p σ G0 tDNewK (.dict []) := fun G H Q s b hp k q nq => k _ _ _ ((Grown.refl b).put hp nq _) (.dct (ds := []) upd_same .nil)
/-- {'a': 1} -/
theorem ga_dict1 {x : Str} {i : Int} : GivesA1 K p σ G0 (tDisp [(tC (.str x), tC (.int i))]) (.dict [(.str x, .int i)]) := fun G H Q s b hp k q nq => by
  refine ⟨upd_same, [(.inr x, .int i)], rfl, by show 1 ≤ 15; decide, ?_⟩
  have e : upd (upd H q (.dK [])) q (.dK (mergeK [] [((.inr x : Key), V.int i)])) = upd H q (.dK [((.inr x : Key), V.int i)]) := by
    funext y
    by_cases z : y = q
    · rw [z, upd_same, upd_same]
      rfl
    · rw [upd_ne z, upd_ne z, upd_ne z]
  rw [e]
  exact k _ _ _ ((Grown.refl b).put hp nq _) (.dct (ds := [.int i]) upd_same (.cons (.int i) .nil))
end
theorem AnyAll.append {K : PySem.W.Frag} {H : Hp} : ∀ {xs ys : List V} {ds es : List PyData}, AnyAll K H xs ds → AnyAll K H ys es → AnyAll K H (xs ++ ys) (ds ++ es)
  | _, _, _, _, .nil, h => h
  | _, _, _, _, .cons r t, h => .cons r (t.append h)
theorem AnyAll.at_ {K : PySem.W.Frag} {H : Hp} : ∀ {xs : List V} {ds : List PyData} {i : Nat} {v : V}, AnyAll K H xs ds → xs[i]? = some v → ∃ d, ds[i]? = some d ∧ AnyV K H v d
  | _, _, 0, _, .cons r _, e => by cases e; exact ⟨_, rfl, r⟩
  | _, _, i + 1, _, .cons _ t, e => by
    obtain ⟨d, e2, h⟩ := AnyAll.at_ (i := i) t e
    exact ⟨d, e2, h⟩
/-- some = [..]; some = some + [..]: what the statement leaves -/
theorem row_new {K : PySem.W.Frag} {p : Addr} {σ : L2.St} {G H : Hp} {Q : VK} {ts : TA} {ds : List PyData} (h : GivesAs K p σ G ts ds) (b : Beside p G H) (hp : H p ≠ none) (few : ds.length ≤ sizeLine)
    (k : ∀ a vs G1 H1, Grown p G H G1 H1 → H a = none → G1 a = none → H1 a = some (.lst vs) → AnyAll K G1 vs ds → Q (.ref a) H1) : tLst ts σ H Q :=
  h G H _ (Same.refl _) b hp fun vs G1 H1 g hv => ⟨by rw [hv.length]; exact few, fun a na => k a vs G1 _ ⟨g.sub, g.bes.aside na, g.ext.trans (same_upd na), g.new⟩ (none_back g.ext na) (g.bes.gone na) upd_same hv⟩
theorem row_more {K : PySem.W.Frag} {p a : Addr} {σ : L2.St} {G H : Hp} {Q : VK} {ts : TA} {vs : List V} {ds es : List PyData} {i : Nat} (hi : σ[i]? = some (some (.ref a))) (h : GivesAs K p σ G ts es) (b : Beside p G H) (hp : H p ≠ none) (n : G a = none) (ha : H a = some (.lst vs)) (hv : AnyAll K G vs ds)
    (few : ds.length + es.length ≤ sizeLine) (k : ∀ a vs G1 H1, Grown p G H G1 H1 → H a = none → G1 a = none → H1 a = some (.lst vs) → AnyAll K G1 vs (ds ++ es) → Q (.ref a) H1) : tOp rCat (tVar i) (tLst ts) σ H Q :=
  ⟨_, hi, h G H _ (Same.refl _) b hp fun ws G1 H1 g hw => ⟨by rw [hw.length]; exact Nat.le_trans (Nat.le_add_left _ _) few, fun c nc => by
    have s1 := same_upd (o := .lst ws) nc
    refine ⟨a, c, vs, ws, rfl, rfl, s1 _ _ (g.ext _ _ ha), upd_same, by rw [hv.length, hw.length]; exact few, fun e ne => ?_⟩
    have s2 := same_upd (o := .lst (vs ++ ws)) ne
    exact k e _ G1 _ ⟨g.sub, ⟨g.bes.out, g.bes.sub.trans (s1.trans s2)⟩, g.ext.trans (s1.trans s2), g.new⟩ (none_back g.ext (none_back s1 ne)) (g.bes.gone (none_back s1 ne)) upd_same ((hv.same g.sub).append hw)⟩⟩
/-- some.extend([..]) -/
theorem row_ext {K : PySem.W.Frag} {p a : Addr} {σ : L2.St} {G H : Hp} {Q : VK} {ts : TA} {vs : List V} {ds es : List PyData} {i : Nat} (hi : σ[i]? = some (some (.ref a))) (h : GivesAs K p σ G ts es) (b : Beside p G H) (hp : H p ≠ none) (n : G a = none) (ha : H a = some (.lst vs)) (hv : AnyAll K G vs ds) (ap : a ≠ p)
    (few : ds.length + es.length ≤ sizeLine) (k : ∀ vs G1 H1, Same G G1 → Beside p G1 H1 → (∀ b o, b ≠ a → H b = some o → H1 b = some o) → (∀ b o, G1 b = some o → b = a ∨ G b = some o ∨ H b = none) → SqL K G1 a vs → AnyAll K G1 vs (ds ++ es) → Q .non H1) : tBM K "list" rExtend (tVar i) (tCons (tLst ts) tNil) σ H Q :=
  ⟨_, hi, .inl ⟨rfl, _, SqL.of ha⟩, h G H _ (Same.refl _) b hp fun ws G1 H1 g hw => ⟨by rw [hw.length]; exact Nat.le_trans (Nat.le_add_left _ _) few, fun c nc => by
    have s1 := same_upd (o := .lst ws) nc
    have na : G1 a = none := g.none n ha
    have a1 : upd H1 c (.lst ws) a = some (.lst vs) := s1 _ _ (g.ext _ _ ha)
    refine ⟨a, c, vs, ws, rfl, rfl, a1, upd_same, by rw [hv.length, hw.length]; exact few, ?_⟩
    have sg := same_upd (o := .lst (vs ++ ws)) na
    refine k _ (upd G1 a (.lst (vs ++ ws))) _ (g.sub.trans sg) ⟨by rw [upd_ne fun z => ap z.symm]; exact g.bes.out, fun x o e => ?_⟩ (fun x o n e => ?_) (fun x o e => ?_) (SqL.of upd_same) (((hv.same g.sub).append hw).same sg)
    · by_cases z : x = a
      · rw [z, upd_same] at e ⊢
        exact e
      · rw [upd_ne z] at e ⊢
        exact s1 _ _ (g.bes.sub _ _ e)
    · rw [upd_ne n]
      exact s1 _ _ (g.ext _ _ e)
    · by_cases z : x = a
      · exact .inl z
      · rw [upd_ne z] at e
        exact .inr (g.new x o e)⟩⟩
end Ct

/-! What is due: the first check that does not pass. -/
namespace Ct
open PySem PySem.Spec PyProof.Rows L2 TL
abbrev s_l_due : Stmt := top 65
abbrev N_l_due : List Str := ["names", "name", "is_right", "number", "words"]
theorem sc_l_due : FnScope N_l_due ["names", "name", "is_right", "number", "words"] (defScope s_l_due) := ⟨rfl, rfl, rfl, by decide +kernel, rfl, by decide +kernel, by decide +kernel⟩
theorem isIn_str {d : PyData} {ns : List Str} (h : isStr d = false) : isIn d ns = false := by
  cases e : isIn d ns with
  | false => rfl
  | true =>
    obtain ⟨x, _, rfl⟩ := isIn_true e
    cases h
def spDue (K : PySem.W.Frag) : Sp := fun vs H Q _ => ∃ (la wa : Addr) (z u : V) (d : PyData) (r : Bool) (ns : List Str) (w0 w1 : Str), vs = [.ref la, z, .bl r, u, .ref wa] ∧ AnyV K H z d ∧ SqL K H la (ns.map V.str) ∧ SqT K H wa [.str w0, .str w1] ∧
  (isIn d ns = false → ∀ q H', H q = none → Same H H' → H' q = some (.tup [.str w0, z]) → Q (.ref q) H') ∧ (isIn d ns = true → r = true → ∀ q H', H q = none → Same H H' → H' q = some (.tup [.str "", .non]) → Q (.ref q) H') ∧
  (isIn d ns = true → r = false → ∀ q H', H q = none → Same H H' → H' q = some (.tup [.str w1, u]) → Q (.ref q) H')
section
variable {P : Program} {w : World} {K : PySem.W.Frag} {mg : Str → Option Value} {base : Heap}
theorem k_due (D : Lies K mg "_law_due" s_l_due) (T : Plain mg) : Keeps P w K mg base 1 "_law_due" ["names", "name", "is_right", "number", "words"] (spDue K) := by
  refine D.keeps sc_l_due (fun _ _ _ _ _ _ us hl => match us, hl with | [_, _, _, _, _], _ => rfl) (fun vs H Q E h => ?_) (fun f cdv A outer s H vs Q E hr h => ?_)
  · obtain ⟨la, wa, z, u, d, r, ns, w0, w1, rfl, _⟩ := h
    rfl
  · obtain ⟨la, wa, z, u, d, r, ns, w0, w1, rfl, hz, hl, hw, k0, k1, k2⟩ := h
    refine ⟨_, (pss_cons (ps_if (PW.pt (pw_or (pt_not (pt_val (pe_callB call_isi (by rfl) T.n_isinstance b_isinstance (pa_cons (pv 1) (pa_cons (pe_bltn (v := .ty "str") (by rfl) T.n_str b_str rfl) pa_nil))))) (pw_or1 (pt_cmpR (op_notInA (hu65e hr) rfl) (pv 1) (pv 0) (by rfl)))))
        (pss_one (ps_ret (pe_tup (pa_cons (pe_ix ix_tup (pv 4) pe_int (fun _ _ => rfl)) (pa_cons (pv 1) pa_nil)))))
        pss_nil)
      (pss_one (ps_ret (pe_ifExp (pt_val (pv 2)) (pe_tup (pa_cons pe_str (pa_cons pe_non pa_nil))) (pe_tup (pa_cons (pe_ix ix_tup (pv 4) pe_int (fun _ _ => rfl)) (pa_cons (pv 3) pa_nil))))))), ?_⟩
    refine into_if (into_or (into_not ?_))
    refine ⟨_, rfl, _, _, _, _, _, rfl, .ty _, hz.ty, kit_str d, _, rfl, ?_⟩
    have nay : isIn d ns = false → ∀ t : TS, (tRet (tTup (tCons (tOp (rIxT K) (tVar 4) (tC (V.int 0))) (tCons (tVar 1) tNil)))) { nx := fun _ H' => Q .non H', rt := Q } (L2.start N_l_due [.ref la, z, .bl r, u, .ref wa]) H := fun e _ =>
      ⟨_, rfl, wa, _, _, _, rfl, rfl, hw, rfl, _, rfl, by show 2 ≤ 16777216; decide, fun q nq => k0 e q _ nq (same_upd nq) upd_same⟩
    cases es : isStr d with
    | false => exact iteT (iteT (nay (isIn_str es) tNext))
    | true =>
      refine iteF ?_
      refine ⟨_, rfl, _, rfl, d, la, ns, hz, rfl, hl, !isIn d ns, rfl, ?_⟩
      cases ei : isIn d ns with
      | false => exact iteT (nay ei tNext)
      | true =>
        refine iteF (into_next ?_)
        dsimp only
        cases r with
        | true => exact ⟨_, rfl, true, rfl, iteT ⟨by show 2 ≤ 16777216; decide, fun q nq => k1 ei rfl q _ nq (same_upd nq) upd_same⟩⟩
        | false => exact ⟨_, rfl, false, rfl, iteF ⟨_, rfl, wa, _, _, _, rfl, rfl, hw, rfl, _, rfl, by show 2 ≤ 16777216; decide, fun q nq => k2 ei rfl q _ nq (same_upd nq) upd_same⟩⟩
end
end Ct

/-! [word for word in marks if marks[word]]: the marks that are set. -/
namespace Ct
open PySem PySem.Spec PyProof.Rows L2 TL
def markK (kl : List (Str × Bool)) : List (Key × V) := kl.map fun e => ((.inr e.1 : Key), V.bl e.2)
theorem mark_val : ∀ {kl : List (Str × Bool)} {i : Nat} {e : Str × Bool}, (kl.map (·.1)).Nodup → kl[i]? = some e → valV (markK kl) (.inr e.1) = some (.bl e.2)
  | f :: r, 0, e, _, h => by
    cases h
    exact valV_pos rfl
  | f :: r, i + 1, e, nd, h => by
    rw [List.map_cons, List.nodup_cons] at nd
    have h : r[i]? = some e := h
    have ne : f.1 ≠ e.1 := fun z => nd.1 (z ▸ List.mem_map_of_mem (f := (·.1)) (List.mem_of_getElem? h))
    show valV (((.inr f.1 : Key), V.bl f.2) :: markK r) (.inr e.1) = _
    rw [valV_neg fun z => ne (Sum.inr.inj z)]
    exact mark_val nd.2 h
theorem lc_marks {K : PySem.W.Frag} {p : Addr} {od : Obj} {kl : List (Str × Bool)} {σ : L2.St} {HF : Hp} {Q : VK} (hf : HF p = some (.frz od (.dK (markK kl)))) (once : (kl.map (·.1)).Nodup) (few : kl.length ≤ 100) (h4 : σ[4]? = some (some (.ref p))) (h4' : ∀ x, ((wipe σ [5]).set 5 (some x))[4]? = some (some (.ref p))) (h5 : ∀ x, ((wipe σ [5]).set 5 (some x))[5]? = some (some x)) (hw : ∀ x, wipe ((wipe σ [5]).set 5 (some x)) [5] = wipe σ [5])
    (h : ∀ D H', HF D = none → Same HF H' → H' D = some (.lst ((kl.filter (·.2)).map fun e => V.str e.1)) → Q (.ref D) H') :
    tLc (iKeys (tVar 4)) (gName 5) (fun σ H Q => tDGet (tVar 4) (tVar 5) σ H fun x H' => ∃ k, TruV K x H' k ∧ Q k H') (tVar 5) [5] σ HF Q := by
  refine ⟨.ref p, h4, p, od, rfl, .inl ⟨_, hf, fun D hD => lc_it (g := gName 5) (tt := fun σ H Q => tDGet (tVar 4) (tVar 5) σ H fun x H' => ∃ k, TruV K x H' k ∧ Q k H') (te := tVar 5) (vs := [5]) (σ := σ) (Qd := fun H => Q (.ref D) H) walk_keys (fun i H' => H' D = some (.lst (((kl.take i).filter (·.2)).map fun e => V.str e.1)) ∧ Same HF H') ⟨upd_same, same_upd hD⟩ (fun i H' _ ⟨_, s⟩ => s _ _ hf) ?_ ?_⟩⟩
  · rintro i x H' H'' hi ⟨hD', s⟩ ⟨rfl, k, v, hk, rfl⟩
    have hi : i < kl.length := by unfold markK at hi; rw [List.length_map] at hi; exact hi
    have ek := hk
    unfold markK at ek
    rw [List.getElem?_map, List.getElem?_eq_getElem hi] at ek
    have ek := Option.some.inj ek
    have e1 : (Sum.inr (kl[i]).1 : Key) = k := congrArg Prod.fst ek
    subst e1
    have get : kl[i]? = some kl[i] := List.getElem?_eq_getElem hi
    have val := mark_val once get
    refine ⟨hw _, .ref p, h4' _, kV (.inr (kl[i]).1), h5 _, p, .bl (kl[i]).2, rfl, .inl ⟨markK kl, .inr (kl[i]).1, .inr ⟨od, s _ _ hf⟩, rfl, val.symm⟩, (kl[i]).2, rfl, ?_⟩
    have tk : kl.take (i + 1) = kl.take i ++ [kl[i]] := take_snoc get
    cases eb : (kl[i]).2 with
    | true =>
      refine iteT ⟨kV (.inr (kl[i]).1), h5 _, _, hD', ?_, ?_, fun b o z => ?_⟩
      · rw [List.length_map]
        have := List.length_filter_le (fun e : Str × Bool => e.2) (kl.take i)
        have l2 : (kl.take i).length ≤ kl.length := by rw [List.length_take]; omega
        show _ < 16777216
        omega
      · rw [tk, List.filter_append, List.map_append, show List.filter (fun e : Str × Bool => e.2) [kl[i]] = [kl[i]] by simp [eb]]
        exact upd_same
      · rw [upd_ne (ne_of_none z hD)]
        exact s _ _ z
    | false =>
      refine iteF ⟨?_, s⟩
      rw [tk, List.filter_append, show List.filter (fun e : Str × Bool => e.2) [kl[i]] = [] by simp [eb], List.append_nil]
      exact hD'
  · rintro H' ⟨hD', s⟩
    have el : (markK kl).length = kl.length := by unfold markK; rw [List.length_map]
    rw [el, List.take_length] at hD'
    exact h D H' hD s hD'
end Ct

/-! Which error is raised, and with which value. -/
namespace Ct
open PySem PySem.Spec PyProof.Rows L2 TL
abbrev s_l_is_raised : Stmt := top 64
abbrev N_l_is_raised : List Str := ["call", "kind", "value", "caught", "marks", "word"]
theorem sc_l_is_raised : FnScope N_l_is_raised ["call", "kind", "value"] (defScope s_l_is_raised) := ⟨rfl, rfl, rfl, by decide +kernel, rfl, by decide +kernel, by decide +kernel⟩
def TTRaised (K : PySem.W.Frag) (mk : List (Str × Addr)) : TL1 := fun tl lf vs H Q => ∃ (kind : Str) (z : V) (d : PyData), vs = [.ref lf, .str kind, z] ∧ AnyV K H z d ∧ showB d = true ∧ ∀ H0, Same H H0 →
  tl (fun cls dd H' => ∃ C dx : Addr, (kind, C) ∈ mk ∧ cls = .ref C ∧ dd = some dx ∧ H' dx = some (.xd [("value", z)]) ∧ AnyV K H' z d ∧ ∀ H'', Same H' H'' → Q (.bl true) H'') H0 (fun _ H' => kind = "" ∧ ∀ H'', Same H' H'' → Q (.bl true) H'')
/-- the kinds of errors are told apart -/
def kindsB (K : PySem.W.Frag) (cs : List Addr) : Bool := decide cs.Nodup && cs.all fun c => decide (PySem.W.kitOne K (.type "NoneType") (.ref c) = some false) && cs.all fun e => decide (PySem.W.kitOne K (.ref c) (.ref e) = some (decide (c = e)))
abbrev restT (K : PySem.W.Frag) (CNP CBS CNS CBV : Addr) : TS :=
  tSeq (tAsg (tDisp [(tC (V.str "part"), tCB (rIsErr K) (tCons (tVar 3) (tCons (tC (V.ref CNP)) tNil))), (tC (V.str "size"), tCB (rIsErr K) (tCons (tVar 3) (tCons (tC (V.ref CBS)) tNil))), (tC (V.str ""), tOp (fun x y H Q => y = V.non ∧ Q (V.bl (decide (x = V.non))) H) (tVar 3) (tC V.non))]) (gName 4))
  (tSeq (tDrop (tBM K "dict" rUpd (tVar 4) (tCons (tDisp [(tC (V.str "source"), tCB (rIsErr K) (tCons (tVar 3) (tCons (tC (V.ref CNS)) tNil))), (tC (V.str "voltage"), tCB (rIsErr K) (tCons (tVar 3) (tCons (tC (V.ref CBV)) tNil)))]) tNil)))
  (tRet (tAndV (tOp (rEqD K) (tLockE (tLc (iKeys (tVar 4)) (gName 5) (fun σ H Q => tDGet (tVar 4) (tVar 5) σ H fun x H' => ∃ k, TruV K x H' k ∧ Q k H') (tVar 5) [5])) (tLst (tCons (tVar 1) tNil)))
    (tOrV (tOp rEq (tVar 1) (tC (V.str ""))) (tOp rEq (tCB (fun xs H Q => ∃ z d, xs = [z] ∧ AnyV K H z d ∧ showB d = true ∧ Q (V.str d.shown) H) (tCons (tKept K "value" (tVar 3)) tNil)) (tCB (fun xs H Q => ∃ z d, xs = [z] ∧ AnyV K H z d ∧ showB d = true ∧ Q (V.str d.shown) H) (tCons (tVar 2) tNil)))))))
theorem strs_dp {K : PySem.W.Frag} {H : Hp} : ∀ xs : List Str, DpAll K H (xs.map V.str) (xs.map PyData.str)
  | [] => .nil
  | x :: r => .cons (.str x) (strs_dp r)
theorem one_shaped {x : Str} (h : PyData.strOk x = true) : SeqAt.shaped (.list [PyData.str x]) = true := by
  show (PyData.canLay0 _ && decide (PyData.depth _ ≤ 64)) = true
  simp [PyData.canLay0, PyData.canLayAll0, PyData.depth, PyData.depthAll, h]
theorem rest_ok {K : PySem.W.Frag} {lf CNP CBS CNS CBV : Addr} {kind : Str} {z vc : V} {d : PyData} {b : Addr → Bool} {H : Hp} {Q : VK} (isE : ∀ C, C ∈ [CNP, CBS, CNS, CBV] → ∀ H1 Q1, Same H H1 → Q1 (.bl (b C)) H1 → rIsErr K [vc, .ref C] H1 Q1)
    (one : ([(("part" : Str), b CNP), ("size", b CBS), ("", decide (vc = .non)), ("source", b CNS), ("voltage", b CBV)].filter (·.2)).map (·.1) = [kind]) (ok : PyData.strOk kind = true) (hz : kind ≠ "" → AnyV K H z d) (sb : showB d = true)
    (val : kind ≠ "" → ∃ (a D dd : Addr) (fs : List (Str × V)), vc = .ref a ∧ H a = some (ErrO (.ref D) (some dd) a) ∧ H dd = some (.xd fs) ∧ XfC K D ∧ PySem.W.findIn K (.ref D) "value" = some none ∧ fs.lookup ("value" : Str) = some z) (k : ∀ H', Same H H' → Q (.bl true) H') :
    restT K CNP CBS CNS CBV { nx := fun _ H' => Q .non H', rt := Q } [some (.ref lf), some (.str kind), some z, some vc, none, none] H := by
  refine into_set fun p np => ?_
  have s1 := same_upd (o := .dK []) np
  refine ⟨vc, rfl, isE CNP (by simp) _ _ s1 ?_⟩
  refine ⟨vc, rfl, isE CBS (by simp) _ _ s1 ?_⟩
  refine ⟨vc, rfl, rfl, ?_⟩
  refine ⟨upd_same, markK [("part", b CNP), ("size", b CBS), ("", decide (vc = .non))], rfl, by show 3 ≤ 15; decide, ?_⟩
  have m1 : mergeK [] (markK [("part", b CNP), ("size", b CBS), ("", decide (vc = .non))]) = markK [("part", b CNP), ("size", b CBS), ("", decide (vc = .non))] := rfl
  rw [m1]
  have s2 : Same H (upd (upd H p (.dK [])) p (.dK (markK [("part", b CNP), ("size", b CBS), ("", decide (vc = .non))]))) := fun x o e => by
    rw [upd_ne (ne_of_none e np), upd_ne (ne_of_none e np)]
    exact e
  have h2 : upd (upd H p (.dK [])) p (.dK (markK [("part", b CNP), ("size", b CBS), ("", decide (vc = .non))])) p = some (.dK (markK [("part", b CNP), ("size", b CBS), ("", decide (vc = .non))])) := upd_same
  generalize upd (upd H p (.dK [])) p (.dK (markK [("part", b CNP), ("size", b CBS), ("", decide (vc = .non))])) = H2 at *
  refine into_name ?_
  refine into_drop ⟨.ref p, rfl, .inr (.inr (.inl ⟨rfl, .inl ⟨_, h2⟩⟩)), fun q nq => ?_⟩
  have s3 := same_upd (o := .dK []) nq
  have pq : p ≠ q := fun z => by rw [← z, h2] at nq; cases nq
  refine ⟨vc, rfl, isE CNS (by simp) _ _ (s2.trans s3) ?_⟩
  refine ⟨vc, rfl, isE CBV (by simp) _ _ (s2.trans s3) ?_⟩
  refine ⟨upd_same, markK [("source", b CNS), ("voltage", b CBV)], rfl, by show 2 ≤ 15; decide, ?_⟩
  refine ⟨p, q, markK [("part", b CNP), ("size", b CBS), ("", decide (vc = .non))], mergeK [] (markK [("source", b CNS), ("voltage", b CBV)]), rfl, rfl, ?_, upd_same, pq, by show 3 + 2 ≤ 1000000; decide, ?_⟩
  · rw [upd_ne pq, upd_ne pq]
    exact h2
  have m2 : mergeK (markK [("part", b CNP), ("size", b CBS), ("", decide (vc = .non))]) (mergeK [] (markK [("source", b CNS), ("voltage", b CBV)])) = markK [("part", b CNP), ("size", b CBS), ("", decide (vc = .non)), ("source", b CNS), ("voltage", b CBV)] := rfl
  rw [m2]
  generalize hkl : ([(("part" : Str), b CNP), ("size", b CBS), ("", decide (vc = .non)), ("source", b CNS), ("voltage", b CBV)] : List (Str × Bool)) = kl at *
  have once : (kl.map (·.1)).Nodup := by
    rw [← hkl]
    show ([("part" : Str), "size", "", "source", "voltage"] : List Str).Nodup
    decide +kernel
  have few : kl.length ≤ 100 := by rw [← hkl]; show 5 ≤ 100; decide
  have s5 : Same H (upd (upd (upd H2 q (.dK [])) q (.dK (mergeK [] (markK [("source", b CNS), ("voltage", b CBV)])))) p (.dK (markK kl))) := fun x o e => by
    have np' : x ≠ p := ne_of_none e np
    rw [upd_ne np']
    have nq' : x ≠ q := ne_of_none (s2 x o e) nq
    rw [upd_ne nq', upd_ne nq']
    exact s2 x o e
  have h5 : upd (upd (upd H2 q (.dK [])) q (.dK (mergeK [] (markK [("source", b CNS), ("voltage", b CBV)])))) p (.dK (markK kl)) p = some (.dK (markK kl)) := upd_same
  generalize upd (upd (upd H2 q (.dK [])) q (.dK (mergeK [] (markK [("source", b CNS), ("voltage", b CBV)])))) p (.dK (markK kl)) = H5 at *
  refine into_ret (into_andV ?_)
  refine ⟨p, _, h5, trivial, fun od => ?_⟩
  refine lc_marks (kl := kl) upd_same once few rfl (fun _ => rfl) (fun _ => rfl) (fun _ => rfl) fun D H6 nD s6 hD => ?_
  have dp' : D ≠ p := fun z => by rw [z, upd_same] at nD; cases nD
  have e6 : H6 p = some (.frz od (.dK (markK kl))) := s6 _ _ upd_same
  refine ⟨e6, ?_⟩
  have s7 : Same H5 (upd H6 p (.dK (markK kl))) := fun x o e => by
    by_cases zx : x = p
    · rw [zx, h5] at e
      cases e
      rw [zx]
      exact upd_same
    · rw [upd_ne zx]
      exact s6 _ _ ((upd_ne zx).trans e)
  have hD7 : upd H6 p (.dK (markK kl)) D = some (.lst ([kind].map V.str)) := by
    rw [upd_ne dp', hD, ← one, List.map_map]
    rfl
  generalize upd H6 p (.dK (markK kl)) = H7 at *
  refine ⟨_, rfl, by show 1 ≤ 16777216; decide, fun r nr => ?_⟩
  have s8 := same_upd (o := .lst [V.str kind]) nr
  have hr8 : upd H7 r (.lst [V.str kind]) r = some (.lst [V.str kind]) := upd_same
  generalize upd H7 r (.lst [V.str kind]) = H8 at *
  refine ⟨.list [.str kind], .list [.str kind], .lst (SqL.of (s8 _ _ hD7)) (strs_dp [kind]), .lst (SqL.of hr8) (strs_dp [kind]), one_shaped ok, one_shaped ok, true, ?_, ?_⟩
  · have e : PyData.eqv (.list [.str kind]) (.list [.str kind]) = true := by simp [PyData.eqv, PyData.eqvAll]
    rw [e]
  have s08 : Same H H8 := s5.trans (s7.trans s8)
  rw [if_pos rfl]
  refine ⟨_, rfl, rfl, ?_⟩
  by_cases ek : kind = ""
  · refine ⟨true, by rw [ek]; rfl, ?_⟩
    rw [if_pos rfl]
    exact k _ s08
  · refine ⟨false, congrArg V.bl (decide_eq_false fun q => ek (V.str.inj q)), ?_⟩
    rw [if_neg (fun q => nomatch q)]
    obtain ⟨a, DD, dd, fs, rfl, ha, hd, X, no, lk⟩ := val ek
    refine ⟨_, rfl, a, DD, dd, fs, z, rfl, s08 _ _ ha, s08 _ _ hd, X, no, lk, z, d, rfl, (hz ek).same s08, sb, ?_⟩
    refine ⟨z, rfl, z, d, rfl, (hz ek).same s08, sb, rfl, ?_⟩
    rw [decide_eq_true rfl]
    exact k _ s08
section
variable {P : Program} {w : World} {K : PySem.W.Frag} {mg : Str → Option Value} {base : Heap}
theorem k_is_raised {CE fIX CNP CBS CNS CBV : Addr} (hkinds : kindsB K [CNP, CBS, CNS, CBV] = true) (M_NoPart : ErrC K mg "NoPart" CNP CE fIX) (M_BadSize : ErrC K mg "BadSize" CBS CE fIX) (M_NoSource : ErrC K mg "NoSource" CNS CE fIX) (M_BadVoltage : ErrC K mg "BadVoltage" CBV CE fIX)
    (D : Lies K mg "_law_is_raised" s_l_is_raised) (T : Plain mg) (G_l_heard : GivesL P w K mg base false 11 12 "_law_heard" ["call"] (TTHeard K CE)) :
    GivesL P w K mg base true 11 13 "_law_is_raised" ["call", "kind", "value"] (TTRaised K [("part", CNP), ("size", CBS), ("source", CNS), ("voltage", CBV)]) := by
  refine D.givesL sc_l_is_raised (fun _ _ _ _ _ _ us hl => bindsL3 (fun _ _ _ => rfl) us hl) (fun tl lf vs H Q h => ?_) (fun f cdv A outer s0 H lf vs Q tl hgd0 hr L h => ?_)
  · obtain ⟨kind, z, d, rfl, _⟩ := h
    rfl
  · have hgd := hgd0 rfl
    obtain ⟨kind, z, d, rfl, hz, sb, h⟩ := h
    refine ⟨_, (pss_cons (ps_set (i := 3) sc_l_is_raised.nd rfl (Or.inl rfl) (pe_ix ix_tup (pe_goL G_l_heard L.clo rfl (fun h => nomatch h) (hr.mono (by decide)) rfl (pa_cons (pv 0) pa_nil)) pe_int (fun _ _ => rfl)))
      (pss_cons (ps_set (i := 4) sc_l_is_raised.nd rfl (Or.inr rfl) (pe_disp (pps_cons pe_str (pe_callB (call_isErr (K := K) rfl) (by rfl) T.n_isinstance b_isinstance (pa_cons (pv 3) (pa_cons (pe_glob (v := .ref CNP) rfl M_NoPart.at_ rfl) pa_nil))) (pps_cons pe_str (pe_callB (call_isErr (K := K) rfl) (by rfl) T.n_isinstance b_isinstance (pa_cons (pv 3) (pa_cons (pe_glob (v := .ref CBS) rfl M_BadSize.at_ rfl) pa_nil))) (pps_cons pe_str (pe_cmpR op_isN (pv 3) pe_non (nomark _)) pps_nil))) (by rfl) (by rfl) (fun z => by cases z) (by decide)))
      (pss_cons (ps_expr (pe_bm PySem.F.plainAttrs_dict PySem.F.slot_dict_update PySem.F.type_dict_update mt_update (pv 4) (pa_cons (pe_disp (pps_cons pe_str (pe_callB (call_isErr (K := K) rfl) (by rfl) T.n_isinstance b_isinstance (pa_cons (pv 3) (pa_cons (pe_glob (v := .ref CNS) rfl M_NoSource.at_ rfl) pa_nil))) (pps_cons pe_str (pe_callB (call_isErr (K := K) rfl) (by rfl) T.n_isinstance b_isinstance (pa_cons (pv 3) (pa_cons (pe_glob (v := .ref CBV) rfl M_BadVoltage.at_ rfl) pa_nil))) pps_nil)) (by rfl) (by rfl) (fun z => by cases z) (by decide)) pa_nil)))
      (pss_one (ps_ret (pe_and (pe_cmpR (op_eqD hr.units) (pe_lock (pe_lc (own := [("word", 5)]) (g := gName 5) (tt := _) rfl sc_l_is_raised.nd (pi_keys (pv 4)) (blkOk_by (N := N_l_is_raised) (sc := defScope s_l_is_raised) (by decide +kernel)) (fun _ _ _ _ _ => pg_name (i := 5) sc_l_is_raised.nd rfl (Or.inl rfl)) (fun _ _ _ _ _ => pts_one (pt_truthK (K := K) rfl (by exact (pe_dget (hu_of hr) (pv 4) (pv 5) (fun _ _ => rfl))) (by intro _; rfl))) (fun _ _ _ _ _ => by exact (pv 5)))) (pe_lst (pa_cons (pv 1) pa_nil)) (nomark _)) (pe_one (pe_or (pe_cmpR op_eq (pv 1) pe_str (nomark _)) (pe_one (pe_cmpR op_eq (pe_callB (call_reprA hgd (hr.mono (by decide)) (K := K) rfl) (by rfl) T.n_repr b_repr (pa_cons (pe_kept (pv 3)) pa_nil)) (pe_callB (call_reprA hgd (hr.mono (by decide)) (K := K) rfl) (by rfl) T.n_repr b_repr (pa_cons (pv 2) pa_nil)) (nomark _))))))))))), ?_⟩
    clear D G_l_heard
    refine into_set ⟨_, rfl, rfl, fun H0 s0' => ⟨_, _, h H0 s0', fun c dd H' he => ?_, fun v H' hq => ?_⟩⟩
    · obtain ⟨C, dx, hm, rfl, rfl, hx, ha, kk⟩ := he
      have hk := hkinds
      unfold kindsB at hk
      rw [Bool.and_eq_true] at hk
      have nd : [CNP, CBS, CNS, CBV].Nodup := of_decide_eq_true hk.1
      simp only [List.nodup_cons, List.mem_cons, List.not_mem_nil, or_false, not_or, not_false_eq_true, List.nodup_nil, and_true] at nd
      obtain ⟨⟨n12, n13, n14⟩, ⟨n23, n24⟩, n34⟩ := nd
      have ks : ∀ c ∈ [CNP, CBS, CNS, CBV], ∀ e ∈ [CNP, CBS, CNS, CBV], PySem.W.kitOne K (.ref c) (.ref e) = some (decide (c = e)) := fun c hc e he => by
        have q := List.all_eq_true.mp hk.2 c hc
        rw [Bool.and_eq_true] at q
        exact of_decide_eq_true (List.all_eq_true.mp q.2 e he)
      have fine : C ∈ [CNP, CBS, CNS, CBV] ∧ PySem.W.exmOne K (.ref C) (.ref CE) = some true ∧ ExcC K C ∧ XfC K C ∧ PySem.W.findIn K (.ref C) "value" = some none ∧ PyData.strOk kind = true ∧
          ([(("part" : Str), decide (C = CNP)), ("size", decide (C = CBS)), ("", false), ("source", decide (C = CNS)), ("voltage", decide (C = CBV))].filter (·.2)).map (·.1) = [kind] := by
        simp only [List.mem_cons, Prod.mk.injEq, List.not_mem_nil, or_false] at hm
        rcases hm with ⟨rfl, rfl⟩ | ⟨rfl, rfl⟩ | ⟨rfl, rfl⟩ | ⟨rfl, rfl⟩
        · exact ⟨by simp, M_NoPart.sub, M_NoPart.exc, M_NoPart.xf, M_NoPart.noV, by decide +kernel, by simp [n12, n13, n14]⟩
        · exact ⟨by simp, M_BadSize.sub, M_BadSize.exc, M_BadSize.xf, M_BadSize.noV, by decide +kernel, by simp [Ne.symm n12, n23, n24]⟩
        · exact ⟨by simp, M_NoSource.sub, M_NoSource.exc, M_NoSource.xf, M_NoSource.noV, by decide +kernel, by simp [Ne.symm n13, Ne.symm n23, n34]⟩
        · exact ⟨by simp, M_BadVoltage.sub, M_BadVoltage.exc, M_BadVoltage.xf, M_BadVoltage.noV, by decide +kernel, by simp [Ne.symm n14, Ne.symm n24, Ne.symm n34]⟩
      obtain ⟨inC, sub, exc, xf, noV, ok, one⟩ := fine
      refine ⟨sub, fun a p H'' s'' hA hp => ?_⟩
      refine ⟨p, _, 0, _, rfl, rfl, SqT.of hp, rfl, ?_⟩
      refine into_name ?_
      refine rest_ok (b := fun e => decide (C = e)) (fun e he H1 Q1 s1 q => .inl ⟨a, C, dx, _, .ref e, .ref e, decide (C = e), rfl, s1 _ _ hA, s1 _ _ (s'' _ _ hx), exc, .own e, ks C inC e he, q⟩) ?_ ok (fun _ => ha.same s'') sb (fun _ => ⟨a, C, dx, _, rfl, hA, s'' _ _ hx, xf, noV, rfl⟩) (fun H1 s1 => kk _ (s''.trans s1))
      have e0 : decide (V.ref a = V.non) = false := decide_eq_false (fun z => nomatch z)
      rw [e0]
      exact one
    · obtain ⟨ek, kk⟩ := hq
      subst ek
      refine fun p H'' s'' hp => ?_
      refine ⟨p, _, 0, _, rfl, rfl, SqT.of hp, rfl, ?_⟩
      refine into_name ?_
      have hk := hkinds
      unfold kindsB at hk
      rw [Bool.and_eq_true] at hk
      have ks : ∀ c ∈ [CNP, CBS, CNS, CBV], PySem.W.kitOne K (.type "NoneType") (.ref c) = some false := fun c hc => by
        have q := List.all_eq_true.mp hk.2 c hc
        rw [Bool.and_eq_true] at q
        exact of_decide_eq_true q.1
      refine rest_ok (d := d) (b := fun _ => false) (fun e he H1 Q1 s1 q => .inr ⟨.non, .ref e, .type "NoneType", .ref e, false, rfl, .own e, .base .non, ks e he, q⟩) ?_ (by decide +kernel) (fun z => absurd rfl z) sb (fun z => absurd rfl z) (fun H1 s1 => kk _ (s''.trans s1))
      rw [decide_eq_true rfl]
      rfl
end
end Ct

/-! Values of all kinds, drawn. -/
namespace Ct
open PySem PySem.Spec PyProof.Rows L2 TL
abbrev s_l_odd : Stmt := top 62
abbrev N_l_odd : List Str := ["pot", "some"]
theorem sc_l_odd : FnScope N_l_odd ["pot"] (defScope s_l_odd) := ⟨rfl, rfl, rfl, by decide +kernel, rfl, by decide +kernel, by decide +kernel⟩
def pD (a b : Int) : PyData := .tuple [.int a, .int b]
def oddD1 : List PyData := [.none, .bool true, .bool false, .int 0, .int 1, .int (-1), .int 7, .int 100000000, .str "", .str "a", .str "gnd", .str "kept", .str "circuit\npart a 1", .str "rest", .tuple [], .list []]
def oddD2 : List PyData := [.dict [], .tuple [.int 0], pD 0 1, pD 1 0, pD 1 1, pD 2 4, .tuple [.tuple []], .list [.int 0], .tuple [.none], .dict [(.str "a", .int 1)], .tuple [.bool true], .tuple [.str "kept"]]
def oddD3 : List PyData := [.tuple [pD 0 1, pD 0 1], .tuple [pD 1 1, pD 1 2], .list [pD 0 1, pD 0 1], .tuple [pD 0 1], .tuple [pD 2 4, pD 0 1]]
def oddD4 : List PyData := [pD (-1) 1, pD 1 (-1), .tuple [.int 0, .int 1, .int 1]]
def oddD : List PyData := oddD1 ++ oddD2 ++ oddD3 ++ oddD4
def spOdd (K : PySem.W.Frag) : Sp := fun vs H Q _ => ∃ (p : Addr) (G : Hp) (n : Nat), vs = [.ref p] ∧ Beside p G H ∧ PotAt p H n ∧ n + 1 ≤ 1000000 ∧
  ∀ (v : V) (d : PyData) (Gn G' H' : Hp), Same G G' → Beside p G' H' → PotAt p H' (n + 1) → Same Gn G' → (∀ b o, Gn b = some o → H b = none) → AnyV K Gn v d → d ∈ oddD → Q v H'
section
variable {P : Program} {w : World} {K : PySem.W.Frag} {mg : Str → Option Value} {base : Heap}
theorem k_odd (D : Lies K mg "_law_odd" s_l_odd) (T : Plain mg) (G_l_of : Keeps P w K mg base 2 "_law_of" ["pot", "some"] (spOf K)) : Keeps P w K mg base 3 "_law_odd" ["pot"] (spOdd K) := by
  refine D.keeps sc_l_odd (fun _ _ _ _ _ _ us hl => match us, hl with | [_], _ => rfl) (fun vs H Q E h => ?_) (fun f cdv A outer s H vs Q E hr h => ?_)
  · obtain ⟨p, G, n, rfl, _⟩ := h
    rfl
  · obtain ⟨p, G, n, rfl, bs, ht, hn, k⟩ := h
    refine ⟨_, (pss_cons (ps_set (i := 1) sc_l_odd.nd rfl (Or.inl rfl) (pe_lst (pa_cons pe_non (pa_cons pe_bl (pa_cons pe_bl (pa_cons pe_int (pa_cons pe_int (pa_cons (pe_un un_neg pe_int) (pa_cons pe_int (pa_cons (pe_op op_pow pe_int pe_int) (pa_cons pe_str (pa_cons pe_str (pa_cons pe_str (pa_cons pe_str (pa_cons pe_str (pa_cons pe_str (pa_cons (pe_tup pa_nil) (pa_cons (pe_lst pa_nil) pa_nil))))))))))))))))))
      (pss_cons (ps_set (i := 1) sc_l_odd.nd rfl (Or.inl rfl) (pe_op op_cat (pv 1) (pe_lst (pa_cons pe_dnewK (pa_cons (pe_tup (pa_cons pe_int pa_nil)) (pa_cons (pe_tup (pa_cons pe_int (pa_cons pe_int pa_nil))) (pa_cons (pe_tup (pa_cons pe_int (pa_cons pe_int pa_nil))) (pa_cons (pe_tup (pa_cons pe_int (pa_cons pe_int pa_nil))) (pa_cons (pe_tup (pa_cons pe_int (pa_cons pe_int pa_nil))) (pa_cons (pe_tup (pa_cons (pe_tup pa_nil) pa_nil)) (pa_cons (pe_lst (pa_cons pe_int pa_nil)) (pa_cons (pe_tup (pa_cons pe_non pa_nil)) (pa_cons (pe_disp (pps_cons pe_str pe_int pps_nil) (by rfl) (by rfl) (fun z => by cases z) (by decide)) (pa_cons (pe_tup (pa_cons pe_bl pa_nil)) (pa_cons (pe_tup (pa_cons pe_str pa_nil)) pa_nil)))))))))))))))
      (pss_cons (ps_set (i := 1) sc_l_odd.nd rfl (Or.inl rfl) (pe_op op_cat (pv 1) (pe_lst (pa_cons (pe_tup (pa_cons (pe_tup (pa_cons pe_int (pa_cons pe_int pa_nil))) (pa_cons (pe_tup (pa_cons pe_int (pa_cons pe_int pa_nil))) pa_nil))) (pa_cons (pe_tup (pa_cons (pe_tup (pa_cons pe_int (pa_cons pe_int pa_nil))) (pa_cons (pe_tup (pa_cons pe_int (pa_cons pe_int pa_nil))) pa_nil))) (pa_cons (pe_lst (pa_cons (pe_tup (pa_cons pe_int (pa_cons pe_int pa_nil))) (pa_cons (pe_tup (pa_cons pe_int (pa_cons pe_int pa_nil))) pa_nil))) (pa_cons (pe_tup (pa_cons (pe_tup (pa_cons pe_int (pa_cons pe_int pa_nil))) pa_nil)) (pa_cons (pe_tup (pa_cons (pe_tup (pa_cons pe_int (pa_cons pe_int pa_nil))) (pa_cons (pe_tup (pa_cons pe_int (pa_cons pe_int pa_nil))) pa_nil))) pa_nil))))))))
      (pss_cons (ps_expr (pe_bm PySem.F.plainAttrs_list PySem.F.slot_list_extend PySem.F.type_list_extend mt_extend (pv 1) (pa_cons (pe_lst (pa_cons (pe_tup (pa_cons (pe_un un_neg pe_int) (pa_cons pe_int pa_nil))) (pa_cons (pe_tup (pa_cons pe_int (pa_cons (pe_un un_neg pe_int) pa_nil))) (pa_cons (pe_tup (pa_cons pe_int (pa_cons pe_int (pa_cons pe_int pa_nil)))) pa_nil)))) pa_nil)))
      (pss_one (ps_ret (pe_go G_l_of (hr.mono (by decide)) rfl (pa_cons (pv 0) (pa_cons (pv 1) pa_nil))))))))), ?_⟩
    clear D G_l_of
    have some0 : ∀ {H0 : Hp} {m : Nat}, PotAt p H0 m → H0 p ≠ none := fun h z => h.some z
    have be : Beside p (fun _ => none) H := ⟨rfl, fun _ _ z => by cases z⟩
    refine into_set ?_
    refine row_new (K := K) (ds := oddD1) ?_ be (some0 ht) (by decide) fun a1 v1 G1 H1 g1 _ n1 h1 w1 => ?_
    · unfold oddD1
      repeat' first | exact gas_nil | refine gas_cons ?_ ?_ | exact ga_non | exact ga_bl | exact ga_int | exact ga_str | refine ga_tup ?_ (by decide) | refine ga_lst ?_ (by decide) | exact ga_neg ga_int
      exact (show (10 : Int) ^ (8 : Int).toNat = 100000000 from by decide) ▸ ga_opC (g := fun i j => i ^ j.toNat) ⟨by decide, by decide, by decide⟩ ga_int ga_int
    refine into_name ?_
    have t1 := ht.same' g1.ext
    refine into_set ?_
    refine row_more (K := K) (ds := oddD1) (es := oddD2) rfl ?_ g1.bes (some0 t1) n1 h1 w1 (by decide) fun a2 v2 G2 H2 g2 _ n2 h2 w2 => ?_
    · unfold oddD2 pD
      repeat' first | exact gas_nil | refine gas_cons ?_ ?_ | exact ga_non | exact ga_bl | exact ga_int | exact ga_str | exact ga_dict0 | exact ga_dict1 | refine ga_tup ?_ (by decide) | refine ga_lst ?_ (by decide) | exact ga_neg ga_int
    refine into_name ?_
    have t2 := t1.same' g2.ext
    refine into_set ?_
    refine row_more (K := K) (ds := oddD1 ++ oddD2) (es := oddD3) rfl ?_ g2.bes (some0 t2) n2 h2 w2 (by decide) fun a3 v3 G3 H3 g3 f3 n3 h3 w3 => ?_
    · unfold oddD3 pD
      repeat' first | exact gas_nil | refine gas_cons ?_ ?_ | exact ga_non | exact ga_bl | exact ga_int | exact ga_str | refine ga_tup ?_ (by decide) | refine ga_lst ?_ (by decide) | exact ga_neg ga_int
    refine into_name ?_
    have t3 := t2.same' g3.ext
    have np : a3 ≠ p := fun z => by
      obtain ⟨x, y, z', e, _⟩ := id t3
      rw [z] at h3
      rw [e] at h3
      have hl : v3.length = 33 := w3.length.trans (by decide)
      cases h3
      exact absurd hl (by show ¬ (3 = 33); decide)
    refine into_drop (row_ext (K := K) (ds := oddD1 ++ oddD2 ++ oddD3) (es := oddD4) rfl ?_ g3.bes (some0 t3) n3 h3 w3 np (by decide) fun v4 G4 H4 s4 b4 p4 nw q4 w4 => ?_)
    · unfold oddD4 pD
      repeat' first | exact gas_nil | refine gas_cons ?_ ?_ | exact ga_non | exact ga_bl | exact ga_int | exact ga_str | refine ga_tup ?_ (by decide) | refine ga_lst ?_ (by decide) | exact ga_neg ga_int
    have g13 := g1.trans (g2.trans g3)
    have f0 : H a3 = none := none_back (g1.ext.trans g2.ext) f3
    have t4 : PotAt p H4 n := by
      obtain ⟨x, y, z, e, r⟩ := t3
      exact ⟨x, y, z, p4 _ _ (fun q => np q.symm) e, r⟩
    have len4 := w4.length
    have len0 : (oddD1 ++ oddD2 ++ oddD3 ++ oddD4).length = 36 := by decide
    have new4 : ∀ b o, G4 b = some o → H b = none := fun b o e => by
      rcases nw b o e with rfl | e | e
      · exact f0
      · rcases g13.new b o e with z | z
        · cases z
        · exact z
      · exact none_back g13.ext e
    have sH : Same G H4 := fun b o e => p4 b o (fun z => by
      have := bs.sub _ _ e
      rw [z, f0] at this
      cases this) (g13.ext _ _ (bs.sub _ _ e))
    refine into_ret ⟨_, rfl, _, rfl, p, a3, Ct.hide p H4, n, v4, rfl, beside_hide p H4, t4, hn, Same.seq (same_hide b4.sub b4.out) q4, by omega, by omega, fun i v G' H' hi s' b' t' => ?_⟩
    obtain ⟨d, hd, hv⟩ := w4.at_ hi
    exact k v d G4 G' H' ((same_hide sH bs.out).trans s') b' t' ((same_hide b4.sub b4.out).trans s') new4 hv (List.mem_of_getElem? hd)
end
end Ct

/-! A fraction bent. -/
namespace Ct
open PySem PySem.Spec PyProof.Rows L2 TL
abbrev s_l_bent_frac : Stmt := top 63
abbrev N_l_bent_frac : List Str := ["pot", "frac", "top", "bottom", "some"]
theorem sc_l_bent_frac : FnScope N_l_bent_frac ["pot", "frac"] (defScope s_l_bent_frac) := ⟨rfl, rfl, rfl, by decide +kernel, rfl, by decide +kernel, by decide +kernel⟩
theorem st_isF {t : TS} {D : Ends} {σ σ' : L2.St} {H : Hp} (e : σ = σ') (h : t D σ' H) : t D σ H := e ▸ h
def bentD1 (t b : Int) : List PyData := [pD (t + b) b, pD (t - b) b, pD (-t) b, pD (2 * t) (2 * b), pD t (-b)]
def bentD2 (t b : Int) : List PyData := [pD t 0, pD b t, pD (-t) (-b), .tuple [.int t], .tuple [.int t, .int b, .int 1], .list [.int t, .int b], .int t, .none]
def bentD3 (t b : Int) : List PyData := [.tuple [.bool (decide (t = 1)), .int b], .tuple [.int t, .bool (decide (b = 1))], pD 0 1, pD 1 1, .tuple [.int t, .tuple [.int b]]]
def bentD (t b : Int) : List PyData := bentD1 t b ++ bentD2 t b ++ bentD3 t b ++ [.str (toString (t % 1000))] ++ oddD
theorem ga_eq {K : PySem.W.Frag} {p : Addr} {σ : L2.St} {G0 : Hp} {i j : Int} {t u : TE} (h : GivesA1 K p σ G0 t (.int i)) (h2 : GivesA1 K p σ G0 u (.int j)) : GivesA1 K p σ G0 (tOp rEq t u) (.bool (decide (i = j))) := fun G H Q s b hp k =>
  h G H _ s b hp fun v G1 H1 g1 hv => h2 G1 H1 _ (s.trans g1.sub) g1.bes (g1.here hp) fun w G2 H2 g2 hw => by
    obtain rfl := hv.int_at
    obtain rfl := hw.int_at
    refine ⟨rfl, ?_⟩
    have e : decide (V.int i = V.int j) = decide (i = j) := decide_eq_decide.mpr ⟨fun h => V.int.inj h, fun h => congrArg V.int h⟩
    rw [e]
    exact k _ G2 H2 (g1.trans g2) (.bl _)
def spBentF (K : PySem.W.Frag) : Sp := fun vs H Q _ => ∃ (p a : Addr) (G : Hp) (n : Nat) (t b : Int), vs = [.ref p, .ref a] ∧ Beside p G H ∧ PotAt p H n ∧ n + 2 ≤ 1000000 ∧ SqT K H a [.int t, .int b] ∧ t.natAbs < 2 ^ 60 ∧
  ∀ (v : V) (d : PyData) (Gn G' H' : Hp), Same G G' → Beside p G' H' → PotAt p H' (n + 2) → Same Gn G' → (∀ b o, Gn b = some o → H b = none) → AnyV K Gn v d → d ∈ bentD t b → Q v H'
section
variable {P : Program} {w : World} {K : PySem.W.Frag} {mg : Str → Option Value} {base : Heap}
theorem k_bent_frac (D : Lies K mg "_law_bent_frac" s_l_bent_frac) (T : Plain mg) (G_l_of : Keeps P w K mg base 2 "_law_of" ["pot", "some"] (spOf K)) (G_l_odd : Keeps P w K mg base 3 "_law_odd" ["pot"] (spOdd K)) : Keeps P w K mg base 4 "_law_bent_frac" ["pot", "frac"] (spBentF K) := by
  refine D.keeps sc_l_bent_frac (fun _ _ _ _ _ _ us hl => bindsL2 (fun _ _ => rfl) us hl) (fun vs H Q E h => ?_) (fun f cdv A outer s H vs Q E hr h => ?_)
  · obtain ⟨p, a, G, n, t, b, rfl, _⟩ := h
    rfl
  · obtain ⟨p, af, G, n, t, b, rfl, bs, ht, hn, hf, small, k⟩ := h
    refine ⟨_, (pss_cons (ps_asg (pv 1) (pg_tup rfl (pgs_cons (pg_name (i := 2) sc_l_bent_frac.nd rfl (Or.inl rfl)) (pgs_cons (pg_name (i := 3) sc_l_bent_frac.nd rfl (Or.inl rfl)) pgs_nil))))
      (pss_cons (ps_set (i := 4) sc_l_bent_frac.nd rfl (Or.inl rfl) (pe_lst (pa_cons (pe_tup (pa_cons (pe_op op_add (pv 2) (pv 3)) (pa_cons (pv 3) pa_nil))) (pa_cons (pe_tup (pa_cons (pe_op op_sub (pv 2) (pv 3)) (pa_cons (pv 3) pa_nil))) (pa_cons (pe_tup (pa_cons (pe_un un_neg (pv 2)) (pa_cons (pv 3) pa_nil))) (pa_cons (pe_tup (pa_cons (pe_op op_mul pe_int (pv 2)) (pa_cons (pe_op op_mul pe_int (pv 3)) pa_nil))) (pa_cons (pe_tup (pa_cons (pv 2) (pa_cons (pe_un un_neg (pv 3)) pa_nil))) pa_nil)))))))
      (pss_cons (ps_set (i := 4) sc_l_bent_frac.nd rfl (Or.inl rfl) (pe_op op_cat (pv 4) (pe_lst (pa_cons (pe_tup (pa_cons (pv 2) (pa_cons pe_int pa_nil))) (pa_cons (pe_tup (pa_cons (pv 3) (pa_cons (pv 2) pa_nil))) (pa_cons (pe_tup (pa_cons (pe_un un_neg (pv 2)) (pa_cons (pe_un un_neg (pv 3)) pa_nil))) (pa_cons (pe_tup (pa_cons (pv 2) pa_nil)) (pa_cons (pe_tup (pa_cons (pv 2) (pa_cons (pv 3) (pa_cons pe_int pa_nil)))) (pa_cons (pe_lst (pa_cons (pv 2) (pa_cons (pv 3) pa_nil))) (pa_cons (pv 2) (pa_cons pe_non pa_nil)))))))))))
      (pss_cons (ps_set (i := 4) sc_l_bent_frac.nd rfl (Or.inl rfl) (pe_op op_cat (pv 4) (pe_lst (pa_cons (pe_tup (pa_cons (pe_cmpR op_eq (pv 2) pe_int (nomark _)) (pa_cons (pv 3) pa_nil))) (pa_cons (pe_tup (pa_cons (pv 2) (pa_cons (pe_cmpR op_eq (pv 3) pe_int (nomark _)) pa_nil))) (pa_cons (pe_tup (pa_cons pe_int (pa_cons pe_int pa_nil))) (pa_cons (pe_tup (pa_cons pe_int (pa_cons pe_int pa_nil))) (pa_cons (pe_tup (pa_cons (pv 2) (pa_cons (pe_tup (pa_cons (pv 3) pa_nil)) pa_nil))) pa_nil))))))))
      (pss_cons (ps_expr (pe_bm PySem.F.plainAttrs_list PySem.F.slot_list_extend PySem.F.type_list_extend mt_extend (pv 4) (pa_cons (pe_lst (pa_cons (pe_callTy call_str_int (by rfl) T.n_str b_str (pa_cons (pe_op op_mod (pe_callTy call_int1 (by rfl) T.n_int b_int (pa_cons (pv 2) pa_nil)) pe_int) pa_nil)) (pa_cons (pe_go G_l_odd (hr.mono (by decide)) rfl (pa_cons (pv 0) pa_nil)) pa_nil))) pa_nil)))
      (pss_one (ps_ret (pe_go G_l_of (hr.mono (by decide)) rfl (pa_cons (pv 0) (pa_cons (pv 4) pa_nil)))))))))), ?_⟩
    clear D G_l_of G_l_odd
    have some0 : ∀ {H0 : Hp} {m : Nat}, PotAt p H0 m → H0 p ≠ none := fun h z => h.some z
    have be : Beside p (fun _ => none) H := ⟨rfl, fun _ _ z => by cases z⟩
    refine ⟨_, rfl, af, _, rfl, hf, rfl, _, _, rfl, _, _, rfl, rfl, ?_⟩
    dsimp only
    refine st_isF (σ' := [some (.ref p), some (.ref af), some (.int t), some (.int b), none]) rfl ?_
    have vt : ∀ G : Hp, AnyV K G (.int t) (.int t) := fun _ => .int t
    have vb : ∀ G : Hp, AnyV K G (.int b) (.int b) := fun _ => .int b
    refine into_set ?_
    refine row_new (K := K) (ds := bentD1 t b) ?_ be (some0 ht) (by show 5 ≤ 16777216; decide) fun a1 v1 G1 H1 g1 _ n1 h1 w1 => ?_
    · unfold bentD1 pD
      repeat' first | exact gas_nil | refine gas_cons ?_ ?_ | exact ga_int | exact ga_var (i := 2) rfl (vt _) | exact ga_var (i := 3) rfl (vb _) | refine ga_tup ?_ (by show 2 ≤ 16777216; decide) | refine ga_neg ?_ | refine ga_op ?_ ?_ | refine ga_opC (.inl ⟨by decide, by decide⟩) ?_ ?_
    refine into_name ?_
    refine st_isF (σ' := [some (.ref p), some (.ref af), some (.int t), some (.int b), some (.ref a1)]) rfl ?_
    have t1 := ht.same' g1.ext
    refine into_set ?_
    refine row_more (K := K) (ds := bentD1 t b) (es := bentD2 t b) (i := 4) rfl ?_ g1.bes (some0 t1) n1 h1 w1 (by show 13 ≤ 16777216; decide) fun a2 v2 G2 H2 g2 _ n2 h2 w2 => ?_
    · unfold bentD2 pD
      repeat' first | exact gas_nil | refine gas_cons ?_ ?_ | exact ga_non | exact ga_int | exact ga_var (i := 2) rfl (vt _) | exact ga_var (i := 3) rfl (vb _) | refine ga_tup ?_ (by first | (show 1 ≤ 16777216; decide) | (show 2 ≤ 16777216; decide) | (show 3 ≤ 16777216; decide)) | refine ga_lst ?_ (by show 2 ≤ 16777216; decide) | refine ga_neg ?_
    refine into_name ?_
    refine st_isF (σ' := [some (.ref p), some (.ref af), some (.int t), some (.int b), some (.ref a2)]) rfl ?_
    have t2 := t1.same' g2.ext
    refine into_set ?_
    refine row_more (K := K) (ds := bentD1 t b ++ bentD2 t b) (es := bentD3 t b) (i := 4) rfl ?_ g2.bes (some0 t2) n2 h2 w2 (by show 18 ≤ 16777216; decide) fun a3 v3 G3 H3 g3 f3 n3 h3 w3 => ?_
    · unfold bentD3 pD
      repeat' first | exact gas_nil | refine gas_cons ?_ ?_ | exact ga_int | exact ga_var (i := 2) rfl (vt _) | exact ga_var (i := 3) rfl (vb _) | refine ga_tup ?_ (by first | (show 1 ≤ 16777216; decide) | (show 2 ≤ 16777216; decide)) | refine ga_eq ?_ ?_
    refine into_name ?_
    refine st_isF (σ' := [some (.ref p), some (.ref af), some (.int t), some (.int b), some (.ref a3)]) rfl ?_
    have t3 := t2.same' g3.ext
    have g13 := g1.trans (g2.trans g3)
    have f0 : H a3 = none := none_back (g1.ext.trans g2.ext) f3
    have l3 : v3.length = 18 := w3.length
    have np : a3 ≠ p := fun z => by
      obtain ⟨x, y, z', e, _⟩ := id t3
      rw [z] at h3
      rw [e] at h3
      cases h3
      exact absurd l3 (by show ¬ (3 = 18); decide)
    have sG : Same G H3 := bs.sub.trans g13.ext
    refine into_drop ⟨_, rfl, .inl ⟨rfl, _, SqL.of h3⟩, ?_⟩
    refine ⟨_, rfl, .inl ⟨t, rfl, ?_⟩⟩
    refine ⟨t, 1000, rfl, rfl, (show (0 : Int) < 1000 by decide), ?_⟩
    have sm : (t % 1000).natAbs < 1000 := by omega
    refine ⟨t % 1000, rfl, (by
      rcases Nat.eq_zero_or_pos (t % 1000).natAbs with z | z
      · rw [z]
        decide
      · exact Nat.lt_of_lt_of_le ((Nat.log2_lt (by omega)).mpr (show (t % 1000).natAbs < 2 ^ 10 by omega)) (by decide)), ?_⟩
    refine ⟨_, rfl, p, Ct.hide p H3, n, rfl, beside_hide p H3, t3, by omega, fun v d Gn G' H' s' b' t' sn nw hv hd => ⟨by show 2 ≤ 16777216; decide, fun c nc => ?_⟩⟩
    have a3' : H' a3 = some (.lst v3) := b'.sub _ _ (s' _ _ ((hide_ne np).trans h3))
    have sc := same_upd (o := .lst [V.str (toString (t % 1000)), v]) nc
    have ac : a3 ≠ c := fun z => by rw [← z, a3'] at nc; cases nc
    refine ⟨a3, c, v3, _, rfl, rfl, sc _ _ a3', upd_same, by rw [l3]; show 20 ≤ 16777216; decide, ?_⟩
    have tc : PotAt p (upd (upd H' c (.lst [V.str (toString (t % 1000)), v])) a3 (.lst (v3 ++ [V.str (toString (t % 1000)), v]))) (n + 1) := by
      obtain ⟨x, y, z, e, r⟩ := t'
      refine ⟨x, y, z, ?_, r⟩
      rw [upd_ne fun q => np q.symm]
      exact sc _ _ e
    have keep : ∀ b o, b ≠ a3 → H' b = some o → upd (upd H' c (.lst [V.str (toString (t % 1000)), v])) a3 (.lst (v3 ++ [V.str (toString (t % 1000)), v])) b = some o := fun b o nb e => by
      rw [upd_ne nb]
      exact sc _ _ e
    have back : ∀ b o, b ≠ p → H3 b = some o → H' b = some o := fun b o nb e => b'.sub _ _ (s' _ _ ((hide_ne nb).trans e))
    generalize hHe : upd (upd H' c (.lst [V.str (toString (t % 1000)), v])) a3 (.lst (v3 ++ [V.str (toString (t % 1000)), v])) = He at *
    have q3 : He a3 = some (.lst (v3 ++ [V.str (toString (t % 1000)), v])) := by rw [← hHe]; exact upd_same
    have sE : Same G (Ct.hide p He) := fun x o e => by
      have nx : x ≠ p := ne_of_none e bs.out
      rw [hide_ne nx]
      refine keep x o (fun z => ?_) (back x o nx (sG _ _ e))
      have := bs.sub _ _ e
      rw [z, f0] at this
      cases this
    have s3E : Same G3 (Ct.hide p He) := fun x o e => by
      have nx : x ≠ p := ne_of_none e g3.bes.out
      rw [hide_ne nx]
      exact keep x o (ne_of_none e n3) (back x o nx (g3.bes.sub _ _ e))
    have snE : Same Gn (Ct.hide p He) := fun x o e => by
      have e' := sn _ _ e
      have nx : x ≠ p := ne_of_none e' b'.out
      rw [hide_ne nx]
      refine keep x o (fun z => ?_) (b'.sub _ _ e')
      have := nw _ _ e
      rw [z, h3] at this
      cases this
    refine into_ret ⟨_, rfl, _, rfl, p, a3, Ct.hide p He, n + 1, _, rfl, beside_hide p He, tc, by omega, SqL.of ((hide_ne np).trans q3), by rw [List.length_append, l3]; show 0 < 20; decide, by rw [List.length_append, l3]; show 20 < 1000000; decide, fun i v' G'' H'' hi s'' b'' t'' => ?_⟩
    have m3 : ∀ x ∈ bentD1 t b ++ bentD2 t b ++ bentD3 t b, x ∈ bentD t b := fun x hx => List.mem_append_left _ (List.mem_append_left _ hx)
    rw [List.getElem?_append] at hi
    by_cases hl : i < v3.length
    · rw [if_pos hl] at hi
      obtain ⟨d', hd', hv'⟩ := w3.at_ hi
      refine k v' d' G3 G'' H'' (sE.trans s'') b'' t'' (s3E.trans s'') (fun x o e => ?_) hv' (m3 _ (List.mem_of_getElem? hd'))
      rcases g13.new x o e with z | z
      · cases z
      · exact z
    · rw [if_neg hl] at hi
      match hj : i - v3.length, hi with
      | 0, hi =>
        cases hi
        exact k _ (.str (toString (t % 1000))) (fun _ => none) G'' H'' (sE.trans s'') b'' t'' (fun _ _ z => by cases z) (fun _ _ z => by cases z) (.str _) (List.mem_append_left _ (List.mem_append_right _ (List.mem_singleton.mpr rfl)))
      | 1, hi =>
        cases hi
        exact k _ d Gn G'' H'' (sE.trans s'') b'' t'' (snE.trans s'') (fun x o e => none_back g13.ext (nw x o e)) hv (List.mem_append_right _ hd)
      | _ + 2, hi => cases hi
end
end Ct

/-! What is known of the values drawn. -/
namespace Ct
open PySem PySem.Spec PyProof.Rows L2 TL
def fewB : PyData → Bool
  | .tuple [.int a, .int b] => decide (a.natAbs < 10 ^ 18) && decide (b.natAbs < 10 ^ 18)
  | _ => true
theorem few_of {e : PyData} (h : fewB e = true) : FewD e := fun a b z => by
  subst z
  have h : (decide (a.natAbs < 10 ^ 18) && decide (b.natAbs < 10 ^ 18)) = true := h
  rw [Bool.and_eq_true] at h
  exact ⟨of_decide_eq_true h.1, of_decide_eq_true h.2⟩
theorem odd_fine : (oddD.all fun e => showB e && fewB e) = true := by decide +kernel
theorem bent_fine : ((bentD 2 3).all fun e => showB e && fewB e) = true := by decide +kernel
theorem str_show {x : Str} (l : x.length ≤ 20) (h : ∀ c ∈ x.cps.toList, c < 16 ^ 8) : showB (.str x) = true := by
  have := PySem.StrLaws.reprText_len x h
  have e1 : (PyData.str x).shown = reprText x := by simp [PyData.shown]
  have e2 : (PyData.str x).depth ≤ 20 := by simp [PyData.depth]
  have e3 : (PyData.str x).showable = true := by simp [PyData.showable]
  have e4 : (PyData.str x).hasDict = false := by simp [PyData.hasDict]
  unfold showB
  rw [e1, e3, e4, decide_eq_true e2, decide_eq_true (show (reprText x).length ≤ 1000 by omega)]
  rfl
theorem tup_show {x : Str} (l : x.length ≤ 20) (h : ∀ c ∈ x.cps.toList, c < 16 ^ 8) : showB (.tuple [.str x]) = true := by
  have := PySem.StrLaws.reprText_len x h
  have e1 : (PyData.tuple [.str x]).shown = (Str.ofString "(" ++ reprText x) ++ Str.ofString ",)" := by
    simp only [PyData.shown, PyData.shownAll]
    exact tupleText_one _
  have e2 : (PyData.tuple [.str x]).depth ≤ 20 := by simp [PyData.depth, PyData.depthAll]
  have e3 : (PyData.tuple [.str x]).showable = true := by simp [PyData.showable, PyData.showableAll]
  have e4 : (PyData.tuple [.str x]).hasDict = false := by simp [PyData.hasDict, PyData.hasDictAll]
  have e5 : ((Str.ofString "(" ++ reprText x) ++ Str.ofString ",)").length ≤ 1000 := by
    rw [len_app, len_app]
    have a : (Str.ofString "(").length = 1 := by decide +kernel
    have b : (Str.ofString ",)").length = 2 := by decide +kernel
    omega
  unfold showB
  rw [e1, e3, e4, decide_eq_true e2, decide_eq_true e5]
  rfl
end Ct

/-! Six bent fractions in a row. -/
namespace Ct
open PySem PySem.Spec PyProof.Rows L2 TL
theorem same_hh {p D : Addr} {A B : Hp} (h : ∀ x o, x ≠ p → x ≠ D → A x = some o → B x = some o) : Same (Ct.hide D (Ct.hide p A)) (Ct.hide D (Ct.hide p B)) := fun x o e => by
  by_cases z : x = D
  · rw [z, hide_at] at e
    cases e
  · rw [hide_ne z] at e ⊢
    by_cases y : x = p
    · rw [y, hide_at] at e
      cases e
    · rw [hide_ne y] at e ⊢
      exact h x o y z e
theorem bent_comp {K : PySem.W.Frag} {p : Addr} {m : Nat} {σ : L2.St} {H : Hp} {Q : VK} (h0 : ∀ x, ((wipe σ [7]).set 7 (some x))[0]? = some (some (.ref p))) (hw : ∀ x, wipe ((wipe σ [7]).set 7 (some x)) [7] = wipe σ [7]) (t : PotAt p H m) (hm : m + 12 ≤ 1000000)
    (k : ∀ D vs ds H', H D = none → Same (Ct.hide p H) (Ct.hide p H') → PotAt p H' (m + 12) → H' D = some (.lst vs) → AnyAll K (Ct.hide D (Ct.hide p H')) vs ds → vs.length = 6 → (∀ d ∈ ds, d ∈ bentD 2 3) → Q (.ref D) H') :
    tLc (iRng1 (tCons (tC (.int 6)) tNil)) (gName 7) tYes (tCall (spBentF K) [] E0 (tCons (tVar 0) (tCons (tTup (tCons (tC (.int 2)) (tCons (tC (.int 3)) tNil))) tNil))) [7] σ H Q := by
  refine ⟨(6 : Int), rfl, by decide, by decide, fun D nD => ?_⟩
  have npD : p ≠ D := fun z => t.some (z ▸ nD)
  refine lc_range (lo := 0) (n := 6) (fun i H' => ∃ (vs : List V) (ds : List PyData), Same (Ct.hide p H) (Ct.hide p H') ∧ PotAt p H' (m + 2 * i) ∧ H' D = some (.lst vs) ∧ AnyAll K (Ct.hide D (Ct.hide p H')) vs ds ∧ vs.length = i ∧ ∀ d ∈ ds, d ∈ bentD 2 3) ⟨[], [], ?_, t.past npD, upd_same, .nil, rfl, fun _ h => by cases h⟩ ?_ ?_
  · exact fun x o e => by
      by_cases y : x = p
      · rw [y, hide_at] at e
        cases e
      · rw [hide_ne y] at e ⊢
        rw [upd_ne (ne_of_none e nD)]
        exact e
  · rintro i H' hi ⟨vs, ds, sx, ti, hD, all, len, fine⟩
    refine ⟨hw _, yes_of ?_⟩
    refine ⟨_, h0 _, by show 2 ≤ 16777216; decide, fun a na => ?_⟩
    have sA := same_upd (o := .tup [V.int 2, V.int 3]) na
    have hA : upd H' a (.tup [V.int 2, V.int 3]) a = some (.tup [V.int 2, V.int 3]) := upd_same
    generalize upd H' a (.tup [V.int 2, V.int 3]) = HA at *
    refine ⟨p, a, Ct.hide p HA, m + 2 * i, 2, 3, rfl, beside_hide p HA, ti.same' sA, by omega, SqT.of hA, by decide, fun u d Gn G' H'' s' b' t' sn nw hu hd => ?_⟩
    have hD2 : H'' D = some (.lst vs) := b'.sub _ _ (s' _ _ ((hide_ne npD.symm).trans (sA _ _ hD)))
    have back : ∀ x o, x ≠ p → H' x = some o → H'' x = some o := fun x o nx e => b'.sub _ _ (s' _ _ ((hide_ne nx).trans (sA _ _ e)))
    refine ⟨vs, hD2, by rw [len]; show i < 16777216; omega, vs ++ [u], ds ++ [d], fun x o e => ?_, ?_, upd_same, ?_, by rw [List.length_append, len]; rfl, fun e he => ?_⟩
    · have e2 := sx _ _ e
      have nx : x ≠ p := fun z => by rw [z, hide_at] at e; cases e
      rw [hide_ne nx] at e e2 ⊢
      rw [upd_ne (ne_of_none e nD)]
      exact back x o nx e2
    · exact (t'.past npD).more (by omega) (by omega)
    · refine AnyAll.append (all.same (same_hh fun x o nx nd e => ?_)) (.cons (hu.same fun x o e => ?_) .nil)
      · rw [upd_ne nd]
        exact back x o nx e
      · have e2 := sn _ _ e
        have nx : x ≠ p := fun z => by rw [z, b'.out] at e2; cases e2
        have nd : x ≠ D := fun z => by
          have q := nw _ _ e
          rw [z, sA _ _ hD] at q
          cases q
        rw [hide_ne nd, hide_ne nx, upd_ne nd]
        exact b'.sub _ _ e2
    · rcases List.mem_append.mp he with he | he
      · exact fine e he
      · rw [List.mem_singleton.mp he]
        exact hd
  · rintro H' ⟨vs, ds, sx, ti, hD, all, len, fine⟩
    exact k D vs ds H' nD sx ti hD all len fine
end Ct

/-! What is left when the pot is taken out. -/
namespace Ct
open PySem PySem.Spec PyProof.Rows L2 TL RZ
section
variable {K : PySem.W.Frag} {H : Hp} {p : Addr} {ys : List V}
theorem SqL.hide (hp : H p = some (.lst ys)) {a : Addr} {xs : List V} (h : SqL K H a xs) (n : xs ≠ ys) : SqL K (hide p H) a xs := by
  rcases h with (h | ⟨o, h⟩) | h
  · exact .inl (.inl ((hide_ne fun q => by rw [q, hp] at h; cases h; exact n rfl).trans h))
  · exact .inl (.inr ⟨o, (hide_ne fun q => by rw [q, hp] at h; cases h).trans h⟩)
  · exact .inr h
theorem FrAt.hide (hp : H p = some (.lst ys)) {v : V} {f : Int × Int} : FrAt K H v f → FrAt K (hide p H) v f := fun ⟨t, e, h⟩ => ⟨t, e, SqT.hide hp h⟩
theorem EntAt.hide (hp : H p = some (.lst ys)) {v : V} {e : Str × Int × Int} : EntAt K H v e → EntAt K (hide p H) v e := fun ⟨t, u, q, h, r⟩ => ⟨t, u, q, SqT.hide hp h, FrAt.hide hp r⟩
/-- a list whose items are no integers is not the pot -/
theorem LsAt.hide {β : Type} {R R' : V → β → Prop} {a b c : Int} (hp : H p = some (.lst [.int a, .int b, .int c])) (step : ∀ v e, R v e → R' v e) (no : ∀ i e, ¬ R (.int i) e) {v : V} {es : List β} : LsAt K H R v es → LsAt K (Ct.hide p H) R' v es :=
  fun ⟨l, vs, e, h, pr⟩ => ⟨l, vs, e, SqL.hide hp h fun z => by
    subst z
    cases pr with
    | cons r _ => exact no _ _ r, pr.mono step⟩
theorem OwnAt.hide {a b c : Int} (hp : H p = some (.lst [.int a, .int b, .int c])) {v : V} {o : Own} : OwnAt K H v o → OwnAt K (Ct.hide p H) v o := by
  rintro ⟨d, s, q, j, e, hd, h1, h2, h3⟩
  have no : ∀ i (e : Str × Int × Int), ¬ EntAt K H (.int i) e := fun i e z => by
    obtain ⟨t, u, z, _⟩ := z
    cases z
  refine ⟨d, s, q, j, e, (hide_ne fun z => by rw [z, hp] at hd; cases hd).trans hd, LsAt.hide hp (fun _ _ h => EntAt.hide hp h) no h1, LsAt.hide hp (fun _ _ h => EntAt.hide hp h) no h2, LsAt.hide hp (fun v e h => ?_) (fun i e z => ?_) h3⟩
  · obtain ⟨t, l, r, h, q⟩ := h
    refine ⟨t, l, r, SqT.hide hp h, LsAt.hide hp (fun _ _ h => TieAt.hide hp h) (fun i e z => ?_) q⟩
    obtain ⟨t, z, _⟩ := z
    cases z
  · obtain ⟨t, l, z, _⟩ := z
    cases z
theorem JoTAt.hide (hp : H p = some (.lst ys)) {v : V} {e : Str × List (Str × Str × Str)} : JoTAt K H v e → JoTAt K (Ct.hide p H) v e := fun ⟨t, l, tv, a, b, c, d⟩ => ⟨t, l, tv, a, SqT.hide hp b, SqT.hide hp c, d.mono fun _ _ h => TieAt.hide hp h⟩
theorem TupN.hide (hp : H p = some (.lst ys)) {a : Addr} {xs : List V} : TupN H a xs → TupN (Ct.hide p H) a xs := fun ⟨od, h, r⟩ => ⟨od, (hide_ne fun z => by rw [z, hp] at h; cases h).trans h, r⟩
theorem CircN.hide {C : Addr} (hp : H p = some (.lst ys)) {v : V} {o : Own} : CircN K C H v o → CircN K C (Ct.hide p H) v o := fun h => by
  obtain ⟨c, dx, fs, ts, tp, tj, us, vs, ws, a, b, f1, f2, f3, f4, q1, q2, q3, r1, r2, r3⟩ := h
  exact ⟨c, dx, fs, ts, tp, tj, us, vs, ws, a, (hide_ne fun z => by rw [z, hp] at b; cases b).trans b, f1, f2, f3, f4, SqT.hide hp q1, TupN.hide hp q2, SqT.hide hp q3, r1.mono fun _ _ h => EntAt.hide hp h, r2.mono fun _ _ h => EntAt.hide hp h, r3.mono fun _ _ h => JoTAt.hide hp h⟩
end
end Ct

/-! What is left when tables of code objects are taken out; defs whose code object is known. -/
namespace Ct
open PySem PySem.Spec PyProof.Rows L2 TL RZ
/-- all but tables -/
def noT (H : Hp) : Hp := fun b => match H b with
  | some (.tbl _) => none
  | o => o
theorem noT_at {H : Hp} {b : Addr} {o : HO} (h : H b = some o) (n : ∀ ps, o ≠ .tbl ps) : noT H b = some o := by
  unfold noT
  rw [h]
  cases o with
  | tbl ps => exact absurd rfl (n ps)
  | _ => rfl
theorem of_noT {H : Hp} {b : Addr} {o : HO} (h : noT H b = some o) : H b = some o ∧ ∀ ps, o ≠ .tbl ps := by
  unfold noT at h
  cases e : H b with
  | none => rw [e] at h; cases h
  | some u =>
    rw [e] at h
    cases u with
    | tbl ps => cases h
    | _ => cases h; exact ⟨rfl, fun ps z => by cases z⟩
theorem noT_same {H : Hp} : Same (noT H) H := fun b o h => (of_noT h).1
theorem same_extN {H H' : Hp} (s : Same H H') : LamX.ExtN H H' := fun b o h _ => s b o h
section
variable {K : PySem.W.Frag} {H : Hp}
theorem Rd.noT {a : Addr} {u : HO} (n : ∀ ps, u ≠ .tbl ps) (h : Rd H a u) : Rd (noT H) a u := by
  rcases h with h | ⟨o, h⟩
  · exact .inl (noT_at h n)
  · exact .inr ⟨o, noT_at h fun ps z => by cases z⟩
theorem SqL.noT {a : Addr} {xs : List V} (h : SqL K H a xs) : SqL K (noT H) a xs := h.elim (fun h => .inl (Rd.noT (fun ps z => by cases z) h)) .inr
theorem SqT.noT {a : Addr} {xs : List V} (h : SqT K H a xs) : SqT K (noT H) a xs := h.elim (fun h => .inl (Rd.noT (fun ps z => by cases z) h)) .inr
theorem FrAt.noT {v : V} {f : Int × Int} : FrAt K H v f → FrAt K (noT H) v f := fun ⟨t, e, h⟩ => ⟨t, e, SqT.noT h⟩
theorem EntAt.noT {v : V} {e : Str × Int × Int} : EntAt K H v e → EntAt K (noT H) v e := fun ⟨t, u, q, h, r⟩ => ⟨t, u, q, SqT.noT h, FrAt.noT r⟩
theorem TieAt.noT {v : V} {e : Str × Str × Str} : TieAt K H v e → TieAt K (noT H) v e := fun ⟨t, e, h⟩ => ⟨t, e, SqT.noT h⟩
theorem JoTAt.noT {v : V} {e : Str × List (Str × Str × Str)} : JoTAt K H v e → JoTAt K (noT H) v e := fun ⟨t, l, tv, a, b, c, d⟩ => ⟨t, l, tv, a, SqT.noT b, SqT.noT c, d.mono fun _ _ h => TieAt.noT h⟩
theorem TupN.noT {a : Addr} {xs : List V} : TupN H a xs → TupN (noT H) a xs := fun ⟨od, h, r⟩ => ⟨od, noT_at h (fun ps z => by cases z), r⟩
theorem CircN.noT {C : Addr} {v : V} {o : Own} : CircN K C H v o → CircN K C (noT H) v o := fun h => by
  obtain ⟨c, dx, fs, ts, tp, tj, us, vs, ws, a, b, f1, f2, f3, f4, q1, q2, q3, r1, r2, r3⟩ := h
  exact ⟨c, dx, fs, ts, tp, tj, us, vs, ws, a, noT_at b (fun ps z => by cases z), f1, f2, f3, f4, SqT.noT q1, TupN.noT q2, SqT.noT q3, r1.mono fun _ _ h => EntAt.noT h, r2.mono fun _ _ h => EntAt.noT h, r3.mono fun _ _ h => JoTAt.noT h⟩
end
/-- where a def of the text lies behind the top, its code object known -/
structure LiesC (K : PySem.W.Frag) (mg : Str → Option Value) (x : Str) (st : Stmt) (c : Addr) : Prop where
  ex : ∃ (f : Addr) (oc : Value) (od : Option Addr) (kV doc pm : Value) (an : Option Addr) (ct : Value) (osl : Array (Option Value)), mg x = some (.ref f) ∧
    K.lookup f = some ⟨oc, od, .func (PySem.W.fnOf x x (defArgs st) (defBody st) (defScope st) .none kV doc pm an (.ref c) ct), osl⟩ ∧ PySem.W.codeIn K (.ref c) x = true ∧ PySem.W.keepIn K (.ref f) = true
section
variable {P : Program} {w : World} {K : PySem.W.Frag} {mg : Str → Option Value} {base : Heap}
/-- the same where no repr is under way -/
theorem LiesC.keepsG {x : Str} {st : Stmt} {c : Addr} {N ps : List Str} {k : Nat} {sp : Sp} (D : LiesC K mg x st c) (S : FnScope N ps (defScope st))
    (hb : ∀ (kV doc pm : Value) (an : Option Addr) (cdv ct : Value) (us : List Value), us.length = ps.length → bindArgs (PySem.W.fnOf x x (defArgs st) (defBody st) (defScope st) .none kV doc pm an cdv ct) ⟨us, []⟩ = pure (ps.zip us))
    (len : ∀ vs H Q E, sp vs H Q E → vs.length = ps.length)
    (body : ∀ (f : Addr) (A : Around) (outer : List Env) (s : Shared) (H : Hp) (vs : List V) (Q : VK), A.guards = some [] → Room k (A.deeper (envOfC x (defScope st) s.heap.objs.size f (.ref c))) → sp vs H Q E0 →
      ∃ t, PSs (cxOf CX0 P w K mg base N x (defScope st) f (.ref c) A outer s H E0).nox (defBody st) t ∧ t { nx := fun _ H' => Q .non H', rt := Q } (start N vs) H) : KeepsG P w K mg base (k + 1) x ps sp := by
  obtain ⟨f, oc, od, kV, doc, pm, an, ct, osl, h1, h2, h3, h4⟩ := D.ex
  have F : Fun K x x st f (PySem.W.fnOf x x (defArgs st) (defBody st) (defScope st) .none kV doc pm an (.ref c) ct) := fun_mk h2 h3 h4
  refine ⟨f, _, ⟨len, fun A outer s H args us vs Q hr hg e0 bind rv hsp => ?_⟩, h1, F.kp, F.binds hb⟩
  refine LamX.run_ofS h2 h3 S hr e0 bind rv (len _ _ _ _ hsp) fun hr' => ?_
  obtain ⟨t, a, b⟩ := body f A outer s H vs Q hg hr' hsp
  exact ⟨t, a.nox, b⟩
end
end Ct

/-! Tables that are carried along: of lists, of a pot, of what is asked again and again. -/
namespace Ct
open PySem PySem.Spec PyProof.Rows L2 TL RZ
abbrev Tbl := List (Addr × Str)
theorem Tabs.list {T : Tbl} {H : Hp} {D : Addr} {acc acc' : List V} (hD : H D = some (.lst acc)) (h : LamX.Tabs T H) : LamX.Tabs T (upd H D (.lst acc')) := fun p hp => by
  obtain ⟨ps, e, ok, am⟩ := h p hp
  refine ⟨ps, (upd_ne fun z => ?_).trans e, ok, fun pos cv hc => ?_⟩
  · rw [z, hD] at e
    cases e
  · obtain ⟨c, e1, e2⟩ := am pos cv hc
    refine ⟨c, e1, (upd_ne fun z => ?_).trans e2⟩
    rw [z, hD] at e2
    cases e2
theorem Tabs.hide {T : Tbl} {H : Hp} {D : Addr} {acc : List V} (hD : H D = some (.lst acc)) (h : LamX.Tabs T H) : LamX.Tabs T (Ct.hide D H) := fun p hp => by
  obtain ⟨ps, e, ok, am⟩ := h p hp
  refine ⟨ps, (hide_ne fun z => ?_).trans e, ok, fun pos cv hc => ?_⟩
  · rw [z, hD] at e
    cases e
  · obtain ⟨c, e1, e2⟩ := am pos cv hc
    refine ⟨c, e1, (hide_ne fun z => ?_).trans e2⟩
    rw [z, hD] at e2
    cases e2
theorem extN_trans {H H' H'' : Hp} (a : LamX.ExtN H H') (b : LamX.ExtN H' H'') : LamX.ExtN H H'' := fun x o e n => b x o (a x o e n) n
theorem extN_list {H H' : Hp} {D : Addr} {acc : List V} (hD : H D = none) (e : LamX.ExtN H H') : LamX.ExtN H (upd H' D (.lst acc)) := fun b o z n => by
  rw [upd_ne (ne_of_none z hD)]
  exact e b o z n
theorem noT_ext {Z H H' : Hp} (s : Same (noT Z) H) (e : LamX.ExtN H H') : Same (noT Z) H' := fun b o h => e b o (s b o h) (of_noT h).2
theorem PotAt.ext {p : Addr} {H H' : Hp} {n : Nat} (e : LamX.ExtN H H') (h : PotAt p H n) : PotAt p H' n := by
  obtain ⟨x, y, z, q, r⟩ := h
  exact ⟨x, y, z, e _ _ q (fun ps z => by cases z), r⟩
/-- [.. for i in list]: all true, the tables carried along -/
theorem comp_true {T : Tbl} {K : PySem.W.Frag} {β : Type} {a : Addr} {xs : List V} {es : List β} {R : V → β → Prop} {tl : TE} {g : TG} {te : TE} {vs : List Nat} {σ : L2.St} {H H1 : Hp} {Q : VK}
    (hl : ∀ Z : VK, Z (.ref a) H1 → tl σ H Z) (hS : SqL K H1 a xs) (pr : Paired R xs es) (hz : xs.length < 1000000) (hT : LamX.Tabs T H1)
    (turn : ∀ x e H (Z : VK), R x e → e ∈ es → LamX.ExtN H1 H → LamX.Tabs T H → (∀ H4, LamX.ExtN H H4 → LamX.Tabs T H4 → Z (.bl true) H4) → g x (wipe σ vs) H fun σ2 H2 => wipe σ2 vs = wipe σ vs ∧ te σ2 H2 Z)
    (hd : ∀ H' D, H1 D = none → LamX.ExtN H1 H' → LamX.Tabs T H' → H' D = some (.lst ((es.map fun _ => true).map V.bl)) → Q (.ref D) H') : tLc (iList K tl) g tYes te vs σ H Q := by
  refine hl _ ⟨a, rfl, ⟨_, hS⟩, fun D hD => lc_list (xs := xs) (fun i H' => H' D = some (.lst (((es.take i).map fun _ => true).map V.bl)) ∧ LamX.ExtN H1 H' ∧ LamX.Tabs T H') ⟨upd_same, extN_list hD (LamX.ExtN.refl _), hT.ext (same_upd hD)⟩
    (fun i H' _ ⟨_, s, _⟩ => Same.seq (noT_ext noT_same s) (SqL.noT hS)) (fun i x H' hx ⟨h1, s, t⟩ => ?_) fun H' ⟨h1, s, t⟩ => ?_⟩
  · obtain ⟨e, he, r⟩ := Paired.at pr hx
    simp only [tYes, if_true]
    refine turn x e H' _ r (List.mem_of_getElem? he) s t fun H4 s4 t4 => ?_
    have h4 := s4 _ _ h1 (fun ps z => by cases z)
    refine ⟨_, h4, ?_, ?_, extN_list hD (extN_trans s s4), Tabs.list h4 t4⟩
    · have l2 := pr.length
      have l3 := (List.getElem?_eq_some_iff.mp hx).1
      rw [List.length_map, List.length_map, List.length_take]
      show _ < 16777216
      omega
    · rw [take_snoc he, List.map_append, List.map_append]
      exact upd_same
  · rw [show es.take xs.length = es by rw [pr.length, List.take_length]] at h1
    exact hd H' D hD s t h1
end Ct

/-! What is due, and what is heard of it. -/
namespace Ct
open PySem PySem.Spec PyProof.Rows L2 TL
def DueIs (d1 : PyData) (ns : List Str) (r : Bool) (w0 w1 : Str) (z u : V) (kind : Str) (vv : V) : Prop := (isIn d1 ns = false ∧ kind = w0 ∧ vv = z) ∨ (isIn d1 ns = true ∧ r = true ∧ kind = "" ∧ vv = .non) ∨ (isIn d1 ns = true ∧ r = false ∧ kind = w1 ∧ vv = u)
theorem due_one {K : PySem.W.Frag} {la wa : Addr} {z u : V} {d : PyData} {r : Bool} {ns : List Str} {w0 w1 : Str} {H : Hp} {Q : VK} {E : XK} (hz : AnyV K H z d) (hl : SqL K H la (ns.map V.str)) (hw : SqT K H wa [.str w0, .str w1])
    (k : ∀ kind vv q H', DueIs d ns r w0 w1 z u kind vv → Same H H' → H' q = some (.tup [.str kind, vv]) → Q (.ref q) H') : spDue K [.ref la, z, .bl r, u, .ref wa] H Q E :=
  ⟨la, wa, z, u, d, r, ns, w0, w1, rfl, hz, hl, hw, fun e q H' _ s hq => k w0 z q H' (.inl ⟨e, rfl, rfl⟩) s hq, fun e er q H' _ s hq => k "" .non q H' (.inr (.inl ⟨e, er, rfl, rfl⟩)) s hq, fun e er q H' _ s hq => k w1 u q H' (.inr (.inr ⟨e, er, rfl, rfl⟩)) s hq⟩
theorem asked {K : PySem.W.Frag} {C CN CX lf : Addr} {sel : Own → List (Str × Int × Int)} {g : PyData → Bool} {mk : List (Str × Addr)} {w0 w1 : Str} (m0 : (w0, CN) ∈ mk) (m1 : (w1, CX) ∈ mk) {x z u vv : V} {o : Own} {d1 d2 : PyData} {kind : Str} {H1 : Hp} {Q : VK} {tl : XK → Hp → VK → Prop}
    (hc : CircN K C H1 x o) (ok : OwnOk o) (hz : AnyV K H1 z d1) (hu : AnyV K H1 u d2) (few : FewD d2) (s1 : showB d1 = true) (s2 : showB d2 = true) (due : DueIs d1 ((sel o).map (·.1)) (g d2) w0 w1 z u kind vv) (k : ∀ H', Same H1 H' → Q (.bl true) H')
    (ask : ∀ (E : XK) (H0 : Hp) (R : VK), Same H1 H0 → spWithA K C CN CX sel g [x, z, u] H0 R E → tl E H0 R) : TTRaised K mk tl lf [.ref lf, .str kind, vv] H1 Q := by
  rcases due with ⟨e, rfl, rfl⟩ | ⟨e, er, rfl, rfl⟩ | ⟨e, er, rfl, rfl⟩
  · refine ⟨_, _, d1, rfl, hz, s1, fun H0 s0 => ask _ H0 _ s0 ⟨x, _, u, o, d1, d2, rfl, hc.same s0, ok, hz.same s0, hu.same s0, few, fun H' s _ dd H'' s'' hd => ?_, fun H' s e1 _ => ?_, fun v' H' s e1 _ => ?_⟩⟩
    · exact ⟨CN, dd, m0, rfl, rfl, hd, hz.same (s0.trans (s.trans s'')), fun H3 s3 => k H3 (s0.trans (s.trans (s''.trans s3)))⟩
    · rw [e] at e1; cases e1
    · rw [e] at e1; cases e1
  · refine ⟨_, _, .none, rfl, .non, by decide +kernel, fun H0 s0 => ask _ H0 _ s0 ⟨x, z, u, o, d1, d2, rfl, hc.same s0, ok, hz.same s0, hu.same s0, few, fun H' s e1 => ?_, fun H' s _ e2 => ?_, fun v' H' s _ _ => ?_⟩⟩
    · rw [e] at e1; cases e1
    · rw [er] at e2; cases e2
    · exact ⟨rfl, fun H3 s3 => k H3 (s0.trans (s.trans s3))⟩
  · refine ⟨_, _, d2, rfl, hu, s2, fun H0 s0 => ask _ H0 _ s0 ⟨x, z, _, o, d1, d2, rfl, hc.same s0, ok, hz.same s0, hu.same s0, few, fun H' s e1 => ?_, fun H' s _ _ dd H'' s'' hd => ?_, fun v' H' s _ e2 => ?_⟩⟩
    · rw [e] at e1; cases e1
    · exact ⟨CX, dd, m1, rfl, rfl, hd, hu.same (s0.trans (s.trans s'')), fun H3 s3 => k H3 (s0.trans (s.trans (s''.trans s3)))⟩
    · rw [er] at e2; cases e2
theorem extN_hide2 {p : Addr} {Y H : Hp} (n : Y p = none) (e : LamX.ExtN Y H) : LamX.ExtN Y (Ct.hide p H) := fun x o z nt => by
  rw [hide_ne (ne_of_none z n)]
  exact e x o z nt
end Ct

namespace Ct
open PySem PySem.Spec PyProof.Rows L2 TL
def spNamesS (K : PySem.W.Frag) : Sp := fun vs H Q _ => ∃ (v : V) (o : Own), vs = [v, .str "sources"] ∧ OwnAt K H v o ∧ OwnOk o ∧ ∀ l H', Same H H' → H l = none → H' l = some (.lst ((o.sources.map (·.1)).map V.str)) → Q (.ref l) H'
section
variable {P : Program} {w : World} {K : PySem.W.Frag} {mg : Str → Option Value} {base : Heap}
theorem k_names_s (D : Lies K mg "_law_circuit_names" s_l_circuit_names) (T : Plain mg) : Keeps P w K mg base 1 "_law_circuit_names" ["own", "kind"] (spNamesS K) := by
  refine D.keeps sc_l_circuit_names (fun _ _ _ _ _ _ us hl => bindsL2 (fun _ _ => rfl) us hl) (fun vs H Q E h => ?_) (fun f cdv A outer s H vs Q E hr h => ?_)
  · obtain ⟨v, o, rfl, _⟩ := h
    rfl
  · obtain ⟨v, o, rfl, ho, ok, k⟩ := h
    obtain ⟨dd, vS, vP, vJ, rfl, hd, ⟨aS, xS, rfl, hS, pS⟩, _, _⟩ := id ho
    refine ⟨_, (pss_one (ps_ret (pe_lc (own := [("row", 2)]) (g := gName 2) (tt := tYes) rfl sc_l_circuit_names.nd (pi_list (pe_dget (hu_of hr) (pv 0) (pv 1) (fun _ _ => rfl))) (blkOk_by (N := N_l_circuit_names) (sc := defScope s_l_circuit_names) (by decide +kernel)) (fun _ _ _ _ _ => pg_name (i := 2) sc_l_circuit_names.nd rfl (Or.inl rfl)) (fun _ _ _ _ _ => pts_nil) (fun _ _ _ _ _ => by exact (pe_ix (ix_tupK (K := K) rfl) (pv 2) pe_int (fun _ _ => rfl)))))), ?_⟩
    refine into_ret (comp_pure (f := fun x : Str => x) (R := HeadAt K H) (R' := fun _ => StrV) (fun R r => ⟨_, rfl, _, rfl, dd, _, rfl, get_s hd, r⟩) hS (heads pS fun v e ⟨t, u, e1, h1, _⟩ => ⟨t, _, e1, h1⟩) (by rw [pS.length]; have := ok.s_few; omega) (fun _ _ _ h => h) (fun _ _ _ _ h => h) (fun x e H0 W re he s0 hz => ?_) (fun H' D' acc nD s' hD hp => ?_))
    · obtain ⟨t, r, rfl, ht⟩ := re
      exact ⟨rfl, _, rfl, t, _, 0, _, rfl, rfl, SqT.same s0 ht, atI_nat (j := 0) rfl, hz _ _ (Same.refl _) rfl⟩
    · rw [List.map_id'] at hp
      have e := strs_are hp
      subst e
      exact k D' H' s' nD hD
end
end Ct

/-! Any drawn circuit. -/
namespace Ct
open PySem PySem.Spec PyProof.Rows L2 TL RZ
abbrev s_l_circuit_any : Stmt := top 61
abbrev N_l_circuit_any : List Str := ["pot", "parts", "joinings"]
theorem sc_l_circuit_any : FnScope N_l_circuit_any ["pot"] (defScope s_l_circuit_any) := ⟨rfl, rfl, rfl, by decide +kernel, rfl, by decide +kernel, by decide +kernel⟩
def spAny (K : PySem.W.Frag) : Sp := fun vs H Q _ => ∃ (p : Addr) (G : Hp) (n : Nat), vs = [.ref p] ∧ Beside p G H ∧ PotAt p H n ∧ n + 403 ≤ 1000000 ∧
  ∀ (v : V) (o : Own) (G' H' : Hp), Same G G' → Beside p G' H' → PotAt p H' (n + 403) → OwnAt K G' v o → OwnOk o → DrawnOk o → o.parts.length ≤ 5 → o.joinings.length ≤ 4 → o.sources.length ≤ 2 → Q v H'
section
variable {P : Program} {w : World} {K : PySem.W.Frag} {mg : Str → Option Value} {base : Heap}
theorem k_circuit_any (D : Lies K mg "_law_circuit_any" s_l_circuit_any) (T : Plain mg) (G_l_of : Keeps P w K mg base 2 "_law_of" ["pot", "some"] (spOf K)) (G_l_circuit_drawn : Keeps P w K mg base 4 "_law_circuit_drawn" ["pot", "parts", "joinings", "sources"] (spDrawnN K)) : Keeps P w K mg base 5 "_law_circuit_any" ["pot"] (spAny K) := by
  refine D.keeps sc_l_circuit_any (fun _ _ _ _ _ _ us hl => bindsL1 (fun _ => rfl) us hl) (fun vs H Q E h => ?_) (fun f cdv A outer s H vs Q E hr h => ?_)
  · obtain ⟨p, G, n, rfl, _⟩ := h
    rfl
  · obtain ⟨p, G, n, rfl, bs, ht, hn, k⟩ := h
    refine ⟨_, (pss_cons (ps_par (i := 1) (j := 2) (by rfl) sc_l_circuit_any.nd rfl rfl (by decide) rfl rfl (pa_cons (pe_go G_l_of (hr.mono (by decide)) rfl (pa_cons (pv 0) (pa_cons (pe_lst (pa_cons pe_int (pa_cons pe_int (pa_cons pe_int (pa_cons pe_int (pa_cons pe_int (pa_cons pe_int pa_nil))))))) pa_nil))) (pa_cons (pe_go G_l_of (hr.mono (by decide)) rfl (pa_cons (pv 0) (pa_cons (pe_lst (pa_cons pe_int (pa_cons pe_int (pa_cons pe_int (pa_cons pe_int (pa_cons pe_int pa_nil)))))) pa_nil))) pa_nil)) (by rfl))
      (pss_one (ps_ret (pe_go G_l_circuit_drawn (hr.mono (by decide)) rfl (pa_cons (pv 0) (pa_cons (pv 1) (pa_cons (pv 2) (pa_cons (pe_go G_l_of (hr.mono (by decide)) rfl (pa_cons (pv 0) (pa_cons (pe_lst (pa_cons pe_int (pa_cons pe_int (pa_cons pe_int (pa_cons pe_int pa_nil))))) pa_nil))) pa_nil)))))))), ?_⟩
    refine into_seq (into_par (into_cons ?_))
    refine ⟨_, rfl, of_new [3, 2, 4, 3, 5, 1] bs ht (by omega) (by decide) (by decide) fun a ha G1 H1 s1 b1 t1 => ?_⟩
    refine into_args1 ?_
    refine ⟨_, rfl, of_new [2, 3, 1, 2, 4] b1 t1 (by omega) (by decide) (by decide) fun b hb G2 H2 s2 b2 t2 => ⟨_, _, rfl, ?_⟩⟩
    have ha : 1 ≤ a ∧ a ≤ 5 := by
      simp only [List.mem_cons, List.not_mem_nil, or_false] at ha
      omega
    have hb : 1 ≤ b ∧ b ≤ 4 := by
      simp only [List.mem_cons, List.not_mem_nil, or_false] at hb
      omega
    obtain ⟨a, rfl⟩ := Int.eq_ofNat_of_zero_le (show 0 ≤ a by omega)
    obtain ⟨b, rfl⟩ := Int.eq_ofNat_of_zero_le (show 0 ≤ b by omega)
    dsimp only
    refine into_ret (into_call (into_cons ?_))
    refine ⟨_, rfl, _, rfl, _, rfl, ?_⟩
    refine ⟨_, rfl, of_new [1, 2, 0, 1] b2 t2 (by omega) (by decide) (by decide) fun c hc G3 H3 s3 b3 t3 => ?_⟩
    have hc : 0 ≤ c ∧ c ≤ 2 := by
      simp only [List.mem_cons, List.not_mem_nil, or_false] at hc
      omega
    obtain ⟨c, rfl⟩ := Int.eq_ofNat_of_zero_le (show 0 ≤ c by omega)
    refine ⟨p, G3, _, a, b, c, rfl, b3, t3, by omega, by omega, by omega, by omega, by omega, by omega, fun v o G4 H4 s4 b4 t4 ho ok dr la lb lc => ?_⟩
    exact k v o G4 H4 (s1.trans (s2.trans (s3.trans s4))) b4 (t4.more (by omega) (by omega)) ho ok dr (by omega) (by omega) (by omega)
end
end Ct

/-! The law's own question. -/
namespace Ct
open PySem PySem.Spec PyProof.Rows L2 TL
theorem st_is {t : TS} {D : Ends} {σ σ' : L2.St} {H : Hp} (e : σ = σ') (h : t D σ' H) : t D σ H := e ▸ h
abbrev s_l_right : Stmt := top 66
abbrev N_l_right : List Str := ["pot", "own", "circuit", "parts", "sources", "names", "numbers", "lap", "name", "number", "kind", "value"]
theorem sc_l_right : FnScope N_l_right ["pot"] (defScope s_l_right) := ⟨rfl, rfl, rfl, by decide +kernel, rfl, by decide +kernel, by decide +kernel⟩
abbrev TRight (Pt : Addr) : Tbl := [(Pt, "_law_right" ++ ".<locals>." ++ "<lambda>")]
def spRight1 (Pt : Addr) : Sp := fun vs H Q _ => ∃ (p : Addr) (G : Hp) (n : Nat), vs = [.ref p] ∧ Beside p G H ∧ PotAt p H n ∧ n + 2000 ≤ 1000000 ∧ LamX.Tabs (TRight Pt) G ∧ ∀ H', LamX.ExtN G H' → LamX.Tabs (TRight Pt) H' → Q (.bl true) H'
mutual
theorem AnyV.noT {K : PySem.W.Frag} {H : Hp} : ∀ {v : V} {d : PyData}, AnyV K H v d → AnyV K (Ct.noT H) v d
  | _, _, .non => .non
  | _, _, .bl b => .bl b
  | _, _, .int i => .int i
  | _, _, .str x => .str x
  | _, _, .lst h r => .lst (SqL.noT h) (AnyAll.noT r)
  | _, _, .tup h r => .tup (SqT.noT h) (AnyAll.noT r)
  | _, _, .dct h r => .dct (noT_at h fun ps z => by cases z) (AnyAll.noT r)
theorem AnyAll.noT {K : PySem.W.Frag} {H : Hp} : ∀ {vs : List V} {ds : List PyData}, AnyAll K H vs ds → AnyAll K (Ct.noT H) vs ds
  | _, _, .nil => .nil
  | _, _, .cons h r => .cons (AnyV.noT h) (AnyAll.noT r)
end
theorem strs_any {K : PySem.W.Frag} {H : Hp} : ∀ xs : List Str, AnyAll K H (xs.map V.str) (xs.map PyData.str)
  | [] => .nil
  | x :: r => .cons (.str x) (strs_any r)
section
variable {P : Program} {w : World} {K : PySem.W.Frag} {mg : Str → Option Value} {base : Heap} {C : Addr}
theorem k_right {CNP CBS CNS CBV ct_l_right Pt_l_right : Addr} (TB_l_right : LamX.TabB base mg ct_l_right Pt_l_right) (D : LiesC K mg "_law_right" s_l_right ct_l_right) (T : Plain mg) (D_with_source : Lies K mg "with_source" s_with_source) (G_l_circuit_any : Keeps P w K mg base 5 "_law_circuit_any" ["pot"] (spAny K)) (G_Circuit : Makes P w K mg base 7 "Circuit" C ["self", "text"] (spInitN K C)) (G_l_circuit_text : Keeps P w K mg base 2 "_law_circuit_text" ["own"] (spText K))
    (G_l_circuit_names : Keeps P w K mg base 1 "_law_circuit_names" ["own", "kind"] (spNamesO K)) (G_l_circuit_names_s : Keeps P w K mg base 1 "_law_circuit_names" ["own", "kind"] (spNamesS K)) (G_l_odd : Keeps P w K mg base 3 "_law_odd" ["pot"] (spOdd K)) (G_l_bent_frac : Keeps P w K mg base 4 "_law_bent_frac" ["pot", "frac"] (spBentF K)) (G_l_of : Keeps P w K mg base 2 "_law_of" ["pot", "some"] (spOf K))
    (G_l_due : Keeps P w K mg base 1 "_law_due" ["names", "name", "is_right", "number", "words"] (spDue K)) (G_l_frac_is_sizeA : Keeps P w K mg base 3 "_law_frac_is_size" ["value"] (spAnyB K isSize)) (G_l_frac_isA : Keeps P w K mg base 2 "_law_frac_is" ["value"] (spAnyB K isFr))
    (G_l_is_raised : GivesL P w K mg base true 11 13 "_law_is_raised" ["call", "kind", "value"] (TTRaised K [("part", CNP), ("size", CBS), ("source", CNS), ("voltage", CBV)])) (G_with_sizeX : KeepsX P w K mg base 10 "with_size" ["circuit", "part", "size"] (spWithA K C CNP CBS Own.parts isSize)) (G_with_sourceX : KeepsX P w K mg base 10 "with_source" ["circuit", "source", "voltage"] (spWithA K C CNS CBV Own.sources isFr)) :
    KeepsG P w K mg base 14 "_law_right" ["pot"] (spRight1 Pt_l_right) := by
  refine D.keepsG sc_l_right (fun _ _ _ _ _ _ us hl => match us, hl with | [_], _ => rfl) (fun vs H Q E h => ?_) (fun f A outer s0 H vs Q hgd hr h => ?_)
  · obtain ⟨p, G, n, rfl, _⟩ := h
    rfl
  · obtain ⟨p, G, n, rfl, bs, ht, hn, hT, k⟩ := h
    refine ⟨_, (pss_cons (ps_set (i := 1) sc_l_right.nd rfl (Or.inl rfl) (pe_go G_l_circuit_any (hr.mono (by decide)) rfl (pa_cons (pv 0) pa_nil)))
      (pss_cons (ps_set (i := 2) sc_l_right.nd rfl (Or.inr rfl) (pe_new G_Circuit (hr.mono (by decide)) rfl (pa_cons (pe_go G_l_circuit_text (hr.mono (by decide)) rfl (pa_cons (pv 1) pa_nil)) pa_nil)))
      (pss_cons (ps_par (i := 3) (j := 4) (by rfl) sc_l_right.nd rfl rfl (by decide) rfl rfl (pa_cons (pe_go G_l_circuit_names (hr.mono (by decide)) rfl (pa_cons (pv 1) (pa_cons pe_str pa_nil))) (pa_cons (pe_go G_l_circuit_names_s (hr.mono (by decide)) rfl (pa_cons (pv 1) (pa_cons pe_str pa_nil))) pa_nil)) (by rfl))
      (pss_cons (ps_set (i := 5) sc_l_right.nd rfl (Or.inl rfl) (pe_op op_cat (pe_op op_cat (pv 3) (pv 4)) (pe_lst (pa_cons pe_str (pa_cons pe_str (pa_cons pe_str (pa_cons pe_non (pa_cons (pe_tup (pa_cons (pe_ix ix_list (pv 3) pe_int (fun _ _ => rfl)) pa_nil)) (pa_cons (pe_op op_add_str (pe_ix ix_list (pv 3) pe_int (fun _ _ => rfl)) pe_str) (pa_cons (pe_go G_l_odd (hr.mono (by decide)) rfl (pa_cons (pv 0) pa_nil)) pa_nil))))))))))
      (pss_cons (ps_set (i := 6) sc_l_right.nd rfl (Or.inl rfl) (pe_op op_cat (pe_op op_cat (pe_lst (pa_cons (pe_tup (pa_cons pe_int (pa_cons pe_int pa_nil))) (pa_cons (pe_tup (pa_cons pe_int (pa_cons pe_int pa_nil))) (pa_cons (pe_tup (pa_cons pe_int (pa_cons pe_int pa_nil))) (pa_cons (pe_tup (pa_cons (pe_un un_neg pe_int) (pa_cons pe_int pa_nil))) pa_nil))))) (pe_lc (own := [("lap", 7)]) (g := gName 7) (tt := tYes) rfl sc_l_right.nd (pi_range1 rfl T.n_range (pa_cons pe_int pa_nil)) (blkOk_by (N := N_l_right) (sc := defScope s_l_right) (by decide +kernel)) (fun _ _ _ _ _ => pg_name (i := 7) sc_l_right.nd rfl (Or.inl rfl)) (fun _ _ _ _ _ => pts_nil) (fun _ _ _ _ _ => by exact (pe_go G_l_bent_frac (hr.mono (by decide)) rfl (pa_cons (pv 0) (pa_cons (pe_tup (pa_cons pe_int (pa_cons pe_int pa_nil))) pa_nil)))))) (pe_lst (pa_cons (pe_go G_l_odd (hr.mono (by decide)) rfl (pa_cons (pv 0) pa_nil)) pa_nil))))
      (pss_cons (ps_for PassesOwn.never rfl (pi_range1 rfl T.n_range (pa_cons pe_int pa_nil)) (pg_name (i := 7) sc_l_right.nd rfl (Or.inl rfl))
        (pss_cons (ps_asg (pe_tup (pa_cons (pe_go G_l_of (hr.mono (by decide)) rfl (pa_cons (pv 0) (pa_cons (pv 5) pa_nil))) (pa_cons (pe_go G_l_of (hr.mono (by decide)) rfl (pa_cons (pv 0) (pa_cons (pv 6) pa_nil))) pa_nil))) (pg_tup rfl (pgs_cons (pg_name (i := 8) sc_l_right.nd rfl (Or.inr rfl)) (pgs_cons (pg_name (i := 9) sc_l_right.nd rfl (Or.inr rfl)) pgs_nil))))
        (pss_cons (ps_asg (pe_go G_l_due (hr.mono (by decide)) rfl (pa_cons (pv 3) (pa_cons (pv 8) (pa_cons (pe_go G_l_frac_is_sizeA (hr.mono (by decide)) rfl (pa_cons (pv 9) pa_nil)) (pa_cons (pv 9) (pa_cons (pe_tup (pa_cons pe_str (pa_cons pe_str pa_nil))) pa_nil)))))) (pg_tup rfl (pgs_cons (pg_name (i := 10) sc_l_right.nd rfl (Or.inl rfl)) (pgs_cons (pg_name (i := 11) sc_l_right.nd rfl (Or.inl rfl)) pgs_nil))))
        (pss_cons (ps_if (pt_not (pt_val (pe_lam (T := [(Pt_l_right, "_law_right" ++ ".<locals>." ++ "<lambda>")]) (c := ct_l_right) (P := Pt_l_right) G_l_is_raised rfl rfl rfl (fun _ => hgd) (hr.mono (by decide)) TB_l_right rfl (List.mem_singleton.mpr rfl) (fun p hp _ => by rw [List.mem_singleton.mp hp]; rfl) (LamX.lamS_by (show LamX.lamSB (defScope s_l_right) _ = true from by decide +kernel)) rfl (fun _ _ _ _ _ => rfl) (fun _ _ _ _ _ _ _ hr2 => (pe_goX G_with_sizeX takesL (fun _ _ _ _ h => h) (hr2.mono (by decide)) rfl (pa_cons (pv 2) (pa_cons (pv 8) (pa_cons (pv 9) pa_nil))))) (pa_cons (pv 10) (pa_cons (pv 11) pa_nil)))))
          (pss_one (ps_ret pe_bl))
          pss_nil)
        (pss_cons (ps_asg (pe_go G_l_due (hr.mono (by decide)) rfl (pa_cons (pv 4) (pa_cons (pv 8) (pa_cons (pe_go G_l_frac_isA (hr.mono (by decide)) rfl (pa_cons (pv 9) pa_nil)) (pa_cons (pv 9) (pa_cons (pe_tup (pa_cons pe_str (pa_cons pe_str pa_nil))) pa_nil)))))) (pg_tup rfl (pgs_cons (pg_name (i := 10) sc_l_right.nd rfl (Or.inl rfl)) (pgs_cons (pg_name (i := 11) sc_l_right.nd rfl (Or.inl rfl)) pgs_nil))))
        (pss_one (ps_if (pt_not (pt_val (pe_lam (T := [(Pt_l_right, "_law_right" ++ ".<locals>." ++ "<lambda>")]) (c := ct_l_right) (P := Pt_l_right) G_l_is_raised rfl rfl rfl (fun _ => hgd) (hr.mono (by decide)) TB_l_right rfl (List.mem_singleton.mpr rfl) (fun p hp _ => by rw [List.mem_singleton.mp hp]; rfl) (LamX.lamS_by (show LamX.lamSB (defScope s_l_right) _ = true from by decide +kernel)) rfl (fun _ _ _ _ _ => rfl) (fun _ _ _ _ _ _ _ hr2 => (pe_goKX (ks := ["circuit", "voltage", "source"]) [0, 2, 1] G_with_sourceX D_with_source (fun _ _ _ _ _ _ ws hl => match ws, hl with | [_, _, _], _ => rfl) takesL (fun _ _ _ _ h => h) (hr2.mono (by decide)) rfl (pk_cons (pv 2) (pk_cons (pv 9) (pk_cons (pv 8) pk_nil))))) (pa_cons (pv 10) (pa_cons (pv 11) pa_nil)))))
          (pss_one (ps_ret pe_bl))
          pss_nil)))))))
      (pss_one (ps_ret pe_bl)))))))), ?_⟩
    clear D G_l_circuit_any G_Circuit G_l_circuit_text G_l_circuit_names G_l_circuit_names_s G_l_odd G_l_bent_frac G_l_of G_l_due G_l_frac_is_sizeA G_l_frac_isA G_l_is_raised G_with_sizeX G_with_sourceX
    refine into_set ⟨_, rfl, p, G, n, rfl, bs, ht, by omega, fun v o G1 H1 s1 b1 t1 ho ok dr five fewj fews => ?_⟩
    refine into_name ?_
    refine into_set ?_
    refine ⟨_, rfl, v, o, rfl, ho.same b1.sub, ok, fun H2 s2 => ?_⟩
    refine fun x dx nx ndx nn => ?_
    have sa : Same H2 (upd H2 dx (.own x)) := same_upd ndx
    have sb : Same H2 (upd (upd H2 dx (.own x)) x (.ins C dx [])) := sa.trans (same_upd (by rw [upd_ne (fun z => nn z.symm)]; exact nx))
    refine ⟨H2, x, dx, o, rfl, sb, nx, upd_same, ok, fun H3 s3 hc => ⟨rfl, ?_⟩⟩
    have s23 := s2.trans s3
    have t3 := t1.same' s23
    obtain ⟨pa, pb, pc, e3, _⟩ := id t3
    have gh : Same G (Ct.hide p H3) := same_hide (s1.trans (b1.sub.trans s23)) bs.out
    have ho3 : OwnAt K (Ct.hide p H3) v o := OwnAt.hide e3 (ho.same (b1.sub.trans s23))
    have hc3 : CircN K C (Ct.hide p H3) (.ref x) o := CircN.hide e3 hc
    have b3 := beside_hide p H3
    have hT3 := hT.ext gh
    have k3 : ∀ H', LamX.ExtN (Ct.hide p H3) H' → LamX.Tabs (TRight Pt_l_right) H' → Q (.bl true) H' := fun H' e t => k H' (extN_trans (same_extN gh) e) t
    generalize Ct.hide p H3 = X at *
    refine into_name ?_
    refine st_is (σ' := [some (.ref p), some v, some (.ref x), none, none, none, none, none, none, none, none, none]) rfl ?_
    -- parts, sources
    refine into_seq (into_par (into_cons ?_))
    refine ⟨_, rfl, v, o, true, rfl, ho3.same b3.sub, ok, fun l1 H4 s4 n4 h4 => ?_⟩
    refine into_args1 ?_
    refine ⟨_, rfl, v, o, rfl, ho3.same (b3.sub.trans s4), ok, fun l2 H5 s5 n5 h5 => ⟨_, _, rfl, ?_⟩⟩
    have h4 : H4 l1 = some (.lst ((o.parts.map (·.1)).map V.str)) := h4
    dsimp only
    refine st_is (σ' := [some (.ref p), some v, some (.ref x), some (.ref l1), some (.ref l2), none, none, none, none, none, none, none]) rfl ?_
    have h45 := s5 _ _ h4
    -- names
    have lp : ((o.parts.map (·.1)).map V.str).length = o.parts.length := by rw [List.length_map, List.length_map]
    have ls : ((o.sources.map (·.1)).map V.str).length = o.sources.length := by rw [List.length_map, List.length_map]
    have pf := ok.p_few
    have sf := ok.s_few
    refine into_set ⟨_, rfl, _, rfl, l1, l2, _, _, rfl, rfl, h45, h5, by rw [lp, ls]; show _ ≤ 16777216; omega, fun c1 nc1 => ?_⟩
    have s6 := same_upd (o := .lst ((o.parts.map (·.1)).map V.str ++ (o.sources.map (·.1)).map V.str)) nc1
    have hc1 : upd H5 c1 (.lst ((o.parts.map (·.1)).map V.str ++ (o.sources.map (·.1)).map V.str)) c1 = some (.lst ((o.parts.map (·.1)).map V.str ++ (o.sources.map (·.1)).map V.str)) := upd_same
    generalize upd H5 c1 (.lst ((o.parts.map (·.1)).map V.str ++ (o.sources.map (·.1)).map V.str)) = H6 at *
    have s36 : Same H3 H6 := s4.trans (s5.trans s6)
    obtain ⟨e0, ps, ep⟩ : ∃ e0 ps, o.parts = e0 :: ps := by
      cases hq : o.parts with
      | nil => have := ok.p_some; rw [hq] at this; exact absurd this (by decide)
      | cons a r => exact ⟨a, r, rfl⟩
    have n0 : Name e0.1 := (ok.prt e0 (by rw [ep]; exact List.mem_cons_self)).1
    have at0 : atI ((o.parts.map (·.1)).map V.str) 0 = some (.str e0.1) := by rw [ep]; exact atI_nat (j := 0) rfl
    refine ⟨_, rfl, l1, _, 0, _, rfl, rfl, SqL.of (s6 _ _ h45), at0, by show 1 ≤ 16777216; decide, fun t nt => ?_⟩
    have s7 := same_upd (o := .tup [V.str e0.1]) nt
    have h7 : upd H6 t (.tup [V.str e0.1]) t = some (.tup [V.str e0.1]) := upd_same
    generalize upd H6 t (.tup [V.str e0.1]) = H7 at *
    have s37 := s36.trans s7
    refine ⟨_, rfl, l1, _, 0, _, rfl, rfl, SqL.of (s7 _ _ (s6 _ _ h45)), at0, ?_⟩
    refine ⟨e0.1, "q", rfl, rfl, by have := n0.2.1; have : ("q" : Str).length = 1 := by decide +kernel
                                    show _ ≤ 16777216; omega, ?_⟩
    have t7 := t3.same' s37
    refine ⟨_, rfl, p, Ct.hide p H7, n + 403, rfl, beside_hide p H7, t7, by omega, fun u d Gn G8 H8 s8 b8 t8 sn8 nw8 hu hd => ⟨by show 7 ≤ 16777216; decide, fun q1 nq1 => ?_⟩⟩
    have out7 : ∀ y o, y ≠ p → H7 y = some o → H8 y = some o := fun y o ny e => b8.sub _ _ (s8 _ _ ((hide_ne ny).trans e))
    have npc : c1 ≠ p := fun z => by
      obtain ⟨_, _, _, e, _⟩ := id (t3.same' (s4.trans s5))
      rw [z] at nc1
      rw [e] at nc1
      cases nc1
    have hc8 : H8 c1 = some (.lst ((o.parts.map (·.1)).map V.str ++ (o.sources.map (·.1)).map V.str)) := out7 _ _ npc (s7 _ _ hc1)
    have s9 := same_upd (o := .lst [V.str "gnd", V.str "zzz", V.str "", V.non, V.ref t, V.str (e0.1 ++ "q"), u]) nq1
    refine ⟨c1, q1, _, _, rfl, rfl, s9 _ _ hc8, upd_same, by rw [List.length_append, lp, ls]; show _ + 7 ≤ 16777216; omega, fun nm nnm => ?_⟩
    have s10 := same_upd (o := .lst ((o.parts.map (·.1)).map V.str ++ (o.sources.map (·.1)).map V.str ++ [V.str "gnd", V.str "zzz", V.str "", V.non, V.ref t, V.str (e0.1 ++ "q"), u])) nnm
    have hnm : upd (upd H8 q1 (.lst [V.str "gnd", V.str "zzz", V.str "", V.non, V.ref t, V.str (e0.1 ++ "q"), u])) nm (.lst ((o.parts.map (·.1)).map V.str ++ (o.sources.map (·.1)).map V.str ++ [V.str "gnd", V.str "zzz", V.str "", V.non, V.ref t, V.str (e0.1 ++ "q"), u])) nm = some (.lst ((o.parts.map (·.1)).map V.str ++ (o.sources.map (·.1)).map V.str ++ [V.str "gnd", V.str "zzz", V.str "", V.non, V.ref t, V.str (e0.1 ++ "q"), u])) := upd_same
    have s810 := s9.trans s10
    generalize upd (upd H8 q1 (.lst [V.str "gnd", V.str "zzz", V.str "", V.non, V.ref t, V.str (e0.1 ++ "q"), u])) nm (.lst ((o.parts.map (·.1)).map V.str ++ (o.sources.map (·.1)).map V.str ++ [V.str "gnd", V.str "zzz", V.str "", V.non, V.ref t, V.str (e0.1 ++ "q"), u])) = H9 at *
    refine into_name ?_
    refine st_is (σ' := [some (.ref p), some v, some (.ref x), some (.ref l1), some (.ref l2), some (.ref nm), none, none, none, none, none, none]) rfl ?_
    have t9 := t8.same' s810
    have npm : nm ≠ p := fun z => by
      obtain ⟨_, _, _, e, _⟩ := id (t8.same' s9)
      rw [z] at nnm
      rw [e] at nnm
      cases nnm
    -- all that stands, the pot aside
    have sXG : Same X G8 := (same_hide (b3.sub.trans s37) b3.out).trans s8
    have sG9 : Same G8 (Ct.hide p H9) := same_hide (b8.sub.trans s810) b8.out
    have np1 : l1 ≠ p := fun z => by
      obtain ⟨_, _, _, e, _⟩ := id t3
      rw [z] at n4
      rw [e] at n4
      cases n4
    have np2 : l2 ≠ p := fun z => by
      obtain ⟨_, _, _, e, _⟩ := id (t3.same' s4)
      rw [z] at n5
      rw [e] at n5
      cases n5
    have npt : t ≠ p := fun z => by
      obtain ⟨_, _, _, e, _⟩ := id (t3.same' s36)
      rw [z] at nt
      rw [e] at nt
      cases nt
    have g1 : Ct.hide p H9 l1 = some (.lst ((o.parts.map (·.1)).map V.str)) := (hide_ne np1).trans (s810 _ _ (out7 _ _ np1 (s7 _ _ (s6 _ _ h45))))
    have g2 : Ct.hide p H9 l2 = some (.lst ((o.sources.map (·.1)).map V.str)) := (hide_ne np2).trans (s810 _ _ (out7 _ _ np2 (s7 _ _ (s6 _ _ h5))))
    have gt : Ct.hide p H9 t = some (.tup [V.str e0.1]) := (hide_ne npt).trans (s810 _ _ (out7 _ _ npt h7))
    have gn : Ct.hide p H9 nm = some (.lst ((o.parts.map (·.1)).map V.str ++ (o.sources.map (·.1)).map V.str ++ [V.str "gnd", V.str "zzz", V.str "", V.non, V.ref t, V.str (e0.1 ++ "q"), u])) := (hide_ne npm).trans hnm
    have names : AnyAll K (Ct.hide p H9) ((o.parts.map (·.1)).map V.str ++ (o.sources.map (·.1)).map V.str ++ [V.str "gnd", V.str "zzz", V.str "", V.non, V.ref t, V.str (e0.1 ++ "q"), u]) ((o.parts.map (·.1)).map PyData.str ++ (o.sources.map (·.1)).map PyData.str ++ [.str "gnd", .str "zzz", .str "", .none, .tuple [.str e0.1], .str (e0.1 ++ "q"), d]) :=
      ((strs_any _).append (strs_any _)).append (.cons (.str _) (.cons (.str _) (.cons (.str _) (.cons .non (.cons (.tup (SqT.of gt) (.cons (.str _) .nil)) (.cons (.str _) (.cons (hu.same (sn8.trans sG9)) .nil)))))))
    have small : ∀ y : Str, Name y → y.length ≤ 20 ∧ ∀ c ∈ y.cps.toList, c < 16 ^ 8 := fun y hy => ⟨by have := hy.2.1; omega, fun c hc => Nat.lt_of_le_of_lt (hy.2.2.1 c hc).2 (by decide)⟩
    have namesOk : ∀ e ∈ ((o.parts.map (·.1)).map PyData.str ++ (o.sources.map (·.1)).map PyData.str ++ [.str "gnd", .str "zzz", .str "", .none, .tuple [.str e0.1], .str (e0.1 ++ "q"), d] : List PyData), showB e = true := by
      intro e he
      rcases List.mem_append.mp he with he | he
      · have : ∃ y, Name y ∧ e = .str y := by
          rcases List.mem_append.mp he with he | he
          · obtain ⟨y, hy, rfl⟩ := List.mem_map.mp he
            obtain ⟨z, hz, rfl⟩ := List.mem_map.mp hy
            exact ⟨_, (ok.prt z hz).1, rfl⟩
          · obtain ⟨y, hy, rfl⟩ := List.mem_map.mp he
            obtain ⟨z, hz, rfl⟩ := List.mem_map.mp hy
            exact ⟨_, (ok.src z hz).1, rfl⟩
        obtain ⟨y, hy, rfl⟩ := this
        exact str_show (small y hy).1 (small y hy).2
      · simp only [List.mem_cons, List.not_mem_nil, or_false] at he
        rcases he with rfl | rfl | rfl | rfl | rfl | rfl | rfl
        · decide +kernel
        · decide +kernel
        · decide +kernel
        · decide +kernel
        · exact tup_show (small _ n0).1 (small _ n0).2
        · refine str_show ?_ fun c hc => ?_
          · rw [len_app]
            have := n0.2.1
            have : ("q" : Str).length = 1 := by decide +kernel
            omega
          · have hc : c ∈ tl (e0.1 ++ "q") := hc
            rw [tl_append, List.mem_append] at hc
            rcases hc with hc | hc
            · exact (small _ n0).2 c hc
            · have : tl ("q" : Str) = [113] := by decide +kernel
              rw [this, List.mem_singleton] at hc
              rw [hc]
              decide
        · have q := List.all_eq_true.mp odd_fine _ hd
          rw [Bool.and_eq_true] at q
          exact q.1
    have nvp0 : 0 < ((o.parts.map (·.1)).map V.str ++ (o.sources.map (·.1)).map V.str ++ [V.str "gnd", V.str "zzz", V.str "", V.non, V.ref t, V.str (e0.1 ++ "q"), u] : List V).length ∧ ((o.parts.map (·.1)).map V.str ++ (o.sources.map (·.1)).map V.str ++ [V.str "gnd", V.str "zzz", V.str "", V.non, V.ref t, V.str (e0.1 ++ "q"), u] : List V).length < 1000 := by
      rw [List.length_append, List.length_append, lp, ls]
      exact ⟨by show 0 < _ + 7; omega, by show _ + 7 < 1000; omega⟩
    generalize ((o.parts.map (·.1)).map V.str ++ (o.sources.map (·.1)).map V.str ++ [V.str "gnd", V.str "zzz", V.str "", V.non, V.ref t, V.str (e0.1 ++ "q"), u] : List V) = nv at *
    generalize ((o.parts.map (·.1)).map PyData.str ++ (o.sources.map (·.1)).map PyData.str ++ [.str "gnd", .str "zzz", .str "", .none, .tuple [.str e0.1], .str (e0.1 ++ "q"), d] : List PyData) = nd at *
    have lnv : nv.length = nd.length := names.length
    have nvp : 0 < nv.length ∧ nv.length < 1000 := nvp0
    have s39 : Same X (Ct.hide p H9) := sXG.trans sG9
    clear s7 s6 s5 s4 s9 s10 s810 hc8 hc1 out7
    -- numbers
    refine into_set (into_op (into_op (row_new (K := K) (p := p) (G := fun _ => none) (ds := [pD 1 2, pD 3 1, pD 0 1, pD (-1) 2]) ?_ ⟨rfl, fun _ _ z => by cases z⟩ (fun z => t9.some z) (by show 4 ≤ 16777216; decide) fun a1 v1 Ga Ha ga fa na ha wa => ?_)))
    · unfold pD
      repeat' first | exact gas_nil | refine gas_cons ?_ ?_ | exact ga_int | refine ga_tup ?_ (by show 2 ≤ 16777216; decide) | exact ga_neg ga_int
    have ta := t9.same' ga.ext
    refine bent_comp (K := K) (m := n + 403 + 1) (fun _ => rfl) (fun _ => rfl) ta (by omega) fun D vs ds Hb nD sb tb hD all lvs fine => ?_
    have npa : a1 ≠ p := fun z => by
      rw [z] at fa
      exact t9.some fa
    have npD : D ≠ p := fun z => ta.some (z ▸ nD)
    have outb : ∀ y o, y ≠ p → Ha y = some o → Hb y = some o := fun y o ny e => by
      have := sb y o ((hide_ne ny).trans e)
      rwa [hide_ne ny] at this
    have hb1 := outb _ _ npa ha
    have lv1 : v1.length = 4 := wa.length
    refine ⟨a1, D, v1, vs, rfl, rfl, hb1, hD, by rw [lv1, lvs]; show 10 ≤ 16777216; decide, fun c2 nc2 => ?_⟩
    have sc := same_upd (o := .lst (v1 ++ vs)) nc2
    have hc2 : upd Hb c2 (.lst (v1 ++ vs)) c2 = some (.lst (v1 ++ vs)) := upd_same
    generalize upd Hb c2 (.lst (v1 ++ vs)) = Hc at *
    have tc := tb.same' sc
    have npc2 : c2 ≠ p := fun z => tb.some (z ▸ nc2)
    refine ⟨_, rfl, p, Ct.hide p Hc, _, rfl, beside_hide p Hc, tc, by omega, fun u2 d2 Gn2 G10 H10 s10 b10 t10 sn10 nw10 hu2 hd2 => ⟨by show 1 ≤ 16777216; decide, fun q2 nq2 => ?_⟩⟩
    have outc : ∀ y o, y ≠ p → Hc y = some o → H10 y = some o := fun y o ny e => b10.sub _ _ (s10 _ _ ((hide_ne ny).trans e))
    have s11 := same_upd (o := .lst [u2]) nq2
    refine ⟨c2, q2, _, _, rfl, rfl, s11 _ _ (outc _ _ npc2 hc2), upd_same, by rw [List.length_append, lv1, lvs]; show 11 ≤ 16777216; decide, fun nu nnu => ?_⟩
    have s12 := same_upd (o := .lst (v1 ++ vs ++ [u2])) nnu
    have hnu : upd (upd H10 q2 (.lst [u2])) nu (.lst (v1 ++ vs ++ [u2])) nu = some (.lst (v1 ++ vs ++ [u2])) := upd_same
    have s1012 := s11.trans s12
    have npnu : nu ≠ p := fun z => (t10.same' s11).some (z ▸ nnu)
    generalize upd (upd H10 q2 (.lst [u2])) nu (.lst (v1 ++ vs ++ [u2])) = HZ at *
    refine into_name ?_
    refine st_is (σ' := [some (.ref p), some v, some (.ref x), some (.ref l1), some (.ref l2), some (.ref nm), some (.ref nu), none, none, none, none, none]) rfl ?_
    have tZ := t10.same' s1012
    have outZ : ∀ y o, y ≠ p → Hb y = some o → HZ y = some o := fun y o ny e => s1012 _ _ (outc y o ny (sc _ _ e))
    have s9Z : Same (Ct.hide p H9) (Ct.hide p HZ) := fun y o e => by
      have ny : y ≠ p := fun z => by rw [z, hide_at] at e; cases e
      rw [hide_ne ny] at e ⊢
      exact outZ y o ny (outb y o ny (ga.ext _ _ e))
    have numbers : AnyAll K (Ct.hide p HZ) (v1 ++ vs ++ [u2]) ([pD 1 2, pD 3 1, pD 0 1, pD (-1) 2] ++ ds ++ [d2]) := by
      refine ((wa.same fun y o e => ?_).append (all.same fun y o e => ?_)).append (.cons (hu2.same fun y o e => ?_) .nil)
      · have ny : y ≠ p := fun z => by rw [z, ga.bes.out] at e; cases e
        rw [hide_ne ny]
        exact outZ y o ny (outb y o ny (ga.bes.sub _ _ e))
      · have nyD : y ≠ D := fun z => by rw [z, hide_at] at e; cases e
        rw [hide_ne nyD] at e
        have ny : y ≠ p := fun z => by rw [z, hide_at] at e; cases e
        rw [hide_ne ny] at e ⊢
        exact outZ y o ny e
      · have e2 := sn10 _ _ e
        have ny : y ≠ p := fun z => by rw [z, b10.out] at e2; cases e2
        rw [hide_ne ny]
        exact s1012 _ _ (b10.sub _ _ e2)
    have numbersOk : ∀ e ∈ ([pD 1 2, pD 3 1, pD 0 1, pD (-1) 2] ++ ds ++ [d2] : List PyData), showB e = true ∧ FewD e := by
      intro e he
      rcases List.mem_append.mp he with he | he
      · rcases List.mem_append.mp he with he | he
        · have q : (([pD 1 2, pD 3 1, pD 0 1, pD (-1) 2] : List PyData).all fun e => showB e && fewB e) = true := by decide +kernel
          have q := List.all_eq_true.mp q e he
          rw [Bool.and_eq_true] at q
          exact ⟨q.1, few_of q.2⟩
        · have q := List.all_eq_true.mp bent_fine _ (fine e he)
          rw [Bool.and_eq_true] at q
          exact ⟨q.1, few_of q.2⟩
      · rw [List.mem_singleton.mp he]
        have q := List.all_eq_true.mp odd_fine _ hd2
        rw [Bool.and_eq_true] at q
        exact ⟨q.1, few_of q.2⟩
    have gnu : Ct.hide p HZ nu = some (.lst (v1 ++ vs ++ [u2])) := (hide_ne npnu).trans hnu
    have lnu : (v1 ++ vs ++ [u2]).length = ([pD 1 2, pD 3 1, pD 0 1, pD (-1) 2] ++ ds ++ [d2]).length := numbers.length
    have lnu2 : (v1 ++ vs ++ [u2]).length = 11 := by rw [List.length_append, List.length_append, lv1, lvs]; rfl
    generalize v1 ++ vs ++ [u2] = wv at *
    generalize ([pD 1 2, pD 3 1, pD 0 1, pD (-1) 2] ++ ds ++ [d2] : List PyData) = wd at *
    have sXZ := s39.trans s9Z
    have kZ : ∀ H', LamX.ExtN (Ct.hide p HZ) H' → LamX.Tabs (TRight Pt_l_right) H' → Q (.bl true) H' := fun H' e t => k3 H' (extN_trans (same_extN sXZ) e) t
    have hTZ := hT3.ext sXZ
    have hcZ := (hc3.same sXZ).noT
    have namesZ := (names.same s9Z).noT
    have numsZ := numbers.noT
    have g1Z : SqL K (noT (Ct.hide p HZ)) l1 ((o.parts.map (·.1)).map V.str) := SqL.noT (SqL.of (s9Z _ _ g1))
    have g2Z : SqL K (noT (Ct.hide p HZ)) l2 ((o.sources.map (·.1)).map V.str) := SqL.noT (SqL.of (s9Z _ _ g2))
    have gnZ : SqL K (noT (Ct.hide p HZ)) nm nv := SqL.noT (SqL.of (s9Z _ _ gn))
    have gwZ : SqL K (noT (Ct.hide p HZ)) nu wv := SqL.noT (SqL.of gnu)
    have bZ := beside_hide p HZ
    have tZ' : PotAt p HZ (n + 417) := tZ.more (by omega) (by omega)
    clear numbers names gnu gn g1 g2 gt hnu hnm s9Z s39 outZ outc outb
    generalize Ct.hide p HZ = Y at *
    have pY := bZ.out
    clear ho3 ho hc hc3 e3
    -- twelve laps
    refine into_seq ⟨(12 : Int), rfl, by decide, by decide, for_range (lo := 0) (n := 12) (fun i σ H' => ∃ v7 v8 v9 v10 v11 : Option V, σ = [some (.ref p), some v, some (.ref x), some (.ref l1), some (.ref l2), some (.ref nm), some (.ref nu), v7, v8, v9, v10, v11] ∧ LamX.ExtN Y H' ∧ LamX.Tabs (TRight Pt_l_right) H' ∧ PotAt p H' (n + 417 + 2 * i))
      ⟨_, _, _, _, _, rfl, same_extN bZ.sub, hTZ.ext bZ.sub, tZ'⟩ ?_ ?_⟩
    · rintro i σ H' hi ⟨v7, v8, v9, v10, v11, rfl, eY, Ti, ti⟩
      obtain ⟨ra, rb, rc, eP, _⟩ := id ti
      have TG := Tabs.hide eP Ti
      have eG := extN_hide2 pY eY
      have sG := noT_ext (noT_same (H := Y)) eG
      refine into_name ?_
      refine ⟨_, rfl, _, rfl, p, nm, Ct.hide p H', _, nv, rfl, beside_hide p H', ti, by omega, Same.seq sG gnZ, nvp.1, by omega, fun i1 z G5 H5 hz s5 b5 t5 => ⟨_, rfl, _, rfl, p, nu, G5, _, wv, rfl, b5, t5, by omega, Same.seq (sG.trans s5) gwZ, by omega, by omega, fun i2 u0 G6 H6 hu s6 b6 t6 => ⟨by show 2 ≤ 16777216; decide, fun q nq => ?_⟩⟩⟩
      obtain ⟨d1, hd1, az⟩ := namesZ.at_ hz
      obtain ⟨d2, hd2', au⟩ := numsZ.at_ hu
      have sh1 := namesOk d1 (List.mem_of_getElem? hd1)
      obtain ⟨sh2, few2⟩ := numbersOk d2 (List.mem_of_getElem? hd2')
      have s7 := same_upd (o := .tup [z, u0]) nq
      have h7 : upd H6 q (.tup [z, u0]) q = some (.tup [z, u0]) := upd_same
      generalize upd H6 q (.tup [z, u0]) = H7 at *
      have sy7 : Same (noT Y) H7 := sG.trans (s5.trans (s6.trans (b6.sub.trans s7)))
      have T7 := TG.ext (s5.trans (s6.trans (b6.sub.trans s7)))
      have e7 : LamX.ExtN Y H7 := extN_trans eG (same_extN (s5.trans (s6.trans (b6.sub.trans s7))))
      have t7' := t6.same' s7
      refine ⟨q, _, rfl, .inl (.inl h7), rfl, _, _, rfl, _, _, rfl, rfl, ?_⟩
      dsimp only
      refine st_is (σ' := [some (.ref p), some v, some (.ref x), some (.ref l1), some (.ref l2), some (.ref nm), some (.ref nu), some (.int (0 + (i : Int))), some z, some u0, v10, v11]) rfl ?_
      clear eY Ti TG eG eP
      -- sizes
      refine ⟨_, rfl, _, rfl, _, rfl, u0, d2, rfl, au.same sy7, fun H8 s8 => ⟨_, rfl, into_args1 ⟨by show 2 ≤ 16777216; decide, fun w1 nw1 => ?_⟩⟩⟩
      have s9 := same_upd (o := .tup [V.str "part", V.str "size"]) nw1
      have h9 : upd H8 w1 (.tup [V.str "part", V.str "size"]) w1 = some (.tup [V.str "part", V.str "size"]) := upd_same
      generalize upd H8 w1 (.tup [V.str "part", V.str "size"]) = H9' at *
      have s79 := s8.trans s9
      refine due_one (u := u0) (r := isSize d2) (d := d1) (ns := o.parts.map (·.1)) (w0 := "part") (w1 := "size") (az.same (sy7.trans s79)) (Same.seq (sy7.trans s79) g1Z) (SqT.of h9) fun kind vv q1 HA due sA hq1 => ?_
      refine ⟨q1, _, rfl, .inl (.inl hq1), rfl, _, _, rfl, _, _, rfl, rfl, ?_⟩
      dsimp only
      refine st_is (σ' := [some (.ref p), some v, some (.ref x), some (.ref l1), some (.ref l2), some (.ref nm), some (.ref nu), some (.int (0 + (i : Int))), some z, some u0, some (.str kind), some vv]) rfl ?_
      have s7A := s79.trans sA
      refine into_if (into_not (into_b ⟨T7.ext s7A, fun HB c' lf eB TB' hco => ⟨_, rfl, into_args1 ⟨_, rfl, ?_⟩⟩⟩))
      have syB : Same (noT Y) HB := noT_ext (sy7.trans s7A) eB
      have tB := (t7'.same' s7A).ext eB
      have eYB : LamX.ExtN Y HB := extN_trans e7 (extN_trans (same_extN s7A) eB)
      refine asked (mk := [("part", CNP), ("size", CBS), ("source", CNS), ("voltage", CBV)]) (CN := CNP) (CX := CBS) (sel := Own.parts) (g := isSize) (d1 := d1) (d2 := d2) (w0 := "part") (w1 := "size") (by simp) (by simp) (hcZ.same syB) ok (az.same syB) (au.same syB) few2 sh1 sh2 due (fun HC sC => ⟨true, rfl, iteF (into_next ?_)⟩) fun E' H0 R s0 sp => ⟨s0 _ _ hco, _, rfl, _, rfl, _, rfl, sp⟩
      dsimp only
      have syC := syB.trans sC
      have TC := TB'.ext sC
      have eYC : LamX.ExtN Y HC := extN_trans eYB (same_extN sC)
      have tC' := tB.same' sC
      clear due
      -- voltages
      refine ⟨_, rfl, _, rfl, _, rfl, u0, d2, rfl, au.same syC, fun H8' s8' => ⟨_, rfl, into_args1 ⟨by show 2 ≤ 16777216; decide, fun w2 nw2 => ?_⟩⟩⟩
      have s9' := same_upd (o := .tup [V.str "source", V.str "voltage"]) nw2
      have h9' : upd H8' w2 (.tup [V.str "source", V.str "voltage"]) w2 = some (.tup [V.str "source", V.str "voltage"]) := upd_same
      generalize upd H8' w2 (.tup [V.str "source", V.str "voltage"]) = HD at *
      have sCD := s8'.trans s9'
      refine due_one (u := u0) (r := isFr d2) (d := d1) (ns := o.sources.map (·.1)) (w0 := "source") (w1 := "voltage") (az.same (syC.trans sCD)) (Same.seq (syC.trans sCD) g2Z) (SqT.of h9') fun kind2 vv2 q2 HE due sE hq2 => ?_
      refine ⟨q2, _, rfl, .inl (.inl hq2), rfl, _, _, rfl, _, _, rfl, rfl, ?_⟩
      dsimp only
      refine st_is (σ' := [some (.ref p), some v, some (.ref x), some (.ref l1), some (.ref l2), some (.ref nm), some (.ref nu), some (.int (0 + (i : Int))), some z, some u0, some (.str kind2), some vv2]) rfl ?_
      have sCE := sCD.trans sE
      refine into_ifE (into_not (into_b ⟨TC.ext sCE, fun HF c2' lf2 eF TF hco2 => ⟨_, rfl, into_args1 ⟨_, rfl, ?_⟩⟩⟩))
      have syF : Same (noT Y) HF := noT_ext (syC.trans sCE) eF
      have tF := (tC'.same' sCE).ext eF
      have eYF : LamX.ExtN Y HF := extN_trans eYC (extN_trans (same_extN sCE) eF)
      refine asked (mk := [("part", CNP), ("size", CBS), ("source", CNS), ("voltage", CBV)]) (CN := CNS) (CX := CBV) (sel := Own.sources) (g := isFr) (d1 := d1) (d2 := d2) (w0 := "source") (w1 := "voltage") (by simp) (by simp) (hcZ.same syF) ok (az.same syF) (au.same syF) few2 sh1 sh2 due (fun HG sG' => ⟨true, rfl, iteF (into_next ?_)⟩) fun E' H0 R s0 sp => ⟨s0 _ _ hco2, _, rfl, _, rfl, _, rfl, sp⟩
      exact ⟨_, _, _, _, _, rfl, extN_trans eYF (same_extN sG'), TF.ext sG', (tF.same' sG').more (by omega) (by omega)⟩
    · rintro σ H' ⟨v7, v8, v9, v10, v11, rfl, eY, Ti, ti⟩
      try dsimp only
      exact into_ret (kZ H' eY Ti)
end
end Ct

/-! The law's own call, where no repr is under way. -/
namespace Ct
open PySem PySem.Spec PyProof.Rows L2 TL
end Ct

/-! The law's own call, where no repr is under way and tables of code objects are carried. -/
namespace Ct
open PySem PySem.Spec PyProof.Rows L2 TL
/-- the tables that the head leaves empty, each with its code object -/
structure TabsIn (K : PySem.W.Frag) (mg : Str → Option Value) (h : Heap) (cs : List (Addr × Addr)) : Prop where
  tab : ∀ p ∈ cs, h.get? p.2 = some { cls := .none, data := .fields #[] }
  out : ∀ p ∈ cs, K.lookup p.2 = none
  code : ∀ p ∈ cs, PySem.W.CodeHd h p.1 p.2
theorem law_runsT {P : Program} {w : World} {K : PySem.W.Frag} {mg mb : Str → Option Value} {k : Nat} {fa a : Addr} {cs : List (Addr × Addr)} {fd : FuncData} {x : Str} {sp : Sp} {s1 : Shared} {vs : List Value} {ns : List Int}
    (KX : K.In s1.heap) (names : s1.heap.Ns mainGlobals mg) (bnames : s1.heap.Ns builtinsNs mb) (bboot : ∀ y : Str, y ≠ "__name__" → mb y = bootBuiltins y) (lim : s1.heap.NoLimit) (ng : s1.gens = #[]) (TI : TabsIn K mg s1.heap cs)
    (bmod : ∃ (bm : Addr) (ob : Obj), mg "__builtins__" = some (.ref bm) ∧ bm ≠ builtinsNs ∧ s1.heap.get? bm = some ob ∧ ob.cls = .type "module" ∧ ob.dict = some builtinsNs ∧ ob.data = .plain)
    (at_a : s1.heap.get? a = some { cls := .type "list", data := .seq vs.toArray }) (hints0 : IntsAre vs ns) (few : ns.length ≤ sizeLine) (room : Room k callerA)
    (F : ∀ base : Heap, K.In base → base.Ns mainGlobals mg → (∀ p ∈ cs, LamX.TabB base mg p.1 p.2) → FnG P w K mg base k fa fd [x] sp) (bind : ∀ (s : Shared) (u : Value), BindsTo s fd ⟨[u], []⟩ [(x, u)])
    (sat : ∀ H : Hp, (∀ p ∈ cs, H p.2 = some (.tbl #[])) → SqL K H a (ns.map V.int) → sp [.ref a] H (fun v _ => v = .bl true) E0) :
    codeAny (model P w) callerA (.call (.ref fa) ⟨[.ref a], []⟩) (fun r s' => r = .ok (.ret (.bool true)) ∧ OldK s1.heap s'.heap ∧ s'.os = s1.os ∧ AllBare s'.gens) s1 := by
  have rints := vals_ints hints0
  have same := hints0.length
  obtain ⟨T, eT⟩ : ∃ T, T = cs.map (·.2) := ⟨_, rfl⟩
  have inT : ∀ p ∈ cs, p.2 ∈ T := fun p hp => eT ▸ List.mem_map_of_mem (f := (·.2)) hp
  have ofT : ∀ b ∈ T, ∃ p ∈ cs, p.2 = b := fun b hb => by
    rw [eT] at hb
    exact List.mem_map.mp hb
  have emp : ∀ b ∈ T, s1.heap.get? b = some { cls := .none, data := .fields #[] } := fun b hb => by
    obtain ⟨p, hp, rfl⟩ := ofT b hb
    exact TI.tab p hp
  have aT : a ∉ T := fun hb => by
    have q := emp a hb
    rw [at_a] at q
    exact nomatch (show Data.seq vs.toArray _ = Data.fields #[] from congrArg Obj.data (Option.some.inj q))
  have main : ∀ H : Hp, (∀ p ∈ cs, H p.2 = some (.tbl #[])) → (∀ b, H b = none ∨ b ∈ T ∨ ∃ o xs, H b = some (.frz o (.lst xs))) → SqL K H a (ns.map V.int) → HOk P w H s1.heap → (∀ b, H b ≠ none → b = a ∨ b ∈ T) → (H a ≠ none → K.lookup a = none) →
      codeAny (model P w) callerA (.call (.ref fa) ⟨[.ref a], []⟩) (fun r s' => r = .ok (.ret (.bool true)) ∧ OldK s1.heap s'.heap ∧ s'.os = s1.os ∧ AllBare s'.gens) s1 := by
    intro H tabs kinds told fine alone apart
    have clear_ : ∀ {b : Addr} {o : Obj}, s1.heap.get? b = some o → (∀ us n, o.data ≠ .seq us n) → o.data ≠ .fields #[] → H b = none := by
      intro b o e y1 y2
      cases q : H b with
      | none => rfl
      | some u =>
        exfalso
        rcases alone b (by rw [q]; exact fun z => nomatch z) with rfl | hb
        · rw [at_a] at e
          cases e
          exact y1 _ _ rfl
        · rw [emp b hb] at e
          cases e
          exact y2 rfl
    have low : ∀ {b : Addr} {o : Obj}, s1.heap.get? b = some o → H b = none → (hidT s1.heap H).get? b = some o := fun e n => hidT_get e n
    have nsLow : ∀ {b : Addr} {m : Str → Option Value}, s1.heap.Ns b m → (hidT s1.heap H).Ns b m := by
      rintro b m ⟨o, es, ep, e, d, r⟩
      refine ⟨o, es, ep, low e (clear_ e (fun us n z => ?_) fun z => ?_), d, r⟩
      · exact nomatch d.symm.trans z
      · exact nomatch d.symm.trans z
    have KLow : K.In (hidT s1.heap H) := by
      intro b o e
      refine low (KX b o e) ?_
      cases q : H b with
      | none => rfl
      | some u =>
        exfalso
        rcases alone b (by rw [q]; exact fun z => nomatch z) with rfl | hb
        · rw [apart (by rw [q]; exact fun z => nomatch z)] at e
          cases e
        · obtain ⟨p, hp, rfl⟩ := ofT b hb
          rw [TI.out p hp] at e
          cases e
    have modOk : Mod K mg (hidT s1.heap H) := by
      obtain ⟨mc, l1, l2⟩ := lim
      exact ⟨KLow, nsLow names, ⟨mb, nsLow bnames, bboot⟩, ⟨mc, nsLow l1, l2⟩⟩
    have makers : ∀ p ∈ cs, LamX.TabB (hidT s1.heap H) mg p.1 p.2 := by
      intro p hp
      refine ⟨?_, ?_, fun z => ?_⟩
      · obtain ⟨o, us, fl, tf, gs, tg, inner, tx, tt, e1, r1, r2, r3, r4, r5, r6, r7, r8, ne⟩ := TI.code p hp
        refine ⟨o, us, fl, tf, gs, tg, inner, tx, tt, low e1 (clear_ e1 (fun ws n z => nomatch r2.symm.trans z) fun z => ?_), r1, r2, r3, r4, r5, r6, r7, r8, ne⟩
        have z2 := r2.symm.trans z
        cases z2
        exact nomatch r3
      · obtain ⟨bm, ob, m1, m2, m3, m4, m5, m6⟩ := bmod
        have far : bm ≠ p.2 := fun q => by
          rw [q, TI.tab p hp] at m3
          cases m3
          cases m6
        have notG : bm ≠ mainGlobals := fun q => by
          obtain ⟨o, es, ep, e, d, _⟩ := names
          rw [q, e] at m3
          cases m3
          exact nomatch d.symm.trans m6
        exact ⟨bm, ob, m1, m2, notG, far, low m3 (clear_ m3 (fun us n z => nomatch m6.symm.trans z) fun z => nomatch m6.symm.trans z), m4, m5, m6⟩
      · obtain ⟨o, es, ep, e, d, _⟩ := names
        rw [z, TI.tab p hp] at e
        cases e
        cases d
    have env : Env0 P w K mg (hidT s1.heap H) callerA [] s1 H :=
      ⟨rfl, modOk, fun b o e => of_hidT e, Nat.le_of_eq (hidT_size _ _), trivial, (fun b hb => nomatch (show b ∈ ([] : List Addr) from hb)), fine, .of_eq ng⟩
    refine codeAny_mono ((F _ KLow (nsLow names) makers).run callerA [] s1 H ⟨[.ref a], []⟩ [.ref a] [.ref a] _ room rfl env (bind s1 (.ref a)) (.cons rfl .nil) (sat H tabs told)) fun r s2 h => ?_
    cases r with
    | error e => exact False.elim h
    | ok fl =>
      cases fl with
      | next => exact h.elim
      | brk => exact h.elim
      | cont => exact h.elim
      | ret u =>
        obtain ⟨v, H2, os, bare, un, fine2, rv, q⟩ := h
        obtain rfl : v = .bl true := q
        obtain rfl : u = Value.bool true := rv
        have stays : ∀ b o, b ∉ T → s1.heap.get? b = some o → s2.heap.get? b = some o := by
          intro b o nb e
          cases q : H b with
          | none => exact un.keep b o e q (fun z => nomatch (show b ∈ ([] : List Addr) from z)) (by simp)
          | some u =>
            rcases kinds b with z | z | ⟨ob, xs, z⟩
            · rw [q] at z
              cases z
            · exact absurd z nb
            · obtain ⟨i1, _⟩ := fine b _ z
              obtain ⟨i2, _⟩ := fine2 b _ (un.frzs b ob _ z)
              rw [e] at i1
              cases i1
              exact i2
        have longer : ∀ b ∈ T, ∃ more : Array Value, s2.heap.get? b = some { cls := .none, data := .fields more } := by
          intro b hb
          obtain ⟨p, hp, rfl⟩ := ofT b hb
          obtain ⟨more, z⟩ := un.tbls p.2 #[] (tabs p hp)
          exact ⟨_, fine2 p.2 _ z⟩
        refine ⟨rfl, ⟨fun b o e => ?_, fun b o e => ?_⟩, os, bare⟩
        · by_cases hb : b ∈ T
          · obtain ⟨more, hm⟩ := longer b hb
            rw [emp b hb] at e
            cases e
            obtain ⟨p, hp, rfl⟩ := ofT b hb
            exact .inr (.inl ⟨((TI.code p hp).tab (TI.tab p hp)).isCodeTable, rfl, #[], more, rfl, by rw [Array.empty_append]; exact hm⟩)
          · exact .inl (stays b o hb e)
        · by_cases hb : b ∈ T
          · obtain ⟨more, hm⟩ := longer b hb
            exact ⟨_, hm⟩
          · exact ⟨o, stays b o hb e⟩
  have put : ∀ b ∈ T, HOk P w (fun c => if c ∈ T then some (HO.tbl #[]) else none) s1.heap := fun _ _ => by
    intro b u z
    by_cases hb : b ∈ T
    · have z2 := (if_pos hb).symm.trans z
      cases z2
      exact emp b hb
    · exact nomatch (if_neg hb).symm.trans z
  cases hk : K.lookup a with
  | some o =>
    have e := KX a o hk
    rw [at_a] at e
    cases e
    refine main (fun c => if c ∈ T then some (.tbl #[]) else none) (fun p hp => if_pos (inT p hp)) (fun b => ?_) (.inr ⟨_, vs.toArray, _, hk, rfl, rfl, rfl, ?_, by simpa using rints⟩) (fun b u z => ?_) (fun b z => ?_) (fun z => absurd (if_neg aT) z)
    · by_cases hb : b ∈ T
      · exact .inr (.inl hb)
      · exact .inl (if_neg hb)
    · rw [List.size_toArray, same]
      exact few
    · by_cases hb : b ∈ T
      · exact put b hb b u z
      · exact nomatch (if_neg hb).symm.trans z
    · by_cases hb : b ∈ T
      · exact .inr hb
      · exact absurd (if_neg hb) z
  | none =>
    have ne : ∀ p ∈ cs, p.2 ≠ a := fun p hp z => aT (z ▸ inT p hp)
    refine main (fun c => if c = a then some (.frz { cls := .type "list", data := .seq vs.toArray } (.lst (ns.map V.int))) else if c ∈ T then some (.tbl #[]) else none) (fun p hp => (if_neg (ne p hp)).trans (if_pos (inT p hp))) (fun b => ?_) (.inl (.inr ⟨_, if_pos rfl⟩)) (fun b u z => ?_) (fun b z => ?_) (fun _ => hk)
    · by_cases q : b = a
      · exact .inr (.inr ⟨_, _, if_pos q⟩)
      · by_cases hb : b ∈ T
        · exact .inr (.inl hb)
        · exact .inl ((if_neg q).trans (if_neg hb))
    · by_cases q : b = a
      · subst q
        have z2 := (if_pos rfl).symm.trans z
        cases z2
        exact ⟨at_a, by rw [List.length_map]; exact few, vs, _, rints, at_a⟩
      · have z1 := (if_neg q).symm.trans z
        by_cases hb : b ∈ T
        · have z3 := (if_pos hb).symm.trans z1
          cases z3
          exact emp b hb
        · exact nomatch (if_neg hb).symm.trans z1
    · by_cases q : b = a
      · exact .inl q
      · by_cases hb : b ∈ T
        · exact .inr hb
        · exact absurd ((if_neg q).trans (if_neg hb)) z
/-- what is known of the law's promise where the head's heap stands -/
def LawAtG (l : PySem.W.OpenLaw) (w : World) (K : PySem.W.Frag) (k n : Nat) (x : Str) (mg : Str → Option Value) (fa : Addr) (h : Heap) : Prop :=
  ∃ (fd : FuncData) (cs : List (Addr × Addr)) (sp : Sp), TabsIn K mg h cs ∧ (∀ (s : Shared) (u : Value), BindsTo s fd ⟨[u], []⟩ [(x, u)]) ∧
    (∀ (H : Hp) (a : Addr) (ns : List Int), ns.length ≤ n → (∀ p ∈ cs, H p.2 = some (.tbl #[])) → SqL K H a (ns.map V.int) → sp [.ref a] H (fun v _ => v = .bl true) E0) ∧
    ∀ base : Heap, K.In base → base.Ns mainGlobals mg → (∀ p ∈ cs, LamX.TabB base mg p.1 p.2) → FnG l.prog w K mg base k fa fd [x] sp
theorem walk_runsT {l : PySem.W.OpenLaw} {n k : Nat} {q : Program} {loose : List Str} {XP : (Str → Option Value) → Heap → Prop} {YP : World → Heap → Prop} {d : DefRec} {K : Params → PySem.W.Frag} {x : Str}
    (most : l.most = some n) (few : n ≤ sizeLine) (nodef : d.params.defaults = []) (room : Room k callerA) (kin : ∀ (w : World) (h : Heap), YP w h → (K w.params).In h)
    (F : ∀ (w : World) (mg : Str → Option Value) (fa : Addr) (h : Heap), YP w h → (K w.params).In h → h.Ns mainGlobals mg → mg d.name = some (.ref fa) → LawAtG l w (K w.params) k n x mg fa h) :
    PySem.W.WalkO q loose XP YP l.row.toRowW d [] (fun f vs => PySem.call f vs) := by
  refine Att.attach_callB most nodef fun w s0 s1 mg mb fa o pm cd doc a vs ns G Y ho hd hcd hmg hobj hints hlen hbits hg => ?_
  have KX := kin w _ Y
  obtain ⟨fd, cs, sp, TI, hb, hsp, hF⟩ := F w mg fa _ Y KX G.T.g hmg
  exact law_runsT KX G.T.g G.T.b G.T.builtins G.T.nolimit hg TI G.T.bmain hobj hints (Nat.le_trans hlen few) room hF hb fun H hT hS => hsp H a ns hlen hT hS
end Ct

namespace Ct
open PySem PySem.Spec PyProof.Rows L2 TL
abbrev s_law : Stmt := top 67
abbrev N_law : List Str := ["script", "place"]
theorem sc_law : FnScope N_law ["script"] (defScope s_law) := ⟨rfl, rfl, rfl, by decide +kernel, rfl, by decide +kernel, by decide +kernel⟩
def spLawT (T : Tbl) (K : PySem.W.Frag) : Sp := fun vs H Q _ => ∃ (a : Addr) (ns : List Int), vs = [.ref a] ∧ SqL K H a (ns.map V.int) ∧ LamX.Tabs T H ∧ ∀ H', Q (.bl true) H'
theorem all_true {α : Type} (l : List α) : (l.map fun _ => true).all id = true := by
  induction l with
  | nil => rfl
  | cons x r ih => rw [List.map_cons, List.all_cons, ih]; rfl
def NatV (v : V) (k : Nat) : Prop := v = .int (k : Int)
theorem nats_pair : ∀ l : List Nat, Paired NatV (l.map fun (i : Nat) => V.int (i : Int)) l
  | [] => .nil
  | _ :: r => .cons rfl (nats_pair r)
section
variable {P : Program} {w : World} {K : PySem.W.Frag} {mg : Str → Option Value} {base : Heap}
theorem k_law {Pt_l_right : Addr} {f : Addr} {fd : FuncData} (D : Fun K "law" "law" s_law f fd) (T : Plain mg) (G_l_cells : Keeps P w K mg base 1 "_law_cells" ["script", "most"] (spCells K)) (G_l_pot : Keeps P w K mg base 1 "_law_pot" ["script", "place"] (spPot K))
    (G_l_right : KeepsG P w K mg base 14 "_law_right" ["pot"] (spRight1 Pt_l_right)) : FnG P w K mg base 15 f fd ["script"] (spLawT (TRight Pt_l_right) K) := by
  refine fnG_of D sc_law (fun vs H Q E h => ?_) (fun cdv A outer s0 H vs Q hgd hr h => ?_)
  · obtain ⟨a, ns, rfl, _⟩ := h
    rfl
  · obtain ⟨a, ns, rfl, hs, hT, k⟩ := h
    refine ⟨_, (pss_one (ps_ret (pe_callB (cr_all rfl) (by rfl) T.n_all b_all (pa_cons (pe_lc (own := [("place", 1)]) (g := gName 1) (tt := tYes) rfl sc_law.nd (pi_list (pe_go G_l_cells (hr.mono (by decide)) rfl (pa_cons (pv 0) (pa_cons pe_int pa_nil)))) (blkOk_by (N := N_law) (sc := defScope s_law) (by decide +kernel)) (fun _ _ _ _ _ => pg_name (i := 1) sc_law.nd rfl (Or.inl rfl)) (fun _ _ _ _ _ => pts_nil) (fun _ _ _ _ _ => by exact (pe_goG G_l_right hgd (hr.mono (by decide)) rfl (pa_cons (pe_go G_l_pot (hr.mono (by decide)) rfl (pa_cons (pv 0) (pa_cons (pv 1) pa_nil))) pa_nil)))) pa_nil)))), ?_⟩
    refine into_ret (into_cb (into_args1 ?_))
    refine comp_list ⟨_, rfl, a, _, 3, rfl, hs, by decide, by decide, fun c q c1 c3 nq => ?_⟩
    have sq := same_upd (o := .lst ((List.range c).map fun (i : Nat) => V.int (i : Int))) nq
    have hq : SqL K (upd H q (.lst ((List.range c).map fun (i : Nat) => V.int (i : Int)))) q ((List.range c).map fun (i : Nat) => V.int (i : Int)) := SqL.of upd_same
    refine comp_true (T := TRight Pt_l_right) (es := List.range c) (R := NatV) (fun Z z => z) hq (nats_pair _) (by rw [List.length_map, List.length_range]; omega) (hT.ext sq) (fun x e H2 Z r he s2 t2 hz => ?_) (fun H2 D nD s2 t2 hD => ?_)
    · obtain rfl : x = .int (e : Int) := r
      have := List.mem_range.mp he
      refine ⟨rfl, ?_⟩
      have hs2 : SqL K H2 a (ns.map V.int) := Same.seq (noT_ext noT_same (extN_trans (same_extN sq) s2)) (SqL.noT hs)
      refine ⟨_, rfl, _, rfl, a, ns, e, rfl, hs2, by omega, fun p H3 np b3 t3 => ?_⟩
      exact ⟨p, H2, 0, rfl, b3, t3, by decide, t2, fun H4 s4 t4 => hz H4 s4 t4⟩
    · refine ⟨D, _, rfl, SqL.of hD, ?_⟩
      rw [all_true]
      exact k _
end
end Ct

namespace Ct
open PySem PySem.Spec PyProof.Rows L2 TL
/-! ### what the top has written -/
theorem lies_of {K : PySem.W.Frag} {h : Heap} {mg : Str → Option Value} {x : Str} {st : Stmt} {f : Addr} {oc : Value} {od an : Option Addr} {osl : Array (Option Value)} {kV doc pm cdv ct : Value} (X : K.In h) (G : h.Ns mainGlobals mg) (a : PySem.W.nsIn K mainGlobals x = some (some (.ref f)))
    (l : K.lookup f = some ⟨oc, od, .func (PySem.W.fnOf x x (defArgs st) (defBody st) (defScope st) .none kV doc pm an cdv ct), osl⟩) (c : PySem.W.codeIn K cdv x = true) (k : PySem.W.keepIn K (.ref f) = true) : Lies K mg x st := ⟨f, _, fun_mk l c k, PySem.W.mg_of X G a⟩
theorem liesC_of {K : PySem.W.Frag} {h : Heap} {mg : Str → Option Value} {x : Str} {st : Stmt} {f c : Addr} {oc : Value} {od an : Option Addr} {osl : Array (Option Value)} {kV doc pm ct : Value} (X : K.In h) (G : h.Ns mainGlobals mg) (a : PySem.W.nsIn K mainGlobals x = some (some (.ref f)))
    (l : K.lookup f = some ⟨oc, od, .func (PySem.W.fnOf x x (defArgs st) (defBody st) (defScope st) .none kV doc pm an (.ref c) ct), osl⟩) (cd : PySem.W.codeIn K (.ref c) x = true) (k : PySem.W.keepIn K (.ref f) = true) : LiesC K mg x st c := ⟨f, oc, od, kV, doc, pm, an, ct, osl, PySem.W.mg_of X G a, l, cd, k⟩
/-- one def's promise, from the next ones': all of them together -/
theorem all_kept {P : Program} {w : World} {K : PySem.W.Frag} {mg : Str → Option Value} {base : Heap} {C fI fL CE fIX CNP CBS CNS CBV ct_l_right Pt_l_right : Addr} {fdX fdI fdL : FuncData} (meCE : mg "CircuitError" = some (.ref CE)) (M_NoPart : ErrC K mg "NoPart" CNP CE fIX) (M_BadSize : ErrC K mg "BadSize" CBS CE fIX) (M_NoSource : ErrC K mg "NoSource" CNS CE fIX) (M_BadVoltage : ErrC K mg "BadVoltage" CBV CE fIX) (FX : Fun K "__init__" "CircuitError.__init__" s_CircuitError_init fIX fdX) (bX : Binds K fdX ["self", "value"] []) (hkinds0 : kindsB K [CNP, CBS, CNS, CBV] = true) (TB_l_right : LamX.TabB base mg ct_l_right Pt_l_right) (T : Plain mg) (TV : PlainV mg) (Z : ClassT K mg C) (mgC : mg "Circuit" = some (.ref C)) (MC : Mk K C fI)
    (FI : Fun K "__init__" "Circuit.__init__" s_Circuit_init fI fdI) (bI : Binds K fdI ["self", "text"] []) (FL : Fun K "law" "law" s_law fL fdL)
    (D_law_cells : Lies K mg "_law_cells" s_l_cells) (D_law_pot : Lies K mg "_law_pot" s_l_pot) (D_with_source : Lies K mg "with_source" s_with_source) (D_law_circuit_any : Lies K mg "_law_circuit_any" s_l_circuit_any) (D_law_of : Lies K mg "_law_of" s_l_of) (D_law_take : Lies K mg "_law_take" s_l_take) (D_law_circuit_drawn : Lies K mg "_law_circuit_drawn" s_l_circuit_drawn) (D_law_some : Lies K mg "_law_some" s_l_some) (D_law_frac_drawn : Lies K mg "_law_frac_drawn" s_l_frac_drawn) (D_law_frac : Lies K mg "_law_frac" s_l_frac) (D_law_frac_common : Lies K mg "_law_frac_common" s_l_frac_common) (D_law_circuit_tied : Lies K mg "_law_circuit_tied" s_l_circuit_tied) (D_read_lines : Lies K mg "_read_lines" s_read_lines) (D_takes_line : Lies K mg "_takes_line" s_takes_line) (D_takes_source : Lies K mg "_takes_source" s_takes_source) (D_read_fraction : Lies K mg "read_fraction" s_read_fraction) (D_read_integer : Lies K mg "_read_integer" s_read_integer) (D_is_integer_text : Lies K mg "_is_integer_text" s_is_integer_text) (D_is_fraction : Lies K mg "is_fraction" s_is_fraction) (D_is_integer : Lies K mg "is_integer" s_is_integer) (D_is_another : Lies K mg "_is_another" s_is_another) (D_is_name : Lies K mg "is_name" s_is_name) (D_names_of : Lies K mg "names_of" s_names_of) (D_takes_part : Lies K mg "_takes_part" s_takes_part) (D_is_above_nought : Lies K mg "is_above_nought" s_is_above_nought) (D_takes_joining : Lies K mg "_takes_joining" s_takes_joining) (D_takes_tie : Lies K mg "_takes_tie" s_takes_tie) (D_is_junction : Lies K mg "_is_junction" s_is_junction) (D_law_circuit_text : Lies K mg "_law_circuit_text" s_l_circuit_text) (D_law_frac_text : Lies K mg "_law_frac_text" s_l_frac_text) (D_law_circuit_names : Lies K mg "_law_circuit_names" s_l_circuit_names) (D_law_odd : Lies K mg "_law_odd" s_l_odd) (D_law_bent_frac : Lies K mg "_law_bent_frac" s_l_bent_frac) (D_law_due : Lies K mg "_law_due" s_l_due) (D_law_frac_is_size : Lies K mg "_law_frac_is_size" s_l_frac_is_size) (D_law_frac_is : Lies K mg "_law_frac_is" s_l_frac_is) (D_law_is_raised : Lies K mg "_law_is_raised" s_l_is_raised) (D_law_heard : Lies K mg "_law_heard" s_l_heard) (D_with_size : Lies K mg "with_size" s_with_size) (D_check_part : Lies K mg "check_part" s_check_part) (D_fraction_text : Lies K mg "fraction_text" s_fraction_text) (D_integer_text : Lies K mg "_integer_text" s_integer_text) (D_with_lines : Lies K mg "_with_lines" s_with_lines) (D_check_source : Lies K mg "check_source" s_check_source) (D_law_right : LiesC K mg "_law_right" s_l_right ct_l_right) : FnG P w K mg base 15 fL fdL ["script"] (spLawT (TRight Pt_l_right) K) := by
  have H_cells : Keeps P w K mg base 1 "_law_cells" ["script", "most"] (spCells K) := k_cells D_law_cells T
  have H_pot : Keeps P w K mg base 1 "_law_pot" ["script", "place"] (spPot K) := k_pot D_law_pot T
  have H_take : Keeps P w K mg base 1 "_law_take" ["pot", "upto"] spTake := k_take D_law_take T
  have H_of : Keeps P w K mg base 2 "_law_of" ["pot", "some"] (spOf K) := k_of D_law_of T H_take
  have H_some : Keeps P w K mg base 2 "_law_some" ["pot", "pool", "many"] (spSome K) := k_some D_law_some T H_take
  have H_common : Keeps P w K mg base 1 "_law_frac_common" ["one", "other"] spCommon := k_common D_law_frac_common T
  have H_frac : Keeps P w K mg base 2 "_law_frac" ["top", "bottom"] spFrac := k_frac D_law_frac T H_common
  have H_frac_drawn : Keeps P w K mg base 3 "_law_frac_drawn" ["pot", "low", "high"] spFracDrawn := k_frac_drawn D_law_frac_drawn T H_take H_of H_frac
  have H_circuit_tied : Keeps P w K mg base 3 "_law_circuit_tied" ["pot", "parts", "sources"] (spTiedN K) := k_circuit_tied D_law_circuit_tied T H_take H_of H_some
  have H_circuit_drawnJ : Keeps P w K mg base 4 "_law_circuit_drawn" ["pot", "parts", "joinings", "sources"] (spDrawnJ K) := k_circuit_drawnJ D_law_circuit_drawn T H_of H_some H_frac_drawn H_circuit_tied
  have H_circuit_drawn : Keeps P w K mg base 4 "_law_circuit_drawn" ["pot", "parts", "joinings", "sources"] (spDrawnN K) := k_circuit_drawn H_circuit_drawnJ
  have H_circuit_any : Keeps P w K mg base 5 "_law_circuit_any" ["pot"] (spAny K) := k_circuit_any D_law_circuit_any T H_of H_circuit_drawn
  have H_read_integer : Keeps P w K mg base 1 "_read_integer" ["word"] spReadI := k_read_integer D_read_integer T
  have H_is_integer_text : Keeps P w K mg base 1 "_is_integer_text" ["word"] spIsNum := k_is_integer_text D_is_integer_text T
  have H_is_integer : Keeps P w K mg base 1 "is_integer" ["value"] spIsInt := k_is_integer D_is_integer T
  have H_is_fraction : Keeps P w K mg base 2 "is_fraction" ["value"] (spIsFr K) := k_is_fraction D_is_fraction T H_is_integer
  have H_read_fraction : Keeps P w K mg base 3 "read_fraction" ["word"] (spRead K) := k_read_fraction D_read_fraction T H_read_integer H_is_integer_text H_is_fraction
  have H_is_name : Keeps P w K mg base 1 "is_name" ["value"] spIsName := k_is_name D_is_name T
  have H_names_of : Keeps P w K mg base 1 "names_of" ["told"] (spNames K) := k_names_of D_names_of T
  have H_is_another : Keeps P w K mg base 2 "_is_another" ["name", "told", "most"] (spAnother K) := k_is_another D_is_another T H_is_name H_names_of
  have H_takes_source : Keeps P w K mg base 4 "_takes_source" ["words", "sources", "parts"] (spTSrc K) := k_takes_source D_takes_source T H_read_fraction H_is_another
  have H_is_above_nought : Keeps P w K mg base 3 "is_above_nought" ["value"] (spIsSize K) := k_is_above_nought D_is_above_nought T H_is_fraction
  have H_takes_part : Keeps P w K mg base 4 "_takes_part" ["words", "parts", "joinings"] (spTPrt K) := k_takes_part D_takes_part T H_read_fraction H_is_another H_is_above_nought
  have H_takes_joining : Keeps P w K mg base 3 "_takes_joining" ["words", "parts", "joinings"] (spTJoi K) := k_takes_joining D_takes_joining T H_is_another
  have H_is_junction : Keeps P w K mg base 2 "_is_junction" ["word"] spJunc := k_is_junction D_is_junction T H_is_name
  have H_takes_tie : Keeps P w K mg base 3 "_takes_tie" ["words", "parts", "joinings"] (spTTie K) := k_takes_tie D_takes_tie T H_names_of H_is_junction
  have H_takes_line : Keeps P w K mg base 5 "_takes_line" ["words", "sources", "parts", "joinings"] (spTLine K) := k_takes_line D_takes_line T H_takes_source H_takes_part H_takes_joining H_takes_tie
  have H_read_lines : Keeps P w K mg base 6 "_read_lines" ["lines"] (spReadLines K) := k_read_lines D_read_lines T H_takes_line
  have H_initN : FnOk P w K mg base CX0 7 fI fdI ["self", "text"] (spInitN K C) := k_initN FI Z T H_read_lines
  have H_CircuitspInitN : Makes P w K mg base 7 "Circuit" C ["self", "text"] (spInitN K C) := ⟨fI, fdI, MC, H_initN, mgC, bI⟩
  have H_frac_text : Keeps P w K mg base 1 "_law_frac_text" ["one"] (spFracText K) := k_frac_text D_law_frac_text T
  have H_circuit_text : Keeps P w K mg base 2 "_law_circuit_text" ["own"] (spText K) := k_circuit_text D_law_circuit_text T H_frac_text
  have H_names_o : Keeps P w K mg base 1 "_law_circuit_names" ["own", "kind"] (spNamesO K) := k_names_o D_law_circuit_names T
  have H_names_s : Keeps P w K mg base 1 "_law_circuit_names" ["own", "kind"] (spNamesS K) := k_names_s D_law_circuit_names T
  have H_odd : Keeps P w K mg base 3 "_law_odd" ["pot"] (spOdd K) := k_odd D_law_odd T H_of
  have H_bent_frac : Keeps P w K mg base 4 "_law_bent_frac" ["pot", "frac"] (spBentF K) := k_bent_frac D_law_bent_frac T H_of H_odd
  have H_due : Keeps P w K mg base 1 "_law_due" ["names", "name", "is_right", "number", "words"] (spDue K) := k_due D_law_due T
  have H_frac_isA : Keeps P w K mg base 2 "_law_frac_is" ["value"] (spAnyB K isFr) := k_frac_isA D_law_frac_is T H_common
  have H_frac_is_sizeA : Keeps P w K mg base 3 "_law_frac_is_size" ["value"] (spAnyB K isSize) := k_frac_is_sizeA D_law_frac_is_size T H_frac_isA
  have H_l_heard_11 : GivesL P w K mg base false 11 12 "_law_heard" ["call"] (TTHeard K CE) := k_l_heard (j := 11) D_law_heard meCE
  have H_is_raised : GivesL P w K mg base true 11 13 "_law_is_raised" ["call", "kind", "value"] (TTRaised K [("part", CNP), ("size", CBS), ("source", CNS), ("voltage", CBV)]) := k_is_raised hkinds0 M_NoPart M_BadSize M_NoSource M_BadVoltage D_law_is_raised T H_l_heard_11
  have H_err : FnOk P w K mg base CX0 1 fIX fdX ["self", "value"] (spErr K) := k_err FX
  have H_names_ofT : Keeps P w K mg base 1 "names_of" ["told"] (spNamesT K) := k_names_ofT D_names_of T
  have H_check_partX : KeepsX P w K mg base 3 "check_part" ["circuit", "value"] (spCheckA K C CNP Own.parts) := k_check_partX M_NoPart H_err bX D_check_part T Z H_names_ofT
  have H_is_integerA : Keeps P w K mg base 1 "is_integer" ["value"] (spAnyB K isInt) := k_is_integerA D_is_integer T
  have H_is_fractionA : Keeps P w K mg base 2 "is_fraction" ["value"] (spAnyB K isFr) := k_is_fractionA D_is_fraction T H_is_integerA
  have H_is_above_noughtA : Keeps P w K mg base 3 "is_above_nought" ["value"] (spAnyB K isSize) := k_is_above_noughtA D_is_above_nought T H_is_fractionA
  have H_integer_text : Keeps P w K mg base 1 "_integer_text" ["number"] spIntText := k_integer_text D_integer_text T TV
  have H_fraction_textS : Keeps P w K mg base 2 "fraction_text" ["number"] (spTextS K) := k_fraction_textS D_fraction_text T H_integer_text
  have H_with_lines : Keeps P w K mg base 9 "_with_lines" ["circuit", "place", "new"] (spWithLines K C) := k_with_lines D_with_lines T Z H_CircuitspInitN
  have H_with_sizeX : KeepsX P w K mg base 10 "with_size" ["circuit", "part", "size"] (spWithA K C CNP CBS Own.parts isSize) := k_with_sizeX M_BadSize H_err bX D_with_size T Z H_check_partX H_is_above_noughtA H_names_ofT H_fraction_textS H_with_lines
  have H_check_sourceX : KeepsX P w K mg base 3 "check_source" ["circuit", "value"] (spCheckA K C CNS Own.sources) := k_check_sourceX M_NoSource H_err bX D_check_source T Z H_names_ofT
  have H_with_sourceX : KeepsX P w K mg base 10 "with_source" ["circuit", "source", "voltage"] (spWithA K C CNS CBV Own.sources isFr) := k_with_sourceX M_BadVoltage H_err bX D_with_source T Z H_check_sourceX H_is_fractionA H_names_ofT H_fraction_textS H_with_lines
  have H_right : KeepsG P w K mg base 14 "_law_right" ["pot"] (spRight1 Pt_l_right) := k_right TB_l_right D_law_right T D_with_source H_circuit_any H_CircuitspInitN H_circuit_text H_names_o H_names_s H_odd H_bent_frac H_of H_due H_frac_is_sizeA H_frac_isA H_is_raised H_with_sizeX H_with_sourceX
  exact k_law FL T H_cells H_pot H_right
end Ct

namespace Ct
open PySem PySem.Spec PyProof.Rows L2 TL
theorem all_mk {l : PySem.W.OpenLaw} {w : World} {K : PySem.W.Frag} {h : Heap} {mg : Str → Option Value} {fa C fI CE fIX CNP CBS CNS CBV ct_l_right Pt_l_right : Addr} (X : K.In h) (G : h.Ns mainGlobals mg) (hfa : mg "law" = some (.ref fa))
    {od1 an1 : Option Addr} {sl1 : Array (Option Value)} {oc1 kV1 dc1 pm1 cd1 ct1 : Value} {t_DIGITS t_PIECE t_SHIFT t_GROUND t_LETTERS t_LONGEST_NAME t_MOST_SOURCES t_MOST_PARTS t_MOST_JOININGS : Tok} {nm0 q0} {N0 : Addr} {bs0} {bm0} {sn0} {sub0} {ab0} {col0} {dd0} {ka0} {kb0} {kc0} {kd0} {ke0} {nm1 q1} {N1 : Addr} {bs1} {bm1} {sn1} {sub1} {ab1} {col1} {dd1} {ka1} {kb1} {kc1} {kd1} {ke1} {nm2 q2} {N2 : Addr} {bs2} {bm2} {sn2} {sub2} {ab2} {col2} {dd2} {ka2} {kb2} {kc2} {kd2} {ke2} {nm3 q3} {N3 : Addr} {bs3} {bm3} {sn3} {sub3} {ab3} {col3} {dd3} {ka3} {kb3} {kc3} {kd3} {ke3} {odX anX : Option Addr} {slX : Array (Option Value)} {ocX kVX dcX pmX cdX ctX : Value} {va00 va01 va02 va03 va04 va05 va06 va07 va08 va09 va010 va012 va013 va014 va015 va016 va017 va018 : Value} {mo0 : Option Addr} {ms0 : Array (Option Value)}
    (D_law_cells : Lies K mg "_law_cells" s_l_cells) (D_law_pot : Lies K mg "_law_pot" s_l_pot) (D_with_source : Lies K mg "with_source" s_with_source) (D_law_circuit_any : Lies K mg "_law_circuit_any" s_l_circuit_any) (D_law_of : Lies K mg "_law_of" s_l_of) (D_law_take : Lies K mg "_law_take" s_l_take) (D_law_circuit_drawn : Lies K mg "_law_circuit_drawn" s_l_circuit_drawn) (D_law_some : Lies K mg "_law_some" s_l_some) (D_law_frac_drawn : Lies K mg "_law_frac_drawn" s_l_frac_drawn) (D_law_frac : Lies K mg "_law_frac" s_l_frac) (D_law_frac_common : Lies K mg "_law_frac_common" s_l_frac_common) (D_law_circuit_tied : Lies K mg "_law_circuit_tied" s_l_circuit_tied) (D_read_lines : Lies K mg "_read_lines" s_read_lines) (D_takes_line : Lies K mg "_takes_line" s_takes_line) (D_takes_source : Lies K mg "_takes_source" s_takes_source) (D_read_fraction : Lies K mg "read_fraction" s_read_fraction) (D_read_integer : Lies K mg "_read_integer" s_read_integer) (D_is_integer_text : Lies K mg "_is_integer_text" s_is_integer_text) (D_is_fraction : Lies K mg "is_fraction" s_is_fraction) (D_is_integer : Lies K mg "is_integer" s_is_integer) (D_is_another : Lies K mg "_is_another" s_is_another) (D_is_name : Lies K mg "is_name" s_is_name) (D_names_of : Lies K mg "names_of" s_names_of) (D_takes_part : Lies K mg "_takes_part" s_takes_part) (D_is_above_nought : Lies K mg "is_above_nought" s_is_above_nought) (D_takes_joining : Lies K mg "_takes_joining" s_takes_joining) (D_takes_tie : Lies K mg "_takes_tie" s_takes_tie) (D_is_junction : Lies K mg "_is_junction" s_is_junction) (D_law_circuit_text : Lies K mg "_law_circuit_text" s_l_circuit_text) (D_law_frac_text : Lies K mg "_law_frac_text" s_l_frac_text) (D_law_circuit_names : Lies K mg "_law_circuit_names" s_l_circuit_names) (D_law_odd : Lies K mg "_law_odd" s_l_odd) (D_law_bent_frac : Lies K mg "_law_bent_frac" s_l_bent_frac) (D_law_due : Lies K mg "_law_due" s_l_due) (D_law_frac_is_size : Lies K mg "_law_frac_is_size" s_l_frac_is_size) (D_law_frac_is : Lies K mg "_law_frac_is" s_l_frac_is) (D_law_is_raised : Lies K mg "_law_is_raised" s_l_is_raised) (D_law_heard : Lies K mg "_law_heard" s_l_heard) (D_with_size : Lies K mg "with_size" s_with_size) (D_check_part : Lies K mg "check_part" s_check_part) (D_fraction_text : Lies K mg "fraction_text" s_fraction_text) (D_integer_text : Lies K mg "_integer_text" s_integer_text) (D_with_lines : Lies K mg "_with_lines" s_with_lines) (D_check_source : Lies K mg "check_source" s_check_source) (D_law_right : LiesC K mg "_law_right" s_l_right ct_l_right) (D_law : Lies K mg "law" s_law)
    (aC : PySem.W.nsIn K mainGlobals "Circuit" = some (some (.ref C)))
    (i1 : PySem.W.findIn K (.ref C) "__init__" = some (some (.ref fI)))
    (i2 : PySem.W.isFn K (.ref fI) = true)
    (i3 : K.lookup fI = some ⟨oc1, od1, .func (PySem.W.fnOf "__init__" "Circuit.__init__" (defArgs s_Circuit_init) (defBody s_Circuit_init) (defScope s_Circuit_init) .none kV1 dc1 pm1 an1 cd1 ct1), sl1⟩)
    (i4 : PySem.W.codeIn K cd1 "Circuit.__init__" = true)
    (i5 : PySem.W.keepIn K (.ref fI) = true)
    (pg : PySem.W.plainGet K C Str.empty = true)
    (hd : PySem.W.hasDictIn K C = true)
    (po : PySem.W.plainOver K C = true)
    (sa : PySem.W.findIn K (.ref C) "__setattr__" = some (some (.builtin "object.__setattr__")))
    (mk : PySem.W.makesIn K C = true)
    (kc : PySem.W.keepIn K (.ref C) = true)
    (nT : PySem.W.findIn K (.ref C) "text" = some none)
    (nS : PySem.W.findIn K (.ref C) "sources" = some none)
    (nP : PySem.W.findIn K (.ref C) "parts" = some none)
    (nJ : PySem.W.findIn K (.ref C) "joinings" = some none)
    (gcd : PySem.W.nsIn K mainGlobals "gcd" = some (some (.builtin "math.gcd")))
    (x0 : PySem.W.nsIn K mainGlobals "CircuitError" = some (some (.ref CE)))
    (x0a : PySem.W.nsIn K mainGlobals "NoPart" = some (some (.ref CNP)))
    (x0i : PySem.W.findIn K (.ref CNP) "__init__" = some (some (.ref fIX)))
    (x0o : K.lookup CNP = some (excClassObj nm0 q0 CNP N0 bs0 bm0 true sn0 sub0 ab0 col0 dd0 ka0 kb0 kc0 kd0 ke0 "ValueError.__new__"))
    (x0r : PySem.HandSPX.refsVE bm0 = true)
    (x0b : errB K CNP CE fIX = true)
    (x1a : PySem.W.nsIn K mainGlobals "BadSize" = some (some (.ref CBS)))
    (x1i : PySem.W.findIn K (.ref CBS) "__init__" = some (some (.ref fIX)))
    (x1o : K.lookup CBS = some (excClassObj nm1 q1 CBS N1 bs1 bm1 true sn1 sub1 ab1 col1 dd1 ka1 kb1 kc1 kd1 ke1 "ValueError.__new__"))
    (x1r : PySem.HandSPX.refsVE bm1 = true)
    (x1b : errB K CBS CE fIX = true)
    (x2a : PySem.W.nsIn K mainGlobals "NoSource" = some (some (.ref CNS)))
    (x2i : PySem.W.findIn K (.ref CNS) "__init__" = some (some (.ref fIX)))
    (x2o : K.lookup CNS = some (excClassObj nm2 q2 CNS N2 bs2 bm2 true sn2 sub2 ab2 col2 dd2 ka2 kb2 kc2 kd2 ke2 "ValueError.__new__"))
    (x2r : PySem.HandSPX.refsVE bm2 = true)
    (x2b : errB K CNS CE fIX = true)
    (x3a : PySem.W.nsIn K mainGlobals "BadVoltage" = some (some (.ref CBV)))
    (x3i : PySem.W.findIn K (.ref CBV) "__init__" = some (some (.ref fIX)))
    (x3o : K.lookup CBV = some (excClassObj nm3 q3 CBV N3 bs3 bm3 true sn3 sub3 ab3 col3 dd3 ka3 kb3 kc3 kd3 ke3 "ValueError.__new__"))
    (x3r : PySem.HandSPX.refsVE bm3 = true)
    (x3b : errB K CBV CE fIX = true)
    (xF : K.lookup fIX = some ⟨ocX, odX, .func (PySem.W.fnOf "__init__" "CircuitError.__init__" (defArgs s_CircuitError_init) (defBody s_CircuitError_init) (defScope s_CircuitError_init) .none kVX dcX pmX anX cdX ctX), slX⟩)
    (xG : PySem.W.codeIn K cdX "CircuitError.__init__" = true)
    (xH : PySem.W.keepIn K (.ref fIX) = true)
    (hkinds0 : kindsB K [CNP, CBS, CNS, CBV] = true)
    (m0a : K.lookup ct_l_right = some ⟨.type "code", mo0, .fields #[va00, va01, va02, va03, va04, va05, va06, va07, va08, va09, va010, .ref Pt_l_right, va012, va013, va014, va015, va016, va017, va018], ms0⟩)
    (m0b : PySem.W.codeHdIn K ct_l_right Pt_l_right = true)
    (m0c : K.lookup Pt_l_right = none)
    (m0d : h.get? Pt_l_right = some { cls := .none, data := .fields #[] })
    (n_len : PySem.W.nsIn K mainGlobals "len" = some none)
    (n_abs : PySem.W.nsIn K mainGlobals "abs" = some none)
    (n_sum : PySem.W.nsIn K mainGlobals "sum" = some none)
    (n_all : PySem.W.nsIn K mainGlobals "all" = some none)
    (n_min : PySem.W.nsIn K mainGlobals "min" = some none)
    (n_max : PySem.W.nsIn K mainGlobals "max" = some none)
    (n_repr : PySem.W.nsIn K mainGlobals "repr" = some none)
    (n_isinstance : PySem.W.nsIn K mainGlobals "isinstance" = some none)
    (n_int : PySem.W.nsIn K mainGlobals "int" = some none)
    (n_str : PySem.W.nsIn K mainGlobals "str" = some none)
    (n_bool : PySem.W.nsIn K mainGlobals "bool" = some none)
    (n_list : PySem.W.nsIn K mainGlobals "list" = some none)
    (n_tuple : PySem.W.nsIn K mainGlobals "tuple" = some none)
    (n_dict : PySem.W.nsIn K mainGlobals "dict" = some none)
    (n_range : PySem.W.nsIn K mainGlobals "range" = some none)
    (n_enumerate : PySem.W.nsIn K mainGlobals "enumerate" = some none)
    (n_reversed : PySem.W.nsIn K mainGlobals "reversed" = some none)
    (c_DIGITS : PySem.W.nsIn K mainGlobals "DIGITS" = some (some (.str "0123456789" t_DIGITS)))
    (c_PIECE : PySem.W.nsIn K mainGlobals "PIECE" = some (some (.int 18 t_PIECE)))
    (c_SHIFT : PySem.W.nsIn K mainGlobals "SHIFT" = some (some (.int 1000000000000000000 t_SHIFT)))
    (c_GROUND : PySem.W.nsIn K mainGlobals "GROUND" = some (some (.str "gnd" t_GROUND)))
    (c_LETTERS : PySem.W.nsIn K mainGlobals "LETTERS" = some (some (.str "abcdefghijklmnopqrstuvwxyz" t_LETTERS)))
    (c_LONGEST_NAME : PySem.W.nsIn K mainGlobals "LONGEST_NAME" = some (some (.int 6 t_LONGEST_NAME)))
    (c_MOST_SOURCES : PySem.W.nsIn K mainGlobals "MOST_SOURCES" = some (some (.int 4 t_MOST_SOURCES)))
    (c_MOST_PARTS : PySem.W.nsIn K mainGlobals "MOST_PARTS" = some (some (.int 8 t_MOST_PARTS)))
    (c_MOST_JOININGS : PySem.W.nsIn K mainGlobals "MOST_JOININGS" = some (some (.int 6 t_MOST_JOININGS))) :
    LawAtG l w K 15 63 "script" mg fa h := by
  obtain ⟨f0, fdL, FL, e0⟩ := D_law.ex
  have e := hfa.symm.trans e0
  cases e
  have T : Plain mg := ⟨PySem.W.mg_none_of X G n_len, PySem.W.mg_none_of X G n_abs, PySem.W.mg_none_of X G n_sum, PySem.W.mg_none_of X G n_all, PySem.W.mg_none_of X G n_min, PySem.W.mg_none_of X G n_max, PySem.W.mg_none_of X G n_repr, PySem.W.mg_none_of X G n_isinstance, PySem.W.mg_none_of X G n_int, PySem.W.mg_none_of X G n_str, PySem.W.mg_none_of X G n_bool, PySem.W.mg_none_of X G n_list, PySem.W.mg_none_of X G n_tuple, PySem.W.mg_none_of X G n_dict, PySem.W.mg_none_of X G n_range, PySem.W.mg_none_of X G n_enumerate, PySem.W.mg_of X G gcd, ⟨_, PySem.W.mg_of X G c_DIGITS⟩, ⟨_, PySem.W.mg_of X G c_PIECE⟩, ⟨_, PySem.W.mg_of X G c_SHIFT⟩, ⟨_, PySem.W.mg_of X G c_GROUND⟩, ⟨_, PySem.W.mg_of X G c_LETTERS⟩, ⟨_, PySem.W.mg_of X G c_LONGEST_NAME⟩, ⟨_, PySem.W.mg_of X G c_MOST_SOURCES⟩, ⟨_, PySem.W.mg_of X G c_MOST_PARTS⟩, ⟨_, PySem.W.mg_of X G c_MOST_JOININGS⟩⟩
  have M_NoPart : ErrC K mg "NoPart" CNP CE fIX := errC_of (PySem.W.mg_of X G x0a) x0i x0o x0r x0b
  have M_BadSize : ErrC K mg "BadSize" CBS CE fIX := errC_of (PySem.W.mg_of X G x1a) x1i x1o x1r x1b
  have M_NoSource : ErrC K mg "NoSource" CNS CE fIX := errC_of (PySem.W.mg_of X G x2a) x2i x2o x2r x2b
  have M_BadVoltage : ErrC K mg "BadVoltage" CBV CE fIX := errC_of (PySem.W.mg_of X G x3a) x3i x3o x3r x3b
  have FX := fun_mk (st := s_CircuitError_init) xF xG xH
  have bX := FX.binds (ps := ["self", "value"]) fun _ _ _ _ _ _ us hl => match us, hl with | [_, _], _ => rfl
  have TV : PlainV mg := ⟨PySem.W.mg_none_of X G n_reversed⟩
  have Z : ClassT K mg C := ⟨⟨pg, hd, po, sa⟩, nT, nS, nP, nJ⟩
  have FI := fun_mk (st := s_Circuit_init) i3 i4 i5
  have bI := FI.binds (ps := ["self", "text"]) fun _ _ _ _ _ _ us hl => match us, hl with | [_, _], _ => rfl
  have hcs : ∀ p ∈ ([(ct_l_right, Pt_l_right)] : List (Addr × Addr)), h.get? p.2 = some { cls := .none, data := .fields #[] } ∧ K.lookup p.2 = none ∧ PySem.W.CodeHd h p.1 p.2 := by
    intro p hp
    simp only [List.mem_cons, List.not_mem_nil, or_false] at hp
    subst hp
    · exact ⟨m0d, m0c, PySem.W.codeHd_of_K X m0b⟩
  refine ⟨fdL, [(ct_l_right, Pt_l_right)], spLawT (TRight Pt_l_right) K, ⟨fun p hp => (hcs p hp).1, fun p hp => (hcs p hp).2.1, fun p hp => (hcs p hp).2.2⟩, fun s v => ?_, fun H a ns _ ht hS => ⟨a, ns, rfl, hS, ?_, fun _ => rfl⟩, fun base _ _ hB => ?_⟩
  · obtain ⟨oc, od, kV, doc, pm, an, cdv, ct, osl, efd, _, _⟩ := FL.ex
    subst efd
    exact .of_eq rfl
  · intro p hp
    simp only [List.mem_cons, List.not_mem_nil, or_false] at hp
    subst hp
    · exact LamX.TabS.nil (ht (ct_l_right, Pt_l_right) (by simp))
  · exact all_kept (PySem.W.mg_of X G x0) M_NoPart M_BadSize M_NoSource M_BadVoltage FX bX hkinds0 (hB (ct_l_right, Pt_l_right) (by simp)) T TV Z (PySem.W.mg_of X G aC) ⟨mk, i1, i2, kc⟩ FI bI FL D_law_cells D_law_pot D_with_source D_law_circuit_any D_law_of D_law_take D_law_circuit_drawn D_law_some D_law_frac_drawn D_law_frac D_law_frac_common D_law_circuit_tied D_read_lines D_takes_line D_takes_source D_read_fraction D_read_integer D_is_integer_text D_is_fraction D_is_integer D_is_another D_is_name D_names_of D_takes_part D_is_above_nought D_takes_joining D_takes_tie D_is_junction D_law_circuit_text D_law_frac_text D_law_circuit_names D_law_odd D_law_bent_frac D_law_due D_law_frac_is_size D_law_frac_is D_law_is_raised D_law_heard D_with_size D_check_part D_fraction_text D_integer_text D_with_lines D_check_source D_law_right
end Ct

namespace PySem.W.Fast
def tw3563446296689971360 := ()
def tw9830777146950721728 := ()
def tw4696541774984374464 := ()
def tw4832268595359610208 := ()
def tw16974922905351819744 := ()
def tw1494773283224627840 := ()
def tw601812897647826624 := ()
def tw6853766263539262176 := ()
def tw8738512964812294912 := ()
def tw9702897086120241952 := ()
def tw6804479064175157024 := ()
def tw10551623172891337632 := ()
def tw1419188005028110401 := ()
def tw14028297099809824865 := ()
def tw11238234271140025505 := ()
def tw5122655092435906817 := ()
def tw7405305357280945441 := ()
def tw10350801633920958785 := ()
def tw2762046806708795745 := ()
def tw11992255289000675745 := ()
def tw13650759285673962209 := ()
def tw10799875435581303681 := ()
def tw16310623605367348226 := ()
def tw18239735418486237442 := ()
def tw3304737647865776386 := ()
def tw6501934669326137634 := ()
def tw7720939696376141090 := ()
def tw1443233382125999490 := ()
def tw11155949171934512578 := ()
def tw4030875257234071042 := ()
def tw16172750586091820674 := ()
def tw11435308337396052738 := ()
def tw10245641621819521794 := ()
def tw4055089169469636514 := ()
def tw7940226691866368962 := ()
def tw891048668013632611 := ()
def tw316519995256775843 := ()
def tw5634097569624257827 := ()
def tw10235182609482681731 := ()
def tw6373949835756820995 := ()
def tw7892444759109413539 := ()
def tw7580098666314506947 := ()
def tw9035920905778727715 := ()
def tw8519791776351062851 := ()
def tw8906509308341770179 := ()
def tw9572915681313049571 := ()
def tw11632819080025303044 := ()
def tw15581671556574181444 := ()
def tw17261710230212903012 := ()
def tw1857557066239054980 := ()
def tw13445199504469870724 := ()
def tw13443120677073809764 := ()
def tw17359109139524719076 := ()
def tw5077517344247756292 := ()
def tw10143199430860535428 := ()
def tw5558718258737413253 := ()
def tw1102325255651035301 := ()
def tw4649865888702854309 := ()
def tw17343022260974452933 := ()
def tw16737452290057890213 := ()
def tw1780238247273550277 := ()
def tw14186966226167922245 := ()
def tw7365665539751760517 := ()
def tw12567656537863444261 := ()
def tw4568211261390772069 := ()
def tw4640374125276866566 := ()
def tw3740596889584113862 := ()
def tw11240498632913005894 := ()
def tw15947355255346310534 := ()
def tw13882788164860624326 := ()
def tw8851793733195100710 := ()
def tw8526935505219174054 := ()
def tw6442778221408330470 := ()
def tw14913043393333948166 := ()
def tw2981730963988481830 := ()
def tw12097368836238882598 := ()
def tw1458755885492421414 := ()
def tw10968686276855981030 := ()
def tw13361582781177241574 := ()
def tw13279797718368806951 := ()
def tw11030039527548482695 := ()
def tw6105910528118168903 := ()
def tw2046833397197897063 := ()
def tw6511446869630343655 := ()
def tw889277486242021031 := ()
def tw17848972886572003047 := ()
def tw12260467481027525607 := ()
def tw3471295642636353768 := ()
def tw6391339403812905320 := ()
def tw17321029851132559944 := ()
def tw7466290943079481928 := ()
def tw14755022739046152808 := ()
def tw9523185145948927624 := ()
def tw3645277804283041512 := ()
def tw6191169277963975528 := ()
def tw8215972750219609992 := ()
def tw7354915517082144744 := ()
def tw5958430409260378153 := ()
def tw11297223134880357449 := ()
def tw11682513322916667561 := ()
def tw6178775370960941225 := ()
def tw13062199360720439497 := ()
def tw16984060590592785609 := ()
def tw16195011630758969609 := ()
def tw8126565313641099561 := ()
def tw4402007751737465257 := ()
def tw13944658154369903305 := ()
def tw819734202298374346 := ()
def tw12425238237560326442 := ()
def tw802616208828340682 := ()
def tw9664879708056368586 := ()
def tw15910340954335111754 := ()
def tw14308552656854969962 := ()
def tw4345577361869167434 := ()
def tw13550320476665975626 := ()
def tw5994505697010835370 := ()
def tw8361831934488565706 := ()
def tw9387221451232579530 := ()
def tw16028910764302678027 := ()
def tw11606987295354144811 := ()
def tw2959513641982617643 := ()
def tw581210006048470155 := ()
def tw15527237464847080587 := ()
def tw11610275337453693195 := ()
def tw3116631321038907659 := ()
def tw17639710953719364875 := ()
def tw8992441075071194411 := ()
def tw12998043517381168427 := ()
def tw10845817761701722475 := ()
def tw7046265724922717547 := ()
def tw3064356939216915851 := ()
def tw6649330333260497291 := ()
def tw17633011509202598315 := ()
def tw971101316775389803 := ()
def tw12371584095718907531 := ()
def tw1538539902278687435 := ()
def tw16337807174036468491 := ()
def tw4015164698681453387 := ()
def tw7192532954950257483 := ()
def tw1565482961557512011 := ()
def tw5721128152044817259 := ()
def tw5439048926575717291 := ()
def tw15168610328748089291 := ()
def tw14451581721184985324 := ()
def tw16766735442489061644 := ()
def tw5617390349614733836 := ()
def tw9126190841446686348 := ()
def tw6827814161623513804 := ()
def tw1629494624024175340 := ()
def tw15825172636828549004 := ()
def tw740463369447986701 := ()
def tw18208805161523967533 := ()
def tw1710541452291852877 := ()
def tw12434675336604254861 := ()
def tw126434633200860813 := ()
def tw4191498567154395821 := ()
def tw13727951685198664397 := ()
def tw2335048090954655437 := ()
def tw16579829663841578765 := ()
def tw15938483209984296813 := ()
def tw17907042054019249037 := ()
def tw7489034602084412333 := ()
def tw16451737916399220782 := ()
def tw8323745079672165454 := ()
def tw10697214929578739822 := ()
def tw8779961552922081550 := ()
def tw9873530285179242894 := ()
def tw9071752212602257902 := ()
def tw10505773150996085262 := ()
def tw1599953333626437230 := ()
def tw11969761578981561326 := ()
def tw15370291521638297775 := ()
def tw11269447801187728591 := ()
def tw1945809829646712047 := ()
def tw17610839404890659119 := ()
def tw8040345764012963215 := ()
def tw10432143582646260591 := ()
def tw3891016062491377551 := ()
def tw14006501428536851664 := ()
def tw5145906186823674224 := ()
def tw12580553220255639952 := ()
def tw3501283758352702992 := ()
def tw1170479910918974992 := ()
def tw17664667497171838640 := ()
def tw4556232975103719120 := ()
def tw2744332338531343120 := ()
def tw2397674133633443792 := ()
def tw14063561614685966320 := ()
def tw1267882242521281520 := ()
def tw4334494369466186801 := ()
def tw37007623684628689 := ()
def tw9525835701018550801 := ()
def tw569732003574069969 := ()
def tw15686226036984349425 := ()
def tw9947659116480790321 := ()
def tw14373007673559113553 := ()
def tw5230851914803235697 := ()
def tw14412581829751792561 := ()
def tw16870597599343977554 := ()
def tw14942790872171624594 := ()
def tw16236045570778045714 := ()
def tw8786438095721817362 := ()
def tw11893821987607024946 := ()
def tw675252369114834258 := ()
def tw16991021059641588146 := ()
def tw7654779511953961426 := ()
def tw5963695744801661490 := ()
def tw3468307127013317234 := ()
def tw9403421140350544530 := ()
def tw17989608333581389522 := ()
def tw2452938756017789682 := ()
def tw6728897212470432658 := ()
def tw17895498329064675250 := ()
def tw7374702289231761459 := ()
def tw16116673954378595443 := ()
def tw7858021116509178003 := ()
def tw7786536981631141075 := ()
def tw2955516657527521555 := ()
def tw10873597372252504467 := ()
def tw5012034693742808563 := ()
def tw11773709918079115795 := ()
def tw5188503977226864179 := ()
def tw10870959659848952595 := ()
def tw2709454997467327443 := ()
def tw4741183855687123955 := ()
def tw16345896776427832307 := ()
def tw1859304005960780820 := ()
def tw2474571147497265204 := ()
def tw15882802840180930708 := ()
def tw17579575281675931892 := ()
def tw6476592713272800596 := ()
def tw17241335527264559476 := ()
def tw6037135818816231828 := ()
def tw9785872499945443828 := ()
def tw1308158887714127412 := ()
def tw2358140651315880564 := ()
def tw5344814288210952980 := ()
def tw3157397359473218356 := ()
def tw16975003989609883701 := ()
def tw7671236590419806517 := ()
def tw6690691087198763349 := ()
def tw1357330306792334677 := ()
def tw16739179352105930197 := ()
def tw17140181849126144565 := ()
def tw16775127063049251669 := ()
def tw12217875492581211029 := ()
def tw477449449274806390 := ()
def tw9353810598334987446 := ()
def tw15791657764935180598 := ()
def tw485960504129607094 := ()
def tw7829071578333887958 := ()
def tw2756501093861216726 := ()
def tw15979988033260900886 := ()
def tw14900166381836279350 := ()
def tw6595023108587168342 := ()
def tw11378651173971699318 := ()
def tw9976124398749464214 := ()
def tw12856057241028004694 := ()
def tw14401430578191018870 := ()
def tw17497188344213938038 := ()
def tw10369964840091855766 := ()
def tw6788459841623959510 := ()
def tw14589145830318326774 := ()
def tw4936657885905043607 := ()
def tw11895705764792328567 := ()
def tw10492084285934751095 := ()
def tw3289450452353414551 := ()
def tw87202899641167415 := ()
def tw15493246025581046391 := ()
def tw6438352561965167319 := ()
def tw8330104558494486263 := ()
def tw11326746609050959607 := ()
def tw4469884016999394039 := ()
def tw6934300622859885335 := ()
def tw8561307167996063607 := ()
def tw9551966739900379031 := ()
def tw11177158838904814712 := ()
def tw9689029050784616760 := ()
def tw15232044682243688760 := ()
def tw11180800642603988312 := ()
def tw12031692577941169560 := ()
def tw3586828645898815928 := ()
def tw11429772848169714136 := ()
def tw8404779188825835992 := ()
def tw9274105410847828472 := ()
def tw3314387274833701400 := ()
def tw14743850702391233144 := ()
def tw4610848334708417176 := ()
def tw8731823870078567128 := ()
def tw9298291050442505976 := ()
def tw8976431749379738424 := ()
def tw10176244851693995960 := ()
def tw9627400510747012249 := ()
def tw7662342225855626425 := ()
def tw8846410547662572729 := ()
def tw17337491140763736249 := ()
def tw3358552658281789785 := ()
def tw1615347799939847737 := ()
def tw1917641328245549721 := ()
def tw17044457664902239161 := ()
def tw5567741423854329882 := ()
def tw5944650125527006266 := ()
def tw15109248725331012762 := ()
def tw14617586819276736698 := ()
def tw11225866689018506586 := ()
def tw12069926255935819258 := ()
def tw17455182303069871642 := ()
def tw9126860083931982522 := ()
def tw7075041245265893146 := ()
def tw15207750634976393082 := ()
def tw9913587868222576538 := ()
def tw7891711281460743098 := ()
def tw2005303306222729178 := ()
def tw14240879341546049691 := ()
def tw15542147341687386363 := ()
def tw14456411986338537723 := ()
def tw3684579547748349243 := ()
def tw6604219926555301339 := ()
def tw3518511483945105915 := ()
def tw6322216901671082555 := ()
def tw2255935038601945659 := ()
def tw10204321424918330075 := ()
def tw604265937990330107 := ()
def tw1262375152082036635 := ()
def tw1668046712010131387 := ()
def tw14771143479221646299 := ()
def tw6385390301419992027 := ()
def tw17736025465487993851 := ()
def tw6595043777725496508 := ()
def tw363112745673315580 := ()
def tw7923038300745093500 := ()
def tw6436110856586277596 := ()
def tw16177687057352723164 := ()
def tw10121279575299720060 := ()
def tw17000460889466621820 := ()
def tw5016660194972356508 := ()
def tw5612723248374590428 := ()
def tw14766213014778903548 := ()
def tw14391411343298649117 := ()
def tw9381092901444646973 := ()
def tw16118209207283495037 := ()
def tw1253051662918854845 := ()
def tw14276081952317549757 := ()
def tw16255462133901019453 := ()
def tw8785312793209745789 := ()
def tw9772490907546314173 := ()
def tw6721969598320712125 := ()
def tw4490732093568072189 := ()
def tw12547817212529865277 := ()
def tw16041576807023720189 := ()
def tw11930207179503044477 := ()
def tw17648545071368518557 := ()
def tw10238960809743845309 := ()
def tw3961671598870585341 := ()
def tw5940027235167200478 := ()
def tw8616358170279866654 := ()
def tw12456126939975772606 := ()
def tw4195871358763439742 := ()
def tw15404821829823769278 := ()
def tw16318387671891152862 := ()
def tw2052761237009824863 := ()
def tw11407522646407722495 := ()
def tw5226704562211806719 := ()
def tw5863857528262604383 := ()
def tw6542478331621586655 := ()
def tw10786938481682040607 := ()
def tw5503143118601603903 := ()
end PySem.W.Fast
open PySem PySem.W PyProof.Rows in
set_option Elab.async false in
set_option maxRecDepth 100000 in
set_option maxHeartbeats 0 in
theorem PySem.Challenge.cw_chargeturns_k01_names_and_numbers_refuse_holds : PySem.Challenge.rw_chargeturns_k01_names_and_numbers_refuse.Holds := by
  w_on; o_law; k_head; (case hw => w_witness2)
  k_fill
  refine Ct.walk_runsT (l := PySem.Challenge.rw_chargeturns_k01_names_and_numbers_refuse) (n := 63) (k := 15) (x := "script") rfl (by decide) rfl ⟨rfl, by decide, by decide⟩ (fun w h Y => PySem.W.km_in_of Y) ?F
  case F =>
    intro w mg fa h Y KX G hmg
    have hT := PySem.W.km_tabs_of Y
    refine' Ct.all_mk KX G hmg (Ct.lies_of KX G ?a_law_cells ?l_law_cells ?c_law_cells ?k_law_cells) (Ct.lies_of KX G ?a_law_pot ?l_law_pot ?c_law_pot ?k_law_pot) (Ct.lies_of KX G ?a_with_source ?l_with_source ?c_with_source ?k_with_source) (Ct.lies_of KX G ?a_law_circuit_any ?l_law_circuit_any ?c_law_circuit_any ?k_law_circuit_any) (Ct.lies_of KX G ?a_law_of ?l_law_of ?c_law_of ?k_law_of) (Ct.lies_of KX G ?a_law_take ?l_law_take ?c_law_take ?k_law_take) (Ct.lies_of KX G ?a_law_circuit_drawn ?l_law_circuit_drawn ?c_law_circuit_drawn ?k_law_circuit_drawn) (Ct.lies_of KX G ?a_law_some ?l_law_some ?c_law_some ?k_law_some) (Ct.lies_of KX G ?a_law_frac_drawn ?l_law_frac_drawn ?c_law_frac_drawn ?k_law_frac_drawn) (Ct.lies_of KX G ?a_law_frac ?l_law_frac ?c_law_frac ?k_law_frac) (Ct.lies_of KX G ?a_law_frac_common ?l_law_frac_common ?c_law_frac_common ?k_law_frac_common) (Ct.lies_of KX G ?a_law_circuit_tied ?l_law_circuit_tied ?c_law_circuit_tied ?k_law_circuit_tied) (Ct.lies_of KX G ?a_read_lines ?l_read_lines ?c_read_lines ?k_read_lines) (Ct.lies_of KX G ?a_takes_line ?l_takes_line ?c_takes_line ?k_takes_line) (Ct.lies_of KX G ?a_takes_source ?l_takes_source ?c_takes_source ?k_takes_source) (Ct.lies_of KX G ?a_read_fraction ?l_read_fraction ?c_read_fraction ?k_read_fraction) (Ct.lies_of KX G ?a_read_integer ?l_read_integer ?c_read_integer ?k_read_integer) (Ct.lies_of KX G ?a_is_integer_text ?l_is_integer_text ?c_is_integer_text ?k_is_integer_text) (Ct.lies_of KX G ?a_is_fraction ?l_is_fraction ?c_is_fraction ?k_is_fraction) (Ct.lies_of KX G ?a_is_integer ?l_is_integer ?c_is_integer ?k_is_integer) (Ct.lies_of KX G ?a_is_another ?l_is_another ?c_is_another ?k_is_another) (Ct.lies_of KX G ?a_is_name ?l_is_name ?c_is_name ?k_is_name) (Ct.lies_of KX G ?a_names_of ?l_names_of ?c_names_of ?k_names_of) (Ct.lies_of KX G ?a_takes_part ?l_takes_part ?c_takes_part ?k_takes_part) (Ct.lies_of KX G ?a_is_above_nought ?l_is_above_nought ?c_is_above_nought ?k_is_above_nought) (Ct.lies_of KX G ?a_takes_joining ?l_takes_joining ?c_takes_joining ?k_takes_joining) (Ct.lies_of KX G ?a_takes_tie ?l_takes_tie ?c_takes_tie ?k_takes_tie) (Ct.lies_of KX G ?a_is_junction ?l_is_junction ?c_is_junction ?k_is_junction) (Ct.lies_of KX G ?a_law_circuit_text ?l_law_circuit_text ?c_law_circuit_text ?k_law_circuit_text) (Ct.lies_of KX G ?a_law_frac_text ?l_law_frac_text ?c_law_frac_text ?k_law_frac_text) (Ct.lies_of KX G ?a_law_circuit_names ?l_law_circuit_names ?c_law_circuit_names ?k_law_circuit_names) (Ct.lies_of KX G ?a_law_odd ?l_law_odd ?c_law_odd ?k_law_odd) (Ct.lies_of KX G ?a_law_bent_frac ?l_law_bent_frac ?c_law_bent_frac ?k_law_bent_frac) (Ct.lies_of KX G ?a_law_due ?l_law_due ?c_law_due ?k_law_due) (Ct.lies_of KX G ?a_law_frac_is_size ?l_law_frac_is_size ?c_law_frac_is_size ?k_law_frac_is_size) (Ct.lies_of KX G ?a_law_frac_is ?l_law_frac_is ?c_law_frac_is ?k_law_frac_is) (Ct.lies_of KX G ?a_law_is_raised ?l_law_is_raised ?c_law_is_raised ?k_law_is_raised) (Ct.lies_of KX G ?a_law_heard ?l_law_heard ?c_law_heard ?k_law_heard) (Ct.lies_of KX G ?a_with_size ?l_with_size ?c_with_size ?k_with_size) (Ct.lies_of KX G ?a_check_part ?l_check_part ?c_check_part ?k_check_part) (Ct.lies_of KX G ?a_fraction_text ?l_fraction_text ?c_fraction_text ?k_fraction_text) (Ct.lies_of KX G ?a_integer_text ?l_integer_text ?c_integer_text ?k_integer_text) (Ct.lies_of KX G ?a_with_lines ?l_with_lines ?c_with_lines ?k_with_lines) (Ct.lies_of KX G ?a_check_source ?l_check_source ?c_check_source ?k_check_source) (Ct.liesC_of KX G ?a_law_right ?l_law_right ?c_law_right ?k_law_right) (Ct.lies_of KX G ?a_law ?l_law ?c_law ?k_law) ?z_aC ?z_i1 ?z_i2 ?z_i3 ?z_i4 ?z_i5 ?z_pg ?z_hd ?z_po ?z_sa ?z_mk ?z_kc ?z_nT ?z_nS ?z_nP ?z_nJ ?z_gcd ?z_x0 ?z_x0a ?z_x0i ?z_x0o ?z_x0r ?z_x0b ?z_x1a ?z_x1i ?z_x1o ?z_x1r ?z_x1b ?z_x2a ?z_x2i ?z_x2o ?z_x2r ?z_x2b ?z_x3a ?z_x3i ?z_x3o ?z_x3r ?z_x3b ?z_xF ?z_xG ?z_xH ?z_hkinds0 ?z_m0a ?z_m0b ?z_m0c ?z_m0d ?z_n_len ?z_n_abs ?z_n_sum ?z_n_all ?z_n_min ?z_n_max ?z_n_repr ?z_n_isinstance ?z_n_int ?z_n_str ?z_n_bool ?z_n_list ?z_n_tuple ?z_n_dict ?z_n_range ?z_n_enumerate ?z_n_reversed ?z_c_DIGITS ?z_c_PIECE ?z_c_SHIFT ?z_c_GROUND ?z_c_LETTERS ?z_c_LONGEST_NAME ?z_c_MOST_SOURCES ?z_c_MOST_PARTS ?z_c_MOST_JOININGS
    (case a_law_cells => k_is); (case l_law_cells => k_is); (case c_law_cells => k_is); (case k_law_cells => k_is)
    (case a_law_pot => k_is); (case l_law_pot => k_is); (case c_law_pot => k_is); (case k_law_pot => k_is)
    (case a_with_source => k_is); (case l_with_source => k_is); (case c_with_source => k_is); (case k_with_source => k_is)
    (case a_law_circuit_any => k_is); (case l_law_circuit_any => k_is); (case c_law_circuit_any => k_is); (case k_law_circuit_any => k_is)
    (case a_law_of => k_is); (case l_law_of => k_is); (case c_law_of => k_is); (case k_law_of => k_is)
    (case a_law_take => k_is); (case l_law_take => k_is); (case c_law_take => k_is); (case k_law_take => k_is)
    (case a_law_circuit_drawn => k_is); (case l_law_circuit_drawn => k_is); (case c_law_circuit_drawn => k_is); (case k_law_circuit_drawn => k_is)
    (case a_law_some => k_is); (case l_law_some => k_is); (case c_law_some => k_is); (case k_law_some => k_is)
    (case a_law_frac_drawn => k_is); (case l_law_frac_drawn => k_is); (case c_law_frac_drawn => k_is); (case k_law_frac_drawn => k_is)
    (case a_law_frac => k_is); (case l_law_frac => k_is); (case c_law_frac => k_is); (case k_law_frac => k_is)
    (case a_law_frac_common => k_is); (case l_law_frac_common => k_is); (case c_law_frac_common => k_is); (case k_law_frac_common => k_is)
    (case a_law_circuit_tied => k_is); (case l_law_circuit_tied => k_is); (case c_law_circuit_tied => k_is); (case k_law_circuit_tied => k_is)
    (case a_read_lines => k_is); (case l_read_lines => k_is); (case c_read_lines => k_is); (case k_read_lines => k_is)
    (case a_takes_line => k_is); (case l_takes_line => k_is); (case c_takes_line => k_is); (case k_takes_line => k_is)
    (case a_takes_source => k_is); (case l_takes_source => k_is); (case c_takes_source => k_is); (case k_takes_source => k_is)
    (case a_read_fraction => k_is); (case l_read_fraction => k_is); (case c_read_fraction => k_is); (case k_read_fraction => k_is)
    (case a_read_integer => k_is); (case l_read_integer => k_is); (case c_read_integer => k_is); (case k_read_integer => k_is)
    (case a_is_integer_text => k_is); (case l_is_integer_text => k_is); (case c_is_integer_text => k_is); (case k_is_integer_text => k_is)
    (case a_is_fraction => k_is); (case l_is_fraction => k_is); (case c_is_fraction => k_is); (case k_is_fraction => k_is)
    (case a_is_integer => k_is); (case l_is_integer => k_is); (case c_is_integer => k_is); (case k_is_integer => k_is)
    (case a_is_another => k_is); (case l_is_another => k_is); (case c_is_another => k_is); (case k_is_another => k_is)
    (case a_is_name => k_is); (case l_is_name => k_is); (case c_is_name => k_is); (case k_is_name => k_is)
    (case a_names_of => k_is); (case l_names_of => k_is); (case c_names_of => k_is); (case k_names_of => k_is)
    (case a_takes_part => k_is); (case l_takes_part => k_is); (case c_takes_part => k_is); (case k_takes_part => k_is)
    (case a_is_above_nought => k_is); (case l_is_above_nought => k_is); (case c_is_above_nought => k_is); (case k_is_above_nought => k_is)
    (case a_takes_joining => k_is); (case l_takes_joining => k_is); (case c_takes_joining => k_is); (case k_takes_joining => k_is)
    (case a_takes_tie => k_is); (case l_takes_tie => k_is); (case c_takes_tie => k_is); (case k_takes_tie => k_is)
    (case a_is_junction => k_is); (case l_is_junction => k_is); (case c_is_junction => k_is); (case k_is_junction => k_is)
    (case a_law_circuit_text => k_is); (case l_law_circuit_text => k_is); (case c_law_circuit_text => k_is); (case k_law_circuit_text => k_is)
    (case a_law_frac_text => k_is); (case l_law_frac_text => k_is); (case c_law_frac_text => k_is); (case k_law_frac_text => k_is)
    (case a_law_circuit_names => k_is); (case l_law_circuit_names => k_is); (case c_law_circuit_names => k_is); (case k_law_circuit_names => k_is)
    (case a_law_odd => k_is); (case l_law_odd => k_is); (case c_law_odd => k_is); (case k_law_odd => k_is)
    (case a_law_bent_frac => k_is); (case l_law_bent_frac => k_is); (case c_law_bent_frac => k_is); (case k_law_bent_frac => k_is)
    (case a_law_due => k_is); (case l_law_due => k_is); (case c_law_due => k_is); (case k_law_due => k_is)
    (case a_law_frac_is_size => k_is); (case l_law_frac_is_size => k_is); (case c_law_frac_is_size => k_is); (case k_law_frac_is_size => k_is)
    (case a_law_frac_is => k_is); (case l_law_frac_is => k_is); (case c_law_frac_is => k_is); (case k_law_frac_is => k_is)
    (case a_law_is_raised => k_is); (case l_law_is_raised => k_is); (case c_law_is_raised => k_is); (case k_law_is_raised => k_is)
    (case a_law_heard => k_is); (case l_law_heard => k_is); (case c_law_heard => k_is); (case k_law_heard => k_is)
    (case a_with_size => k_is); (case l_with_size => k_is); (case c_with_size => k_is); (case k_with_size => k_is)
    (case a_check_part => k_is); (case l_check_part => k_is); (case c_check_part => k_is); (case k_check_part => k_is)
    (case a_fraction_text => k_is); (case l_fraction_text => k_is); (case c_fraction_text => k_is); (case k_fraction_text => k_is)
    (case a_integer_text => k_is); (case l_integer_text => k_is); (case c_integer_text => k_is); (case k_integer_text => k_is)
    (case a_with_lines => k_is); (case l_with_lines => k_is); (case c_with_lines => k_is); (case k_with_lines => k_is)
    (case a_check_source => k_is); (case l_check_source => k_is); (case c_check_source => k_is); (case k_check_source => k_is)
    (case a_law_right => k_is); (case l_law_right => k_is); (case c_law_right => k_is); (case k_law_right => k_is)
    (case a_law => k_is); (case l_law => k_is); (case c_law => k_is); (case k_law => k_is)
    (case z_aC => k_is)
    (case z_i1 => k_is)
    (case z_i2 => k_is)
    (case z_i3 => k_is)
    (case z_i4 => k_is)
    (case z_i5 => k_is)
    (case z_pg => k_is)
    (case z_hd => k_is)
    (case z_po => k_is)
    (case z_sa => k_is)
    (case z_mk => k_is)
    (case z_kc => k_is)
    (case z_nT => k_is)
    (case z_nS => k_is)
    (case z_nP => k_is)
    (case z_nJ => k_is)
    (case z_gcd => k_is)
    (case z_x0 => k_is)
    (case z_x0a => k_is)
    (case z_x0i => k_is)
    (case z_x0o => k_is)
    (case z_x0r => kernel_rfl)
    (case z_x0b => kernel_rfl)
    (case z_x1a => k_is)
    (case z_x1i => k_is)
    (case z_x1o => k_is)
    (case z_x1r => kernel_rfl)
    (case z_x1b => kernel_rfl)
    (case z_x2a => k_is)
    (case z_x2i => k_is)
    (case z_x2o => k_is)
    (case z_x2r => kernel_rfl)
    (case z_x2b => kernel_rfl)
    (case z_x3a => k_is)
    (case z_x3i => k_is)
    (case z_x3o => k_is)
    (case z_x3r => kernel_rfl)
    (case z_x3b => kernel_rfl)
    (case z_xF => k_is)
    (case z_xG => k_is)
    (case z_xH => k_is)
    (case z_hkinds0 => kernel_rfl)
    (case z_m0a => k_is)
    (case z_m0b => kernel_rfl)
    (case z_m0c => first | k_is | kernel_rfl)
    (case z_m0d => exact hT _ (by first | k_mem | decide))
    (case z_n_len => k_is)
    (case z_n_abs => k_is)
    (case z_n_sum => k_is)
    (case z_n_all => k_is)
    (case z_n_min => k_is)
    (case z_n_max => k_is)
    (case z_n_repr => k_is)
    (case z_n_isinstance => k_is)
    (case z_n_int => k_is)
    (case z_n_str => k_is)
    (case z_n_bool => k_is)
    (case z_n_list => k_is)
    (case z_n_tuple => k_is)
    (case z_n_dict => k_is)
    (case z_n_range => k_is)
    (case z_n_enumerate => k_is)
    (case z_n_reversed => k_is)
    (case z_c_DIGITS => k_is)
    (case z_c_PIECE => k_is)
    (case z_c_SHIFT => k_is)
    (case z_c_GROUND => k_is)
    (case z_c_LETTERS => k_is)
    (case z_c_LONGEST_NAME => k_is)
    (case z_c_MOST_SOURCES => k_is)
    (case z_c_MOST_PARTS => k_is)
    (case z_c_MOST_JOININGS => k_is)
