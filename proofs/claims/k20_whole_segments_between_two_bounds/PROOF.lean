import PyProof.Rows.All
import Wide.All
import OpenK.AllK
import Wide.FinOn
import HandS.ForMost
import HandS.Exc
import HandS.ExcOwn
import HandS.ExcInit
import HandS.ExcField
import HandS.TryMany
import HandS.WordsExc
import HandS.IsInst
import HandS.Wide
import HandS.Evl
import HandS.RaiseMore
import HandS.Defaults
import HandS.Flow
import HandS.Walk
import PyProof.ReprLen
import HandS.DeepEq
import HandS.ExcIs
import KE.KOpsOwn
import KE.KFmtOwn
import KE.KCallOwn
import PyProof.InstNe
import HandS.FStr
import HandS.OwnEq
import HandS.ClsMeth
import HandS.MakeKwOnly
import HandS.Star
import HandS.Lambda
import HandS.EndTab
import HandS.EndOwn
import PyProof.MeetsIn
import HandS.TupAny
import KE.KDictKeyed
import KE.KDictLaw
import HandS.Dict
import HandS.Small
import HandS.WideBits
import KE.KAssignIn
import HandS.MakeKw
import PyProof.FString2
import PyProof.Conv_bool
import HandS.NoneIn
import HandS.Text
import PyProof.ReprNest
import PyProof.ReprRoads
import PyProof.ReprText
import KE.KStateDown
import HandS.Head0
import HandS.Head1
import HandS.Head2
import HandS.HeadEnd
import HandS.HeadHook1
import HandS.HeadHook2
import HandS.HeadHook3
import HandS.HeadHook4
import PySem.Challenge.RW_latewords_k20_whole_segments_between_two
set_option Elab.async false
set_option linter.all false
set_option maxRecDepth 100000
set_option maxHeartbeats 8000000
namespace L3
open PySem PySem.Spec PyProof.Rows L2 Evl
/-! ### data in a heap that grows -/
section
variable {K : PySem.W.Frag} {H H1 : Hp}
mutual
theorem dp_ex (e : Ex H H1) : ∀ {d : PyData} {x : V}, Dp K H x d → Dp K H1 x d
  | _, _, .non => .non
  | _, _, .bl b => .bl b
  | _, _, .int i => .int i
  | _, _, .str x => .str x
  | _, _, .lst h a => .lst (ex_l e h) (dps_ex e a)
  | _, _, .tup h a => .tup (ex_t e h) (dps_ex e a)
theorem dps_ex (e : Ex H H1) : ∀ {ds : List PyData} {xs : List V}, DpAll K H xs ds → DpAll K H1 xs ds
  | _, _, .nil => .nil
  | _, _, .cons a r => .cons (dp_ex e a) (dps_ex e r)
end
/-- the name of a datum's type -/
def tyN : PyData → String
  | .none => "NoneType"
  | .bool _ => "bool"
  | .int _ => "int"
  | .str _ => "str"
  | .list _ => "list"
  | .tuple _ => "tuple"
  | .dict _ => "dict"
theorem ty_list {a : Addr} {xs : List V} (h : SqL K H a xs) : TyX K H (.ref a) (.type "list") := by
  rcases h with (h | ⟨o, h⟩) | ⟨o, its, n, h, c, _⟩
  · exact .base (.lst h)
  · exact .base (.frz h)
  · exact .kList h c
theorem ty_tup {a : Addr} {xs : List V} (h : SqT K H a xs) : TyX K H (.ref a) (.type "tuple") := by
  rcases h with (h | ⟨o, h⟩) | ⟨o, its, n, h, c, _⟩
  · exact .base (.tup h)
  · exact .fTuple h
  · exact .kTuple h c
theorem dp_ty {d : PyData} {x : V} (h : Dp K H x d) : TyX K H x (.type (tyN d)) := by
  cases h with
  | non => exact .base .non
  | bl b => exact .base (.bl b)
  | int i => exact .base (.int i)
  | str z => exact .base (.str z)
  | lst h _ => exact ty_list h
  | tup h _ => exact ty_tup h
end
def isIntD : PyData → Bool
  | .int _ => true
  | .bool _ => true
  | _ => false
def isBoolD : PyData → Bool
  | .bool _ => true
  | _ => false
def isListD : PyData → Bool
  | .list _ => true
  | _ => false
def isTupD : PyData → Bool
  | .tuple _ => true
  | _ => false
def isStrD : PyData → Bool
  | .str _ => true
  | _ => false
theorem kit_int (d : PyData) : kitB (tyN d) "int" = some (isIntD d) := by
  cases d <;> (dsimp only [tyN, isIntD, isBoolD, isListD, isTupD, isStrD]; decide +kernel)
theorem kit_bool (d : PyData) : kitB (tyN d) "bool" = some (isBoolD d) := by
  cases d <;> (dsimp only [tyN, isIntD, isBoolD, isListD, isTupD, isStrD]; decide +kernel)
theorem kit_list (d : PyData) : kitB (tyN d) "list" = some (isListD d) := by
  cases d <;> (dsimp only [tyN, isIntD, isBoolD, isListD, isTupD, isStrD]; decide +kernel)
theorem kit_tuple (d : PyData) : kitB (tyN d) "tuple" = some (isTupD d) := by
  cases d <;> (dsimp only [tyN, isIntD, isBoolD, isListD, isTupD, isStrD]; decide +kernel)
theorem kit_str (d : PyData) : kitB (tyN d) "str" = some (isStrD d) := by
  cases d <;> (dsimp only [tyN, isIntD, isBoolD, isListD, isTupD, isStrD]; decide +kernel)
section
variable {K : PySem.W.Frag} {σ : L2.St} {H H' : Hp} {ta tb tc te tx : TE} {t u : TT} {x y z v : V} {r : R2}
/-- isinstance(x, T), T a built-in type by its name -/
theorem ev_isi {d : PyData} {n : String} {b : Bool} (ha : Ev ta σ H x) (hd : Dp K H x d) (hb : kitB (tyN d) n = some b) :
    Ev (tCB (rIsi K) (tCons ta (tCons (tC (.ty n)) tNil))) σ H (.bl b) :=
  ev_cb (ea_cons ha (ea_cons ev_c ea_nil)) fun H1 e Q q => ⟨x, .ty n, _, _, b, rfl, .ty n, dp_ty (dp_ex e hd), kit_ty hb, q H1 (Ex.refl H1)⟩
/-- a op b op c of three ints -/
theorem ev_chain {g g' : Int → Int → Bool} {i j k : Int} (ha : Ev ta σ H (.int i)) (hb : Ev tb σ H (.int j)) (hc : Ev tc σ H (.int k)) :
    Ev (tChain (rI0 fun i j => .bl (g i j)) (rI0 fun i j => .bl (g' i j)) ta tb tc) σ H (.bl (g i j && g' j k)) := fun H1 e Q q =>
  ha H1 e _ fun H2 e2 => hb H2 (e.trans e2) _ fun H3 e3 => ⟨i, j, rfl, rfl, g i j, rfl, by
    cases h : g i j with
    | true =>
      rw [h] at q
      show tc σ H3 _
      exact hc H3 ((e.trans e2).trans e3) _ fun H4 e4 => ⟨j, k, rfl, rfl, q H4 ((e2.trans e3).trans e4)⟩
    | false =>
      rw [h] at q
      show Q (.bl false) H3
      exact q H3 (e2.trans e3)⟩
end
/-- a built-in type by its name, as a value -/
theorem pe_ty {X : Cx} {x : Str} {pos : Pos} (n : String) (hm : X.mg x = none) (hv : bootBuiltins x = some (.type n) := by decide +kernel) (hg : Gl X x := by rfl)
    (hn : x ≠ "__name__" := by decide) (hd : (x == ("__debug__" : Str)) = false := by decide) : PE X (.Name x pos) (tC (.ty n)) :=
  pe_bltn (v := .ty n) (u := .type n) hg hm hv rfl hn hd
end L3

namespace L3
open PySem PySem.Spec PyProof.Rows L2 Evl
/-! ### loops over new pairs -/
section
variable {K : PySem.W.Frag} {σ : L2.St} {H : Hp} {D : Ends} {tu tz : TS}
/-- for i, x in enumerate(list): slots j and k -/
theorem s_forEn {a : Addr} {xs : List V} {ta : TA} {j k : Nat} (h : EvA ta σ H [.ref a]) (hx : SqL K H a xs) (Pv : Nat → L2.St → Hp → Prop) (h0 : ∀ H1, Ex H H1 → Pv 0 σ H1)
    (hl : ∀ i σ' H', i ≤ xs.length → Pv i σ' H' → SqL K H' a xs)
    (hs : ∀ i x σ' H', xs[i]? = some x → Pv i σ' H' → ∀ H1, Ex H' H1 → tu { D with nx := Pv (i + 1), ct := Pv (i + 1), bk := D.nx } ((σ'.set j (some (.int (i : Nat)))).set k (some x)) H1)
    (hd : ∀ σ' H', Pv xs.length σ' H' → D.nx σ' H') : tFor (iEnum K ta) (gTup K 2 (gCons (gName j) (gCons (gName k) gNil))) tu D σ H :=
  h H (Ex.refl H) _ fun H1 e => ⟨a, xs, rfl, ex_l e hx, for_it (walk_enum (xs := xs)) Pv (h0 H1 e) (fun i σ' H' hi p => hl i σ' H' hi p) (fun i v σ' H' H2 hi p y => by
    obtain ⟨T, x, z, rfl, hT, rfl, hx1, hz⟩ := y
    cases hx1
    refine ⟨T, _, rfl, Or.inl (Or.inl upd_same), rfl, ?_⟩
    refine ⟨_, _, rfl, _, _, rfl, rfl, ?_⟩
    exact hs i z σ' H' hz p _ (Ex.new hT)) hd⟩
theorem q_forEn {a : Addr} {xs : List V} {ta : TA} {j k : Nat} (h : EvA ta σ H [.ref a]) (hx : SqL K H a xs) (Pv : Nat → L2.St → Hp → Prop) (h0 : ∀ H1, Ex H H1 → Pv 0 σ H1)
    (hl : ∀ i σ' H', i ≤ xs.length → Pv i σ' H' → SqL K H' a xs)
    (hs : ∀ i x σ' H', xs[i]? = some x → Pv i σ' H' → ∀ H1, Ex H' H1 → tu { D with nx := Pv (i + 1), ct := Pv (i + 1), bk := tz D } ((σ'.set j (some (.int (i : Nat)))).set k (some x)) H1)
    (hd : ∀ σ' H', Pv xs.length σ' H' → tz D σ' H') : tSeq (tFor (iEnum K ta) (gTup K 2 (gCons (gName j) (gCons (gName k) gNil))) tu) tz D σ H :=
  s_forEn (D := { D with nx := tz D }) h hx Pv h0 hl hs hd
end
/-! ### an own error class with one field, told by its __init__ -/
/-- an error of the class at C is in the air, its own dict holds f = v; all that stood stands -/
def ErrV (C : Addr) (f : Str) (v : V) (H : Hp) (E : XK) : Prop := ∀ (d : Addr) (H' : Hp), Ex H H' → H d = none → H' d = some (.xd [(f, v)]) → E (.ref C) (some d) H'
theorem ErrV.go {C : Addr} {f : Str} {v : V} {H H1 : Hp} {E : XK} (k : ErrV C f v H E) (e : Ex H H1) : ErrV C f v H1 E := fun d H' e2 hd h => k d H' (e.trans e2) (fresh_back e hd) h
/-- __init__(self, f): self.f = f, for a fresh error -/
def spErr (K : PySem.W.Frag) (C : Addr) (f : Str) : Sp := fun vs H Q _ => ∃ (a : Addr) (v : V), vs = [.ref a, v] ∧ OexC K C ∧ PySem.W.findIn K (.ref C) f = some none ∧ H a = some (exo a C none) ∧
  ∀ dx, H dx = none → dx ≠ a → Q .non (upd (upd H dx (exd dx [(f, v)])) a (exo a C (some dx)))
/-- what is known of such a class and of its __init__, at fI -/
structure ErC (P : Program) (w : World) (K : PySem.W.Frag) (mg : Str → Option Value) (base : Heap) (x : Str) (f : Str) (C fI : Addr) (fd : FuncData) : Prop where
  oex : OexC K C
  hm : mg x = some (.ref C)
  iC : PySem.W.findIn K (.ref C) "__init__" = some (some (.ref fI))
  tI : PySem.W.typeIn K (.ref fI) = some (.type "function")
  no : PySem.W.findIn K (.ref C) f = some none
  ok : FnOk P w K mg base CX0 1 fI fd ["self", f] (spErr K C f)
  bi : Binds K fd ["self", f] []
/-- raise C(e) -/
def tRz (K : PySem.W.Frag) (C : Addr) (f : Str) (W : WX) (te : TE) : TS := fun _ σ H => tMkO C (spErr K C f) [] (tCons te tNil) σ H fun cls d H' => W cls d σ H'
theorem ps_rz {X : Cx} {x f : Str} {C fI : Addr} {fd : FuncData} {W : WX} {e : Expr} {te : TE} {p pos pos' : Pos} (hc : X.calm = true) (T : ErC X.prog X.w X.K X.mg X.base x f C fI fd) (hr : Room 2 X.A) (tk : Takes X W) (he : PA X [e] (tCons te tNil)) (hg : Gl X x := by rfl)
    (hdb : (x == ("__debug__" : Str)) = false := by decide) (hst : starEach (e :: []) X.env = (false, eval e X.env) :: starEach [] X.env := by rfl) (hpl : (backTo pos (starEach [] X.env)).any (·.1) = false := by rfl) :
    PS X (.Raise (some (.Call (.Name x p) [e] [] pos)) none pos') (tRz X.K C f W te) :=
  ps_raise hc tk (pmk_oex (sp := spErr X.K C f) T.oex T.iC T.tI T.ok hr T.bi .nil pass0 hg T.hm he hdb hst hpl)
theorem s_rz {K : PySem.W.Frag} {C : Addr} {f : Str} {W : WX} {te : TE} {σ : L2.St} {H : Hp} {v : V} {D : Ends} (h : Ev te σ H v) (ox : OexC K C) (no : PySem.W.findIn K (.ref C) f = some none)
    (k : ErrV C f v H fun cls d H' => W cls d σ H') : tRz K C f W te D σ H := by
  refine h H (Ex.refl H) _ fun H1 e => ?_
  refine ⟨by show 1 ≤ 1000; decide, fun a ha => ⟨a, v, rfl, ox, no, upd_same, fun dx hdx hne => ⟨rfl, dx, [(f, v)], upd_same, ?_, ?_, ?_⟩⟩⟩
  · rw [upd_ne hne]
    exact upd_same
  · rw [upd_ne hne] at hdx
    exact hdx
  · rw [upd_ne hne] at hdx
    have eH : upd (del (upd (upd (upd H1 a (exo a C none)) dx (exd dx [(f, v)])) a (exo a C (some dx))) a) dx (.xd [(f, v)]) = upd H1 dx (.xd [(f, v)]) := by
      funext b
      by_cases hb : b = dx
      · rw [hb, upd_same, upd_same]
      · rw [upd_ne hb, upd_ne hb]
        by_cases hba : b = a
        · rw [hba, del_same, ha]
        · rw [del_ne hba, upd_ne hba, upd_ne hb, upd_ne hba]
    rw [eH]
    exact k dx _ (e.trans (Ex.new hdx)) (fresh_back e hdx) upd_same
/-- the body of such an __init__ -/
theorem s_ini {K : PySem.W.Frag} {C : Addr} {f : Str} {vs : List V} {H : Hp} {Q : VK} {E : XK} {N : List Str} (h : spErr K C f vs H Q E) (hN : start N vs = vs.map some) :
    tOst K f (tVar 0) (tVar 1) { nx := fun _ H' => Q .non H', rt := Q } (start N vs) H := by
  obtain ⟨a, v, rfl, ox, no, ha, k⟩ := h
  rw [hN]
  exact ⟨v, rfl, .ref a, rfl, a, C, rfl, ox, no, .inl ⟨ha, k⟩⟩
end L3

namespace L3
open PySem PySem.Spec PyProof.Rows L2 Evl
/-! ### a list of one's own beside what stands -/
section
variable {K : PySem.W.Frag} {H H1 H2 : Hp} {l : Addr}
theorem ex_del_self : Ex (del H l) H := fun a o e => by
  by_cases h : a = l
  · rw [h, del_same] at e
    cases e
  · rw [del_ne h] at e
    exact e
theorem ex_del (e : Ex H H1) : Ex (del H l) (del H1 l) := fun a o h => by
  by_cases c : a = l
  · rw [c, del_same] at h
    cases h
  · rw [del_ne c] at h ⊢
    exact e a o h
theorem del_upd {o : HO} : del (upd H l o) l = del H l := by
  funext b
  by_cases c : b = l
  · rw [c, del_same, del_same]
  · rw [del_ne c, del_ne c, upd_ne c]
/-- what does not know l stands beside l -/
theorem ex_beside (e : Ex H H1) (h : H l = none) : Ex H (del H1 l) := fun a o q => by
  have c : a ≠ l := ne_of_none q h
  rw [del_ne c]
  exact e a o q
/-- a new list of data is handed back: what stood stands beside it -/
def RetLD (K : PySem.W.Frag) (ds : List PyData) (H : Hp) (Q : VK) : Prop := ∀ p xs H2, H p = none → Ex H (del H2 p) → H2 p = some (.lst xs) → DpAll K (del H2 p) xs ds → Q (.ref p) H2
theorem RetLD.go {ds : List PyData} {Q : VK} (k : RetLD K ds H Q) (e : Ex H H1) : RetLD K ds H1 Q := fun p xs H2 h1 h2 h3 h4 => k p xs H2 (fresh_back e h1) (e.trans h2) h3 h4
theorem dps_snoc {xs : List V} {ds : List PyData} {x : V} {d : PyData} (h : DpAll K H xs ds) (hx : Dp K H x d) : DpAll K H (xs ++ [x]) (ds ++ [d]) := by
  induction ds generalizing xs with
  | nil =>
    cases h
    exact .cons hx .nil
  | cons e es ih =>
    cases h with
    | cons a r => exact .cons a (ih r)
theorem dps_len' : ∀ {xs : List V} {ds : List PyData}, DpAll K H xs ds → xs.length = ds.length
  | _, _, .nil => rfl
  | _, _, .cons _ r => by rw [List.length_cons, List.length_cons, dps_len' r]
theorem dps_at {xs : List V} {ds : List PyData} {i : Nat} {d : PyData} (h : DpAll K H xs ds) (hi : ds[i]? = some d) : ∃ x, xs[i]? = some x ∧ Dp K H x d := by
  induction ds generalizing xs i with
  | nil => simp at hi
  | cons e es ih =>
    cases h with
    | @cons v vs _ _ a r =>
      cases i with
      | zero =>
        simp at hi
        exact ⟨v, by simp, hi ▸ a⟩
      | succ j =>
        obtain ⟨x, h1, h2⟩ := ih r (by simpa using hi)
        exact ⟨x, by simpa using h1, h2⟩
end
/-! ### a conversation: its writes -/
abbrev Wr := Int × Int × Str
def wD (w : Wr) : PyData := .tuple [.int w.1, .int w.2.1, .str w.2.2]
def cD (ws : List Wr) : PyData := .list (ws.map wD)
/-- the endpoint of the j-th write -/
def spk (ws : List Wr) (j : Nat) : Int := (ws.getD j (0, 0, "")).1
theorem spk_of {ws : List Wr} {j : Nat} {w : Wr} (h : ws[j]? = some w) : spk ws j = w.1 := by
  unfold spk
  rw [List.getD_eq_getElem?_getD, h]
  rfl
section
variable {K : PySem.W.Frag} {H : Hp}
theorem wr_at {xs : List V} {ws : List Wr} {j : Nat} (h : DpAll K H xs (ws.map wD)) (hj : j < ws.length) : ∃ (t : Addr) (w : Wr), ws[j]? = some w ∧ xs[j]? = some (.ref t) ∧ SqT K H t [.int w.1, .int w.2.1, .str w.2.2] := by
  have e : ws[j]? = some ws[j] := by simp [hj]
  obtain ⟨x, h1, h2⟩ := dps_at h (i := j) (d := wD ws[j]) (by rw [List.getElem?_map, e]; rfl)
  cases h2 with
  | tup hs ha =>
    cases ha with
    | cons a1 r1 =>
    cases r1 with
    | cons a2 r2 =>
    cases r2 with
    | cons a3 r3 =>
    cases r3
    cases a1
    cases a2
    cases a3
    exact ⟨_, _, e, h1, hs⟩
end
/-! ### turns -/
/-- one step of the search for turns: what is found, the start of the running one -/
def tstep (ws : List Wr) (a : List (Int × Nat × Nat) × Nat) (stop : Nat) : List (Int × Nat × Nat) × Nat :=
  if stop = ws.length ∨ spk ws stop ≠ spk ws a.2 then (a.1 ++ [(spk ws a.2, a.2, stop)], stop) else a
def tN (ws : List Wr) : Nat → List (Int × Nat × Nat) × Nat
  | 0 => ([], 0)
  | i + 1 => tstep ws (tN ws i) (i + 1)
def turnsM (ws : List Wr) : List (Int × Nat × Nat) := (tN ws ws.length).1
def tD (t : Int × Nat × Nat) : PyData := .tuple [.int t.1, .int (t.2.1 : Int), .int (t.2.2 : Int)]
theorem tN_le (ws : List Wr) : ∀ i, (tN ws i).2 ≤ i
  | 0 => Nat.le_refl _
  | i + 1 => by
    have h := tN_le ws i
    show (tstep ws (tN ws i) (i + 1)).2 ≤ i + 1
    unfold tstep
    split
    · exact Nat.le_refl _
    · omega
theorem tN_len (ws : List Wr) : ∀ i, (tN ws i).1.length ≤ i
  | 0 => Nat.le_refl _
  | i + 1 => by
    have h := tN_len ws i
    show (tstep ws (tN ws i) (i + 1)).1.length ≤ i + 1
    unfold tstep
    split
    · rw [List.length_append, List.length_singleton]
      omega
    · omega
/-- a turn begins at the j-th write -/
def isSt (ws : List Wr) (j : Nat) : Prop := j = 0 ∨ spk ws (j - 1) ≠ spk ws j
instance (ws : List Wr) (j : Nat) : Decidable (isSt ws j) := inferInstanceAs (Decidable (_ ∨ _))
def starts (ts : List (Int × Nat × Nat)) : List Nat := ts.map fun t => t.2.1
structure TI (ws : List Wr) (i : Nat) : Prop where
  mem : ∀ j, j ∈ starts (tN ws i).1 ↔ j < (tN ws i).2 ∧ isSt ws j
  here : (tN ws i).2 < ws.length → isSt ws (tN ws i).2
  run : i < ws.length → ∀ j, (tN ws i).2 ≤ j → j ≤ i → spk ws j = spk ws (tN ws i).2
  fin : i = ws.length → (tN ws i).2 = ws.length
theorem ti_all (ws : List Wr) : ∀ i, i ≤ ws.length → TI ws i
  | 0, _ => ⟨fun j => ⟨(fun h => nomatch h), fun h => absurd h.1 (Nat.not_lt_zero _)⟩, fun _ => Or.inl rfl, fun _ j _ h => by rw [Nat.le_zero.mp h] <;> rfl, fun h => h⟩
  | i + 1, hi => by
    have I := ti_all ws i (by omega)
    have hst := tN_le ws i
    by_cases c : i + 1 = ws.length ∨ spk ws (i + 1) ≠ spk ws (tN ws i).2
    · have eN : tN ws (i + 1) = ((tN ws i).1 ++ [(spk ws (tN ws i).2, (tN ws i).2, i + 1)], i + 1) := if_pos c
      refine ⟨fun j => ?_, fun h => ?_, fun h j h1 h2 => ?_, fun h => ?_⟩
      · rw [eN]
        show j ∈ List.map (fun t => t.2.1) ((tN ws i).1 ++ [(spk ws (tN ws i).2, (tN ws i).2, i + 1)]) ↔ j < i + 1 ∧ isSt ws j
        rw [List.map_append, List.mem_append]
        have m := I.mem j
        constructor
        · intro h
          rcases h with h | h
          · have q := m.mp h
            exact ⟨by omega, q.2⟩
          · have q : j = (tN ws i).2 := by simpa using h
            rw [q]
            exact ⟨by omega, I.here (by omega)⟩
        · rintro ⟨h1, h2⟩
          by_cases c1 : j < (tN ws i).2
          · exact Or.inl (m.mpr ⟨c1, h2⟩)
          · by_cases c2 : j = (tN ws i).2
            · right
              rw [c2]
              simp
            · exfalso
              have r1 := I.run (by omega) j (by omega) (by omega)
              have r2 := I.run (by omega) (j - 1) (by omega) (by omega)
              rcases h2 with h2 | h2
              · omega
              · exact h2 (r2.trans r1.symm)
      · rw [eN] at h ⊢
        have h' : i + 1 < ws.length := h
        have c' : spk ws (i + 1) ≠ spk ws (tN ws i).2 := c.resolve_left (by omega)
        have r1 := I.run (by omega) i (by omega) (Nat.le_refl _)
        refine Or.inr fun z => c' ?_
        have z' : spk ws i = spk ws (i + 1) := z
        rw [← z', r1]
      · rw [eN] at h1 ⊢
        have h1' : i + 1 ≤ j := h1
        have e : j = i + 1 := by omega
        rw [e]
      · rw [eN]
        exact h
    · have eN : tN ws (i + 1) = tN ws i := if_neg c
      have c1 : i + 1 ≠ ws.length := fun z => c (Or.inl z)
      have c2 : spk ws (i + 1) = spk ws (tN ws i).2 := Classical.byContradiction fun z => c (Or.inr z)
      refine ⟨fun j => ?_, fun h => ?_, fun h j h1 h2 => ?_, fun h => absurd h c1⟩
      · rw [eN]
        exact I.mem j
      · rw [eN] at h ⊢
        exact I.here h
      · rw [eN] at h1 ⊢
        by_cases c3 : j = i + 1
        · rw [c3, c2]
        · exact I.run (by omega) j h1 (by omega)
theorem starts_turns (ws : List Wr) (j : Nat) : j ∈ starts (turnsM ws) ↔ j < ws.length ∧ isSt ws j := by
  have I := ti_all ws ws.length (Nat.le_refl _)
  have m := I.mem j
  rw [I.fin rfl] at m
  exact m
/-- how many clearings may stand ahead of each write -/
def limM (ws : List Wr) : List Int := (List.range ws.length).map fun j => if isSt ws j then 0 else 2
theorem set_all {α : Type} (z : α) : ∀ (ss : List Nat) (L : List α) (j : Nat), (ss.foldl (fun L s => L.set s z) L)[j]? = if j ∈ ss then L[j]?.map (fun _ => z) else L[j]?
  | [], L, j => by simp
  | s :: ss, L, j => by
    rw [List.foldl_cons, set_all z ss (L.set s z) j]
    by_cases c : j = s
    · subst c
      rw [if_pos (List.mem_cons_self)]
      by_cases h : j < L.length
      · have e1 : (L.set j z)[j]? = some z := List.getElem?_set_self h
        rw [e1]
        have e2 : L[j]? = some L[j] := by simp [h]
        rw [e2]
        split <;> rfl
      · have e2 : L[j]? = none := by simp; omega
        have e1 : (L.set j z)[j]? = none := by simp; omega
        rw [e1, e2]
        split <;> rfl
    · have e1 : (L.set s z)[j]? = L[j]? := List.getElem?_set_ne (fun q => c q.symm)
      rw [e1]
      have e2 : (j ∈ s :: ss) ↔ j ∈ ss := by
        rw [List.mem_cons]
        exact ⟨fun q => q.resolve_left c, Or.inr⟩
      by_cases h : j ∈ ss
      · rw [if_pos h, if_pos (e2.mpr h)]
      · rw [if_neg h, if_neg fun q => h (e2.mp q)]
theorem lim_set (ws : List Wr) : (starts (turnsM ws)).foldl (fun L s => L.set s (0 : Int)) (List.replicate ws.length 2) = limM ws := by
  refine List.ext_getElem? fun j => ?_
  rw [set_all]
  unfold limM
  rw [List.getElem?_map]
  by_cases h : j < ws.length
  · have e1 : (List.replicate ws.length (2 : Int))[j]? = some 2 := by simp [h]
    have e2 : (List.range ws.length)[j]? = some j := by simp [h]
    rw [e1, e2]
    by_cases c : isSt ws j
    · rw [if_pos ((starts_turns ws j).mpr ⟨h, c⟩)]
      show some (0 : Int) = some (if isSt ws j then 0 else 2)
      rw [if_pos c]
    · rw [if_neg fun q => c ((starts_turns ws j).mp q).2]
      show some (2 : Int) = some (if isSt ws j then 0 else 2)
      rw [if_neg c]
  · have e1 : (List.replicate ws.length (2 : Int))[j]? = none := by simp; omega
    have e2 : (List.range ws.length)[j]? = none := by simp; omega
    rw [e1, e2]
    split <;> rfl
theorem yes_then {te : TE} {σ : L2.St} {H : Hp} {k1 : V → Hp → Prop} {k2 : Hp → Prop} (h : te σ H k1) : tYes σ H fun b H3 => if b = true then te σ H3 k1 else k2 H3 := by
  show (if true = true then te σ H k1 else k2 H)
  rw [if_pos rfl]
  exact h
/-! ### [v] * n -/
section
variable {K : PySem.W.Frag} {σ : L2.St} {H : Hp} {te tn : TE} {v : V}
theorem el_rep {n : Nat} (h : Ev te σ H v) (hn : Ev tn σ H (.int (n : Int))) (hz : n ≤ 100000) : EvL (tOp rRep (tLst (tCons te tNil)) tn) σ H (List.replicate n v) := fun H1 e Q q =>
  h H1 e _ fun H2 e2 => ⟨by show 1 ≤ sizeLine; decide, fun l hl => hn _ ((e.trans e2).trans (Ex.new hl)) _ fun H3 e3 => ⟨l, (n : Int), [v], rfl, rfl, e3 l _ upd_same, by omega, by omega, by
      have q1 : [v].length * ((n : Int)).toNat = n := by simp
      rw [q1]
      exact sz_of hz, fun p hp => by
        have q2 : (List.replicate ((n : Int)).toNat [v]).flatten = List.replicate n v := by simp
        rw [q2]
        have hp1 : H1 p = none := fresh_back (e2.trans ((Ex.new hl).trans e3)) hp
        exact q p _ hp1 ((e2.trans ((Ex.new hl).trans e3)).trans (Ex.new hp)) upd_same⟩⟩
end
section
variable {K : PySem.W.Frag} {σ : L2.St} {H : Hp} {ta tb : TE} {x y : V} {d e : PyData}
theorem rv_eqD (hd : Dp K H x d) (he : Dp K H y e) (s1 : SeqAt.shaped d = true) (s2 : SeqAt.shaped e = true) : RV (rEqD K) x y H (.bl (PyData.eqv d e)) := fun H1 ex Q q => ⟨d, e, dp_ex ex hd, dp_ex ex he, s1, s2, q H1 (Ex.refl H1)⟩
theorem rv_neD (hd : Dp K H x d) (he : Dp K H y e) (s1 : SeqAt.shaped d = true) (s2 : SeqAt.shaped e = true) : RV (rNeD K) x y H (.bl (!PyData.eqv d e)) := fun H1 ex Q q => ⟨d, e, dp_ex ex hd, dp_ex ex he, s1, s2, q H1 (Ex.refl H1)⟩
theorem eqv_str (d : PyData) (s : Str) : PyData.eqv d (.str s) = (match d with | .str z => decide (z = s) | _ => false) := by
  cases d with
  | str z =>
    show (z == s) = decide (z = s)
    by_cases q : z = s
    · rw [q, decide_eq_true rfl, beq_self_eq_true]
    · rw [decide_eq_false q]
      exact beq_eq_false_iff_ne.mpr q
  | _ => rfl
end
end L3

namespace L3
open PySem PySem.Spec PyProof.Rows L2 Evl
/-! ### a try whose clauses stand one after the other, some with a name -/
abbrev Clause := Value × Option Nat × (Addr → Value → Option Addr → TS)
/-- behind a named suite the name is gone -/
def gone (D : Ends) (i : Nat) : Ends := { nx := fun σ H => D.nx (σ.set i none) H, rt := D.rt, bk := fun σ H => D.bk (σ.set i none) H, ct := fun σ H => D.ct (σ.set i none) H }
def suiteOf (D : Ends) (o : Option Nat) (t : TS) (a : Addr) : L2.St → Hp → Prop := match o with
  | none => fun σ H => t D σ H
  | some i => fun σ H => t (gone D i) (σ.set i (some (.ref a))) H
def wCl (K : PySem.W.Frag) (Wout : WX) (D : Ends) : List Clause → WX
  | [] => Wout
  | (c, o, t) :: r => fun cls d σ H => ∃ b, PySem.W.exmOne K cls c = some b ∧ (b = true → ∀ a, H a = none → suiteOf D o (t a cls d) a σ H) ∧ (b = false → wCl K Wout D r cls d σ H)
inductive ClsOk (X : Cx) : List ExceptHandler → List Clause → Prop
  | nil : ClsOk X [] []
  | bare {x : Str} {c : Value} {t : Addr → Value → Option Addr → TS} {b : Stmt} {bs : List Stmt} {p q : Pos} {hs : List ExceptHandler} {l : List Clause} (hc : Names X x c)
      (hsu : ∀ (a : Addr) (o : Obj) (cls : Value) (d : Option Addr) (pn : List (Addr × Obj)), Zc cls d o → (∃ vs, o.data = .fields vs) → PSs (X.suite a ((a, o) :: pn)) (b :: bs) (t a cls d)) (r : ClsOk X hs l) :
      ClsOk X (.ExceptHandler (some (.Name x p)) none (b :: bs) q :: hs) ((c, none, t) :: l)
  | named {x n : Str} {i : Nat} {c : Value} {t : Addr → Value → Option Addr → TS} {b : Stmt} {bs : List Stmt} {p q : Pos} {hs : List ExceptHandler} {l : List Clause} (hN : X.N.Nodup) (hi : X.N[i]? = some n) (hn : X.env.kindOf n = some .local) (hc : Names X x c)
      (hsu : ∀ (a : Addr) (o : Obj) (cls : Value) (d : Option Addr) (pn : List (Addr × Obj)), Zc cls d o → (∃ vs, o.data = .fields vs) → PSs (X.suite a ((a, o) :: pn)) (b :: bs) (t a cls d)) (r : ClsOk X hs l) :
      ClsOk X (.ExceptHandler (some (.Name x p)) (some n) (b :: bs) q :: hs) ((c, some i, t) :: l)
theorem ps_tryC {X : Cx} {body : List Stmt} {h : ExceptHandler} {hs : List ExceptHandler} {l : List Clause} {pos : Pos} {tb : WX → TS} {Wout : WX} (st : X.stack = X.env :: X.outer) (fr : X.env.frame = some X.env.locals) (tk : Takes X Wout)
    (bo : ∀ (W : WX) (pn : List (Addr × Obj)) (xe : Value → Shared → Prop), Takes (X.tr pn xe) W → PassesOwn (model X.prog X.w) X.A X.env xe → PSs (X.tr pn xe) body (tb W))
    (cl : ClsOk X (h :: hs) l) : PS X (.Try body (h :: hs) [] [] pos) (fun D σ H => tb (wCl X.K Wout D l) D σ H) := by
  refine ⟨fun pins s σ H D I rd => ?_⟩
  have ok := I.ok
  have hfr : X.A.frames = some (X.env :: X.outer) := by rw [ok.frames, st]
  refine wpAny_Try_except ?_
  refine wpAny_mono ((bo (wCl X.K Wout D l) (X.pn ++ pins) (fun e z => wpAny (model X.prog X.w) X.A (noteFrame e X.env) (fun _ z2 => wpAny (model X.prog X.w) X.A (setFlight e none) (fun _ z3 =>
    wpAny (model X.prog X.w) X.A (handleBy e X.env (h :: hs)) (SP X pins D) X.xe z3) X.xe z2) X.xe z) (fun u s' hit => ?_) PassesOwn.looking).run [] s σ H D (I.toTry _) rd) (fun f z sp => ?_) (fun e z he => he)
  · obtain ⟨a, B, s0, pins', σ', H', cls, d, rfl, J', nb, up, sky, na, os, ag, wish⟩ := hit
    have J : Inv X pins σ' H' s0 := J'.ofTry ok
    have sky' : Sky B (X.env :: X.outer) a (Zc cls d) X.env.locals s'.heap := by
      rw [← st]
      exact sky
    show wpAny (model X.prog X.w) X.A (noteFrame (.ref a) X.env) _ _ _
    refine Sky.land Zc.steady hfr fr sky' fun h3 fl up3 => ?_
    have J3 : Inv X pins σ' H' { s' with heap := h3 } := J.landed nb fl.1 (up.trans up3) os ag
    obtain ⟨o3, v3, at3, z3, d3⟩ := fl.there
    have off : a ∉ frs (X.env :: X.outer) := fun hm => by
      obtain ⟨_, o', e', nf⟩ := fl.2.2.1.mem hm
      rw [at3] at e'
      cases e'
      exact nf _ d3
    have nL : a ≠ X.env.locals := fun z => off (List.mem_filterMap.mpr ⟨X.env, List.mem_cons_self, by rw [fr, z]⟩)
    have nF : a ∉ X.fs := fun hm => by
      obtain ⟨e, he, q⟩ := List.mem_filterMap.mp hm
      exact off (List.mem_filterMap.mpr ⟨e, List.mem_cons_of_mem _ he, q⟩)
    have S3 := J3.suite at3 d3 na nL nF
    have typ : PySem.W.Looks (model X.prog X.w) h3 (typeOf (.ref a)) cls := fun A Q E s k q => wpAny_typeOf_ref (k _ _ at3) (by rw [z3.1]; exact q)
    have named : ∀ {x : Str} {c : Value} {p : Pos} {Q E : Value → Shared → Prop}, Names X x c → Q c { s' with heap := h3 } →
        wpAny (model X.prog X.w) (X.A.mark (some (.ref a))) (eval (.Name x p) X.env) Q E { s' with heap := h3 } := fun {x c p Q E} hc q => by
      obtain ⟨hg, hdb, hm | ⟨hm, hv, hne⟩⟩ := hc
      · exact ld_glob (X := X.suite a ((a, o3) :: (X.pn ++ pins))) S3 hg hm q hdb
      · exact ld_blt (X := X.suite a ((a, o3) :: (X.pn ++ pins))) S3 hg hm hv q hne hdb
    have go : ∀ {ks : List ExceptHandler} {ls : List Clause}, ClsOk X ks ls → wCl X.K Wout D ls cls d σ' H' →
        wpAny (model X.prog X.w) X.A (handleBy (.ref a) X.env ks) (SP X pins D) X.xe { s' with heap := h3 } := by
      intro ks ls hk
      induction hk with
      | nil =>
        intro wi
        refine wpAny_handleBy_nil ?_
        obtain ⟨y1, y2, y3, oe, vs, Ta, oT, ts, he, hz, hd, hv1, hrest⟩ := id fl
        unfold PySem.passOn
        refine wpAny_bind (wpAny_field he hd hv1 ?_)
        rw [if_neg (show ¬ ((Value.ref Ta == Value.none) = true) by simp)]
        have fin : wpAny (model X.prog X.w) X.A (setFlight (.ref a) X.env.frame) (fun _ w4 => wpAny (model X.prog X.w) X.A (throw (.ref a) : Sem Flow) (SP X pins D) X.xe w4) X.xe { s' with heap := h3 } := by
          rw [fr]
          refine HandSPX.setFlight_upZ fl fun h4 hh up4 => wpAny_throw (tk _ _ ?_)
          exact ⟨a, B, s0, pins, σ', H', cls, d, rfl, J, nb, (up.trans up3).trans up4, .inr (.inr (by rw [st]; exact hh)), na, os, ag, wi⟩
        first | exact wpAny_bind (wpAny_pure (wpAny_bind fin)) | exact wpAny_bind fin
      | @bare x c t b bs p q hs2 l2 hc hsu r ih =>
        intro wi
        obtain ⟨y, hy, yes, no⟩ := wi
        refine wpAny_handleBy_cons (codeAny_handlers_test ?_) (by intro q; cases q)
        have LM := PySem.W.exm_one (M := model X.prog X.w) (J3.kIn) typ hy
        refine named hc (LM.here ?_)
        cases y with
        | false =>
          show wpAny _ X.A (handleBy (.ref a) X.env hs2) _ _ _
          exact ih (no rfl)
        | true =>
          refine codeAny_handlers_suite ?_
          refine HandSPX.lands_againZ fl fun h4 fl4 up4 => ?_
          have J4 : Inv X pins σ' H' { s' with heap := h4 } := J.landed nb fl4.1 ((up.trans up3).trans up4) os ag
          obtain ⟨o4, v4, at4, z4, d4⟩ := fl4.there
          have S4 := J4.suite at4 d4 na nL nF
          refine wpAny_mono ((hsu a o4 cls d (X.pn ++ pins) z4 ⟨_, d4⟩).run [] _ _ H' D S4 (yes rfl a na)) (fun f s6 sp => ?_) (fun _ _ z => False.elim z)
          cases f with
          | ret u =>
            obtain ⟨v6, σ6, H6, S6, r6, q6⟩ := sp
            exact ⟨v6, σ6, H6, S6.unsuite ok, r6, q6⟩
          | next =>
            obtain ⟨σ6, H6, S6, q6⟩ := sp
            exact ⟨σ6, H6, S6.unsuite ok, q6⟩
          | brk =>
            obtain ⟨σ6, H6, S6, q6⟩ := sp
            exact ⟨σ6, H6, S6.unsuite ok, q6⟩
          | cont =>
            obtain ⟨σ6, H6, S6, q6⟩ := sp
            exact ⟨σ6, H6, S6.unsuite ok, q6⟩
      | @named x n i c t b bs p q hs2 l2 hN hi hn hc hsu r ih =>
        intro wi
        obtain ⟨y, hy, yes, no⟩ := wi
        refine wpAny_handleBy_cons (codeAny_handlers_test ?_) (by intro q; cases q)
        have LM := PySem.W.exm_one (M := model X.prog X.w) (J3.kIn) typ hy
        refine named hc (LM.here ?_)
        cases y with
        | false =>
          show wpAny _ X.A (handleBy (.ref a) X.env hs2) _ _ _
          exact ih (no rfl)
        | true =>
          refine codeAny_handlers_suite_as ?_
          refine HandSPX.lands_againZ fl fun h4 fl4 up4 => ?_
          have J4 : Inv X pins σ' H' { s' with heap := h4 } := J.landed nb fl4.1 ((up.trans up3).trans up4) os ag
          obtain ⟨o4, v4, at4, z4, d4⟩ := fl4.there
          have S4 := J4.suite at4 d4 na nL nF
          refine store_ok (X := X.suite a ((a, o4) :: (X.pn ++ pins))) (v := .ref a) S4 hN hi (.inl hn) rfl (fun s5 S5 => ?_) (.inr hn)
          refine wpAny_mono ((hsu a o4 cls d (X.pn ++ pins) z4 ⟨_, d4⟩).run [] s5 _ H' (gone D i) S5 (yes rfl a na)) (fun f s6 sp => ?_) (fun _ _ z => False.elim z)
          have out : ∀ {σ6 : L2.St} {H6 : Hp} {Q : Shared → Prop}, Inv (X.suite a ((a, o4) :: (X.pn ++ pins))) [] σ6 H6 s6 → (∀ s7, Inv X pins (σ6.set i none) H6 s7 → Q s7) →
              wpAny (model X.prog X.w) X.A (do bindName X.env n .none; unbindBehindTheSuite X.env n q) (fun _ s7 => Q s7) X.xe s6 := fun {σ6 H6 Q} S6 hq => gone_ok (S6.unsuite ok) hN hi hn hq
          cases f with
          | ret u =>
            obtain ⟨v6, σ6, H6, S6, r6, q6⟩ := sp
            exact out S6 fun s7 J7 => ⟨v6, _, H6, J7, r6, q6⟩
          | next =>
            obtain ⟨σ6, H6, S6, q6⟩ := sp
            exact out S6 fun s7 J7 => ⟨_, H6, J7, q6⟩
          | brk =>
            obtain ⟨σ6, H6, S6, q6⟩ := sp
            exact out S6 fun s7 J7 => ⟨_, H6, J7, q6⟩
          | cont =>
            obtain ⟨σ6, H6, S6, q6⟩ := sp
            exact out S6 fun s7 J7 => ⟨_, H6, J7, q6⟩
    exact go cl wish
  · cases f with
    | ret u =>
      obtain ⟨v, σ', H', J', r, q⟩ := sp
      exact ⟨v, σ', H', J'.ofTry ok, r, q⟩
    | next =>
      obtain ⟨σ', H', J', q⟩ := sp
      exact wpAny_execs_nil ⟨σ', H', J'.ofTry ok, q⟩
    | brk =>
      obtain ⟨σ', H', J', q⟩ := sp
      exact ⟨σ', H', J'.ofTry ok, q⟩
    | cont =>
      obtain ⟨σ', H', J', q⟩ := sp
      exact ⟨σ', H', J'.ofTry ok, q⟩
end L3

namespace L3
open PySem PySem.Spec PyProof.Rows L2 Evl
/-! ### repr of data -/
/-- what may be shown: no dict, not deep, a text of bounded length -/
structure Shw (d : PyData) : Prop where
  ok : d.showable = true
  nd : d.hasDict = false
  dp : d.depth ≤ 60
  sz : d.shown.length ≤ sizeLine
def rRepr (K : PySem.W.Frag) : List V → Hp → VK → Prop := fun xs H Q => ∃ x d, xs = [x] ∧ Dp K H x d ∧ Shw d ∧ Q (.str d.shown) H
theorem call_reprD {X : Cx} (hg : X.A.guards = some []) (hu : X.A.units + 64 < cLine) : CallR X (.builtin "repr") (rRepr X.K) := by
  intro pins s σ H xs us Q I r h
  obtain ⟨x, d, rfl, hd, sh, q⟩ := h
  obtain ⟨u, rfl, rx⟩ := vals1 r
  cases hd with
  | non =>
    cases (show u = Value.none from rx)
    exact PySem.P.repr_of_none ⟨.str _, H, I.tok _, ⟨_, rfl⟩, q⟩
  | bl b =>
    cases (show u = Value.bool b from rx)
    exact PySem.P.repr_of_bool ⟨.str _, H, I.tok _, ⟨_, rfl⟩, q⟩
  | int i =>
    obtain ⟨t, rfl⟩ := (show ∃ t, u = Value.int i t from rx)
    exact PySem.P.repr_of_int (of_decide_eq_true sh.ok) ⟨.str _, H, I.tok _, ⟨_, rfl⟩, q⟩
  | str z =>
    obtain ⟨t, rfl⟩ := (show ∃ t, u = Value.str z t from rx)
    exact PySem.P.repr_of_str ⟨.str _, H, I.tok _, ⟨_, rfl⟩, q⟩ sh.sz
  | lst hs ha =>
    obtain ⟨as, rd⟩ := Dp.reads I _ _ u (.lst hs ha) rx
    cases (show u = Value.ref _ from rx)
    exact repr_of_reads' rd sh.ok (fun z => by rw [sh.nd] at z; cases z) hg (by have := sh.dp; omega) (fun _ _ e => e) (fun h' uu tk hk => ⟨.str _, H, I.kept hk, ⟨_, rfl⟩, q⟩) sh.sz
  | tup hs ha =>
    obtain ⟨as, rd⟩ := Dp.reads I _ _ u (.tup hs ha) rx
    cases (show u = Value.ref _ from rx)
    exact repr_of_reads' rd sh.ok (fun z => by rw [sh.nd] at z; cases z) hg (by have := sh.dp; omega) (fun _ _ e => e) (fun h' uu tk hk => ⟨.str _, H, I.kept hk, ⟨_, rfl⟩, q⟩) sh.sz
/-! ### a def's promise where no repr is under way -/
structure FnG (P : Program) (w : World) (K : PySem.W.Frag) (mg : Str → Option Value) (base : Heap) (k : Nat) (f : Addr) (fd : FuncData) (ps : List Str) (sp : Sp) : Prop where
  len : ∀ vs H Q E, sp vs H Q E → vs.length = ps.length
  run : ∀ (A : Around) (outer : List Env) (s : Shared) (H : Hp) (args : Args) (us : List Value) (vs : List V) (Q : VK) (E : XK), A.guards = some [] → Room k A → Env0 P w K mg base A outer s H → BindsTo s fd args (ps.zip us) → Vals vs us → sp vs H Q E →
    codeAny (model P w) A (.call (.ref f) args) (CR CX0 outer P w H s Q E) s
section
variable {P : Program} {w : World} {K : PySem.W.Frag} {mg : Str → Option Value} {base : Heap}
theorem okG {x qual : Str} {st : Stmt} {f : Addr} {fd : FuncData} {N ps : List Str} {k : Nat} {sp : Sp} (F : Fun K x qual st f fd) (S : FnScope N ps (defScope st)) (len : ∀ vs H Q E, sp vs H Q E → vs.length = ps.length)
    (body : ∀ (cd : Value) (A : Around) (outer : List Env) (s : Shared) (H : Hp) (vs : List V) (Q : VK) (E : XK), (A.deeper (envOfC qual (defScope st) s.heap.objs.size f cd)).guards = some [] → Room k (A.deeper (envOfC qual (defScope st) s.heap.objs.size f cd)) → sp vs H Q E →
      ∃ t, PSs (cxOf CX0 P w K mg base N qual (defScope st) f cd A outer s H E).nox (defBody st) t ∧ t { nx := fun _ H' => Q .non H', rt := Q } (start N vs) H) : FnG P w K mg base (k + 1) f fd ps sp := by
  obtain ⟨oc, od, kV, doc, pm, an, cd, ct, osl, rfl, lk, hcd⟩ := F.ex
  refine ⟨len, fun A outer s H args us vs Q E hg hr e0 hb r hsp => ?_⟩
  have hl := len vs H Q E hsp
  have KX : K.In s.heap := e0.mod.kin.keeps fun b o e => (e0.bs b o e).1
  have lim : s.heap.NoLimit := e0.mod.nolimit.keeps fun b o e => (e0.bs b o e).1
  have kinds : ∀ y ∈ ps.zip us, (defScope st).names.lookup y.1 = some .local ∨ ((defScope st).names.lookup y.1 = some .cell ∧ ((cellsFrom (s.heap.objs.size + 1) (defScope st).names []).lookup y.1).isSome = true) := fun ⟨n, v⟩ hy =>
    (S.par n (List.of_mem_zip hy).1).elim Or.inl fun q => Or.inr ⟨q, PySem.W.cellsFrom_some _ _ _ (.inl q)⟩
  refine codeAny_call_function hr.depth (KX _ _ lk) rfl S.co S.gen rfl (PySem.W.codeRec_of KX hcd) (hb _ _ _ _ ?_)
  refine wpAny_newFunctionEnv_cells S.kind kinds fun env he s1 x => ?_
  subst he
  refine ⟨lim.keeps x.toInCall.keep, codeAny_func ?_⟩
  obtain ⟨t, ht, hq⟩ := body cd A outer s H vs Q E hg (hr.deeper _) hsp
  have I : Inv (cxOf CX0 P w K mg base N qual (defScope st) f cd A outer s H E) [] (start N vs) H s1 := inv_start S hr.hd e0 hl r x
  refine wpAny_mono (ht.nox.run [] s1 (start N vs) H _ I hq) (fun fl s' hs => ?_) fun e s' hs => hs
  cases fl with
  | next =>
    obtain ⟨σ', H', J, q⟩ := hs
    exact ⟨V.non, H', J.os, J.bare, J.base, J.hok, rfl, q⟩
  | ret u =>
    obtain ⟨v, σ', H', J, rv, q⟩ := hs
    exact ⟨v, H', J.os, J.bare, J.base, J.hok, rv, q⟩
  | brk =>
    obtain ⟨σ', H', J, q⟩ := hs
    exact q.elim
  | cont =>
    obtain ⟨σ', H', J, q⟩ := hs
    exact q.elim
end
/-- a def at level 0: it calls no def -/
theorem ok0 {P : Program} {w : World} {K : PySem.W.Frag} {mg : Str → Option Value} {base : Heap} {x qual : Str} {st : Stmt} {f : Addr} {fd : FuncData} {N ps : List Str} {sp : Sp} (F : Fun K x qual st f fd) (S : FnScope N ps (defScope st)) (len : ∀ vs H Q E, sp vs H Q E → vs.length = ps.length)
    (body : ∀ (cd : Value) (A : Around) (outer : List Env) (s : Shared) (H : Hp) (vs : List V) (Q : VK) (E : XK), sp vs H Q E →
      ∃ t, PSs (cxOf CX0 P w K mg base N qual (defScope st) f cd A outer s H E).nox (defBody st) t ∧ t { nx := fun _ H' => Q .non H', rt := Q } (start N vs) H) : FnOk P w K mg base CX0 0 f fd ps sp := by
  obtain ⟨oc, od, kV, doc, pm, an, cd, ct, osl, rfl, lk, hcd⟩ := F.ex
  refine ⟨len, fun A outer s H args us vs Q E hr e0 hb r hsp => ?_⟩
  have hl := len vs H Q E hsp
  have KX : K.In s.heap := e0.mod.kin.keeps fun b o e => (e0.bs b o e).1
  have lim : s.heap.NoLimit := e0.mod.nolimit.keeps fun b o e => (e0.bs b o e).1
  have kinds : ∀ y ∈ ps.zip us, (defScope st).names.lookup y.1 = some .local ∨ ((defScope st).names.lookup y.1 = some .cell ∧ ((cellsFrom (s.heap.objs.size + 1) (defScope st).names []).lookup y.1).isSome = true) := fun ⟨n, v⟩ hy =>
    (S.par n (List.of_mem_zip hy).1).elim Or.inl fun q => Or.inr ⟨q, PySem.W.cellsFrom_some _ _ _ (.inl q)⟩
  refine codeAny_call_function hr.depth (KX _ _ lk) rfl S.co S.gen rfl (PySem.W.codeRec_of KX hcd) (hb _ _ _ _ ?_)
  refine wpAny_newFunctionEnv_cells S.kind kinds fun env he s1 x => ?_
  subst he
  refine ⟨lim.keeps x.toInCall.keep, codeAny_func ?_⟩
  obtain ⟨t, ht, hq⟩ := body cd A outer s H vs Q E hsp
  have I : Inv (cxOf CX0 P w K mg base N qual (defScope st) f cd A outer s H E) [] (start N vs) H s1 := inv_start S hr.hd e0 hl r x
  refine wpAny_mono (ht.nox.run [] s1 (start N vs) H _ I hq) (fun fl s' hs => ?_) fun e s' hs => hs
  cases fl with
  | next =>
    obtain ⟨σ', H', J, q⟩ := hs
    exact ⟨V.non, H', J.os, J.bare, J.base, J.hok, rfl, q⟩
  | ret u =>
    obtain ⟨v, σ', H', J, rv, q⟩ := hs
    exact ⟨v, H', J.os, J.bare, J.base, J.hok, rv, q⟩
  | brk =>
    obtain ⟨σ', H', J, q⟩ := hs
    exact q.elim
  | cont =>
    obtain ⟨σ', H', J, q⟩ := hs
    exact q.elim
theorem pe_callG {X : Cx} {k : Nat} {f : Addr} {fd : FuncData} {ps : List Str} {sp : Sp} {x : Str} {p pos : Pos} {e : Expr} {es : List Expr} {t : TA} (F : FnG X.prog X.w X.K X.mg X.base k f fd ps sp) (hgu : X.A.guards = some []) (hr : Room k X.A) (hg : Gl X x) (hm : X.mg x = some (.ref f))
    (hk : PySem.W.keepIn X.K (.ref f) = true) (hb : Binds X.K fd ps []) (ha : PA X (e :: es) t) (hdb : (x == ("__debug__" : Str)) = false := by decide)
    (he : starEach (e :: es) X.env = (false, eval e X.env) :: starEach es X.env := by rfl) (hpl : (backTo pos (starEach es X.env)).any (·.1) = false := by rfl) :
    PE X (.Call (.Name x p) (e :: es) [] pos) (tCall sp [] E0 t) := by
  refine ⟨fun pins s σ H Q I h => ?_⟩
  refine wpAny_Call_Name_kw (ld_glob I hg hm ?_ hdb)
  refine PySem.W.callWith_K (h₀ := X.base) I.ok.mod.kin hk (thn (ha.run pos pins s σ H _ I h) fun us s1 ⟨vs, H1, I1, r, q⟩ => ⟨I1.kIn, ?_⟩) he hpl
  have q' : sp vs H1 Q E0 := by
    have z : sp (vs ++ []) H1 Q E0 := q
    rw [List.append_nil] at z
    exact z
  have hl : us.length = ps.length := by
    rw [← r.length]
    exact F.len _ _ _ _ q'
  have hb' := hb s1 us I1.kIn (by rw [List.append_nil]; exact hl)
  rw [List.append_nil] at hb'
  refine wpAny_call (codeAny_mono (F.run X.A X.stack s1 H1 ⟨us, []⟩ us vs Q E0 hgu hr I1.env0 hb' r q') fun r s' hq => ?_)
  cases r with
  | error e => exact hq.elim
  | ok fl =>
    cases fl with
    | ret u => exact I1.after hq
    | next => exact hq.elim
    | brk => exact hq.elim
    | cont => exact hq.elim
end L3

namespace L3
open PySem PySem.Spec PyProof.Rows L2 Evl
/-! ### data that is small: it may be compared and shown -/
mutual
def niceD : PyData → Bool
  | .none | .bool _ => true
  | .int i => decide (i.natAbs < 10 ^ 50)
  | .str x => PyData.strOk x && decide (x.cps.size ≤ 100)
  | .list xs | .tuple xs => niceAll xs
  | .dict _ => false
def niceAll : List PyData → Bool
  | [] => true
  | x :: xs => niceD x && niceAll xs
end
mutual
def nodes : PyData → Nat
  | .list xs | .tuple xs => nodesAll xs + 1
  | _ => 1
def nodesAll : List PyData → Nat
  | [] => 0
  | x :: xs => nodes x + nodesAll xs
end
mutual
theorem nice_nd : ∀ d : PyData, niceD d = true → d.hasDict = false
  | .none, _ | .bool _, _ | .int _, _ | .str _, _ => rfl
  | .list xs, h => nice_ndAll xs h
  | .tuple xs, h => nice_ndAll xs h
theorem nice_ndAll : ∀ xs : List PyData, niceAll xs = true → PyData.hasDictAll xs = false
  | [], _ => rfl
  | x :: xs, h => by
    have h' := Bool.and_eq_true_iff.mp (show (niceD x && niceAll xs) = true from h)
    show (x.hasDict || PyData.hasDictAll xs) = false
    rw [nice_nd x h'.1, nice_ndAll xs h'.2] <;> rfl
end
theorem log_small {i : Int} (h : i.natAbs < 10 ^ 50) : i.natAbs.log2 < 180 := by
  by_cases z : i.natAbs = 0
  · rw [z]
    decide
  · exact (Nat.log2_lt z).mpr (Nat.lt_of_lt_of_le h (by decide))
mutual
theorem nice_show : ∀ d : PyData, niceD d = true → d.showable = true
  | .none, _ | .bool _, _ | .str _, _ => rfl
  | .int i, h => decide_eq_true (Nat.lt_of_lt_of_le (log_small (of_decide_eq_true h)) (by decide))
  | .list xs, h => nice_showAll xs h
  | .tuple xs, h => nice_showAll xs h
theorem nice_showAll : ∀ xs : List PyData, niceAll xs = true → PyData.showableAll xs = true
  | [], _ => rfl
  | x :: xs, h => by
    have h' := Bool.and_eq_true_iff.mp (show (niceD x && niceAll xs) = true from h)
    show (x.showable && PyData.showableAll xs) = true
    rw [nice_show x h'.1, nice_showAll xs h'.2] <;> rfl
end
mutual
theorem nice_lay : ∀ d : PyData, niceD d = true → d.canLay0 = true
  | .none, _ | .bool _, _ | .int _, _ => rfl
  | .str x, h => (Bool.and_eq_true_iff.mp (show (PyData.strOk x && decide (x.cps.size ≤ 100)) = true from h)).1
  | .list xs, h => nice_layAll xs h
  | .tuple xs, h => nice_layAll xs h
theorem nice_layAll : ∀ xs : List PyData, niceAll xs = true → PyData.canLayAll0 xs = true
  | [], _ => rfl
  | x :: xs, h => by
    have h' := Bool.and_eq_true_iff.mp (show (niceD x && niceAll xs) = true from h)
    show (x.canLay0 && PyData.canLayAll0 xs) = true
    rw [nice_lay x h'.1, nice_layAll xs h'.2] <;> rfl
end
mutual
theorem nice_short : ∀ d : PyData, niceD d = true → PyData.leavesShort 61 d = true
  | .none, _ | .bool _, _ => rfl
  | .int i, h => decide_eq_true (by
      have z := int_text_length_le10 (a := i) (k := 50) (by decide) (of_decide_eq_true h)
      show (Str.ofString (toString i)).length ≤ 61
      rw [PySem.ofString_length]
      omega)
  | .str x, h => by
    have q := (Bool.and_eq_true_iff.mp (show (PyData.strOk x && decide (x.cps.size ≤ 100)) = true from h)).1
    show (x.cps.toList.all fun c => decide (c < 16 ^ 8)) = true
    rw [List.all_eq_true]
    intro c hc
    have q2 : x.cps.all (fun c => decide (c < 0x110000)) = true := q
    have q3 : x.cps.toList.all (fun c => decide (c < 0x110000)) = true := by
      rw [← q2]
      simp
    have z := of_decide_eq_true (List.all_eq_true.mp q3 c hc)
    exact decide_eq_true (Nat.lt_of_lt_of_le z (by decide))
  | .list xs, h => nice_shortAll xs h
  | .tuple xs, h => nice_shortAll xs h
theorem nice_shortAll : ∀ xs : List PyData, niceAll xs = true → PyData.leavesShortAll 61 xs = true
  | [], _ => rfl
  | x :: xs, h => by
    have h' := Bool.and_eq_true_iff.mp (show (niceD x && niceAll xs) = true from h)
    show (PyData.leavesShort 61 x && PyData.leavesShortAll 61 xs) = true
    rw [nice_short x h'.1, nice_shortAll xs h'.2] <;> rfl
end
mutual
theorem nice_weight : ∀ d : PyData, niceD d = true → d.weight + 1 ≤ 201 * nodes d
  | .none, _ | .bool _, _ => by show 0 + 1 ≤ 201 * 1; decide
  | .int i, h => by
    show (if i == 0 then 0 else i.natAbs.log2 + 1) + 1 ≤ 201 * 1
    have z := log_small (of_decide_eq_true h)
    split <;> omega
  | .str x, h => by
    have q := of_decide_eq_true (Bool.and_eq_true_iff.mp (show (PyData.strOk x && decide (x.cps.size ≤ 100)) = true from h)).2
    show x.cps.size + 1 ≤ 201 * 1
    omega
  | .list xs, h => by
    have z := nice_weightAll xs h
    show PyData.weightAll xs + 1 ≤ 201 * (nodesAll xs + 1)
    omega
  | .tuple xs, h => by
    have z := nice_weightAll xs h
    show PyData.weightAll xs + 1 ≤ 201 * (nodesAll xs + 1)
    omega
theorem nice_weightAll : ∀ xs : List PyData, niceAll xs = true → PyData.weightAll xs ≤ 201 * nodesAll xs
  | [], _ => by show 0 ≤ 201 * 0; decide
  | x :: xs, h => by
    have h' := Bool.and_eq_true_iff.mp (show (niceD x && niceAll xs) = true from h)
    have z1 := nice_weight x h'.1
    have z2 := nice_weightAll xs h'.2
    show x.weight + 1 + PyData.weightAll xs ≤ 201 * (nodes x + nodesAll xs)
    omega
end
structure Nice (d : PyData) : Prop where
  ok : niceD d = true
  dp : d.depth ≤ 10
  nd : nodes d ≤ 1200
theorem Nice.shaped {d : PyData} (h : Nice d) : SeqAt.shaped d = true := by
  show (d.canLay0 && decide (d.depth ≤ 64)) = true
  rw [nice_lay d h.ok, decide_eq_true (by have := h.dp; omega : d.depth ≤ 64)] <;> rfl
theorem Nice.shw {d : PyData} (h : Nice d) : Shw d where
  ok := nice_show d h.ok
  nd := nice_nd d h.ok
  dp := by have := h.dp; omega
  sz := by
    have z := PyData.shown_le 61 (by decide) d (nice_short d h.ok)
    have z2 := nice_weight d h.ok
    have z3 := h.nd
    rw [sizeLine_eq]
    omega
mutual
theorem eqv_refl : ∀ d : PyData, d.hasDict = false → PyData.eqv d d = true
  | .none, _ => rfl
  | .bool b, _ => by show (b == b) = true; simp
  | .int i, _ => by show (i == i) = true; simp
  | .str x, _ => by show (x == x) = true; simp
  | .list xs, h => eqv_reflAll xs h
  | .tuple xs, h => eqv_reflAll xs h
theorem eqv_reflAll : ∀ xs : List PyData, PyData.hasDictAll xs = false → PyData.eqvAll xs xs = true
  | [], _ => rfl
  | x :: xs, h => by
    have h' : x.hasDict = false ∧ PyData.hasDictAll xs = false := by
      have z : (x.hasDict || PyData.hasDictAll xs) = false := h
      exact Bool.or_eq_false_iff.mp z
    show (PyData.eqv x x && PyData.eqvAll xs xs) = true
    rw [eqv_refl x h'.1, eqv_reflAll xs h'.2] <;> rfl
end
theorem Nice.refl {d : PyData} (h : Nice d) : PyData.eqv d d = true := eqv_refl d (nice_nd d h.ok)
/-- a list of small things -/
theorem nice_list {xs : List PyData} {k m : Nat} (h1 : ∀ x ∈ xs, niceD x = true ∧ x.depth ≤ k ∧ nodes x ≤ m) (hk : k ≤ 8) (hm : m * xs.length ≤ 1100) : Nice (.list xs) ∧ Nice (.tuple xs) := by
  have all : ∀ ys : List PyData, (∀ x ∈ ys, niceD x = true ∧ x.depth ≤ k ∧ nodes x ≤ m) → niceAll ys = true ∧ PyData.depthAll ys ≤ k ∧ nodesAll ys ≤ m * ys.length := by
    intro ys
    induction ys with
    | nil => intro _; exact ⟨rfl, Nat.zero_le _, Nat.zero_le _⟩
    | cons y r ih =>
      intro h
      obtain ⟨a1, a2, a3⟩ := h y List.mem_cons_self
      obtain ⟨b1, b2, b3⟩ := ih fun x hx => h x (List.mem_cons_of_mem _ hx)
      refine ⟨?_, ?_, ?_⟩
      · show (niceD y && niceAll r) = true
        rw [a1, b1] <;> rfl
      · show max y.depth (PyData.depthAll r) ≤ k
        omega
      · show nodes y + nodesAll r ≤ m * (r.length + 1)
        rw [Nat.mul_add, Nat.mul_one]
        omega
  obtain ⟨a, b, c⟩ := all xs h1
  constructor
  · exact ⟨a, by show PyData.depthAll xs + 1 ≤ 10; omega, by show nodesAll xs + 1 ≤ 1200; omega⟩
  · exact ⟨a, by show PyData.depthAll xs + 1 ≤ 10; omega, by show nodesAll xs + 1 ≤ 1200; omega⟩
/-! ### comprehensions over a tuple -/
section
variable {K : PySem.W.Frag} {σ : L2.St} {H : Hp} {te tl : TE} {t : TT}
theorem el_lcT {a : Addr} {xs : List V} {j : Nat} {vs : List Nat} (f : Nat → Bool) (v : Nat → V) (h : Ev tl σ H (.ref a)) (hx : SqT K H a xs) (hz : xs.length ≤ 40000) (hw : ∀ x, wipe ((wipe σ vs).set j (some x)) vs = wipe σ vs)
    (ht : ∀ (i : Nat) (x : V) H1, Ex H H1 → xs[i]? = some x → EvT t ((wipe σ vs).set j (some x)) H1 (f i)) (he : ∀ (i : Nat) (x : V) H1, Ex H H1 → xs[i]? = some x → f i = true → Ev te ((wipe σ vs).set j (some x)) H1 (v i)) :
    EvL (tLc (iTup K tl) (gName j) t te vs) σ H (given xs.length f v) := by
  intro H0 e Q q
  refine h H0 e _ fun H1 e1 => ⟨a, rfl, ⟨xs, ex_t (e.trans e1) hx⟩, fun Dl hD => ?_⟩
  refine lc_tup (xs := xs) (Cw H1 f v Dl) ⟨hD, Ex.new hD, upd_same⟩ (fun i H' _ p => ex_t ((e.trans e1).trans p.2.1) hx) (fun i x H' hi p => ?_) (fun H' p => q Dl H' (fresh_back e1 p.1) (e1.trans p.2.1) p.2.2)
  exact ⟨hw x, cw_turn p (by have := (List.getElem?_eq_some_iff.mp hi).1; omega) (ht i x H1 (e.trans e1) hi) (fun hf => he i x H1 (e.trans e1) hi hf)⟩
end
end L3

namespace L3
open PySem PySem.Spec PyProof.Rows L2 Evl
/-! ### the end, for a promise that holds where no repr is under way -/
section
variable {P : Program} {w : World} {K : PySem.W.Frag} {mg mb : Str → Option Value} {k : Nat} {fa a : Addr} {fd : FuncData} {x : Str} {sp : Sp} {z : Shared} {vs : List Value} {ns : List Int}
/-- from an abstract heap H that may track the script alone -/
theorem endAt (KX : K.In z.heap) (hn : z.heap.Ns mainGlobals mg) (hb : z.heap.Ns builtinsNs mb) (hbb : ∀ x : Str, x ≠ "__name__" → mb x = bootBuiltins x) (lim : z.heap.NoLimit) (hg : z.gens = #[])
    (ha : z.heap.get? a = some { cls := .type "list", data := .seq vs.toArray }) (hr : Room k callerA) (F : ∀ base : Heap, K.In base → base.Ns mainGlobals mg → FnG P w K mg base k fa fd [x] sp)
    (bi : ∀ (s : Shared) (u : Value), BindsTo s fd ⟨[u], []⟩ [(x, u)]) {H : Hp} (only : Only H) (hok : HOk P w H z.heap) (hA : ∀ b, H b ≠ none → b = a) (hK : H a ≠ none → K.lookup a = none) (hsp : sp [.ref a] H (fun v _ => v = .bl true) fun _ _ _ => False) :
    codeAny (model P w) callerA (.call (.ref fa) ⟨[.ref a], []⟩) (fun r s' => r = .ok (.ret (.bool true)) ∧ OldK z.heap s'.heap ∧ s'.os = z.os ∧ AllBare s'.gens) z := by
  have off : ∀ {b : Addr}, b ≠ a → H b = none := fun {b} hb => by
    cases q : H b with
    | none => rfl
    | some u => exact absurd (hA b (by rw [q]; simp)) hb
  have offD : ∀ {b : Addr} {o : Obj} {es : Array DictEntry} {ep : Nat}, z.heap.get? b = some o → o.data = .dict es ep → H b = none := fun {b o es ep} e d => off fun y => by
    rw [y, ha] at e
    cases e
    have d' : Data.seq vs.toArray _ = Data.dict es ep := d
    cases d'
  have offK : ∀ {b : Addr} {o : Obj}, K.lookup b = some o → H b = none := fun {b o} e => by
    by_cases c : b = a
    · cases q : H b with
      | none => rfl
      | some u =>
        have n := hK (by rw [← c, q]; simp)
        rw [← c, e] at n
        cases n
    · exact off c
  have nsK : ∀ {b : Addr} {m : Str → Option Value}, z.heap.Ns b m → (hidT z.heap H).Ns b m := fun {b m} ⟨o, es, ep, e, d, r⟩ => ⟨o, es, ep, hidT_get e (offD e d), d, r⟩
  have kb : K.In (hidT z.heap H) := fun b o e => hidT_get (KX b o e) (offK e)
  have md : Mod K mg (hidT z.heap H) := ⟨kb, nsK hn, ⟨mb, nsK hb, hbb⟩, let ⟨mc, h1, h2⟩ := lim; ⟨mc, nsK h1, h2⟩⟩
  have e0 : Env0 P w K mg (hidT z.heap H) callerA [] z H := ⟨rfl, md, fun b o e => of_hidT e, Nat.le_of_eq (hidT_size _ _), trivial, (fun b hb => absurd (show b ∈ ([] : List Addr) from hb) (by simp)), hok, .of_eq hg⟩
  refine codeAny_mono ((F _ kb (nsK hn)).run callerA [] z H ⟨[.ref a], []⟩ [.ref a] [.ref a] _ _ rfl hr e0 (bi z (.ref a)) (.cons rfl .nil) hsp) fun r s' h => ?_
  cases r with
  | error e => exact h.elim
  | ok fl =>
    cases fl with
    | ret u =>
      obtain ⟨v, H', os, bare, un, hok', rv, q⟩ := h
      obtain rfl : v = .bl true := q
      obtain rfl : u = Value.bool true := rv
      refine ⟨rfl, OldK.of_keep fun b o e => ?_, os, bare⟩
      rcases only b with n | ⟨ob, xs, n⟩
      · exact un.keep b o e n (fun y => absurd (show b ∈ ([] : List Addr) from y) (by simp)) (by simp)
      · obtain ⟨e1, _⟩ := hok b _ n
        obtain ⟨e2, _⟩ := hok' b _ (un.frzs b ob _ n)
        rw [e] at e1
        cases e1
        exact e2
    | next => exact h.elim
    | brk => exact h.elim
    | cont => exact h.elim
theorem endG (KX : K.In z.heap) (hn : z.heap.Ns mainGlobals mg) (hb : z.heap.Ns builtinsNs mb) (hbb : ∀ x : Str, x ≠ "__name__" → mb x = bootBuiltins x) (lim : z.heap.NoLimit) (hg : z.gens = #[])
    (ha : z.heap.get? a = some { cls := .type "list", data := .seq vs.toArray }) (hi : IntsAre vs ns) (hl : ns.length ≤ sizeLine) (hr : Room k callerA) (F : ∀ base : Heap, K.In base → base.Ns mainGlobals mg → FnG P w K mg base k fa fd [x] sp)
    (bi : ∀ (s : Shared) (u : Value), BindsTo s fd ⟨[u], []⟩ [(x, u)]) (hsp : ∀ H : Hp, Only H → SqL K H a (ns.map V.int) → sp [.ref a] H (fun v _ => v = .bl true) fun _ _ _ => False) :
    codeAny (model P w) callerA (.call (.ref fa) ⟨[.ref a], []⟩) (fun r s' => r = .ok (.ret (.bool true)) ∧ OldK z.heap s'.heap ∧ s'.os = z.os ∧ AllBare s'.gens) z := by
  have rv := vals_ints hi
  cases hk : K.lookup a with
  | some o =>
    have e := KX a o hk
    rw [ha] at e
    cases e
    have hS : SqL K (fun _ => none) a (ns.map V.int) := Or.inr ⟨_, vs.toArray, _, hk, rfl, rfl, rfl, by rw [List.size_toArray, hi.length]; exact hl, by simpa using rv⟩
    have on : Only (fun _ => none) := fun _ => Or.inl rfl
    exact endAt KX hn hb hbb lim hg ha hr F bi on (fun b u y => nomatch (show (none : Option HO) = some u from y)) (fun b y => absurd rfl y) (fun y => absurd rfl y) (hsp _ on hS)
  | none =>
    have at_ : (fun b : Addr => if b = a then some (HO.frz { cls := .type "list", data := .seq vs.toArray } (.lst (ns.map V.int))) else none) a = some (.frz { cls := .type "list", data := .seq vs.toArray } (.lst (ns.map V.int))) := if_pos rfl
    have on : Only (fun b : Addr => if b = a then some (HO.frz { cls := .type "list", data := .seq vs.toArray } (.lst (ns.map V.int))) else none) := fun b => by
      by_cases c : b = a
      · exact Or.inr ⟨_, _, if_pos c⟩
      · exact Or.inl (if_neg c)
    refine endAt KX hn hb hbb lim hg ha hr F bi on (fun b u y => ?_) (fun b y => ?_) (fun _ => hk) (hsp _ on (Or.inl (Or.inr ⟨_, at_⟩)))
    · by_cases c : b = a
      · have y' := (if_pos c).symm.trans y
        cases y'
        rw [c]
        exact ⟨ha, by rw [List.length_map]; exact hl, vs, _, rv, ha⟩
      · have y' := (if_neg c).symm.trans y
        cases y'
    · by_cases c : b = a
      · exact c
      · exact absurd (if_neg c) y
end
theorem walkG {l : PySem.W.OpenLaw} {n k : Nat} {q : Program} {loose : List Str} {XP : (Str → Option Value) → Heap → Prop} {YP : World → Heap → Prop} {d : DefRec} {K : Params → PySem.W.Frag} {sp : World → Sp} {x : Str} (hn : l.most = some n) (hn2 : n ≤ sizeLine) (hdf : d.params.defaults = []) (hr : Room k callerA)
    (hY : ∀ (w : World) (h : Heap), YP w h → (K w.params).In h)
    (F : ∀ (w : World) (mg : Str → Option Value) (fa : Addr) (h : Heap), (K w.params).In h → h.Ns mainGlobals mg → mg d.name = some (.ref fa) →
      ∃ fd : FuncData, (∀ (s : Shared) (u : Value), BindsTo s fd ⟨[u], []⟩ [(x, u)]) ∧ ∀ base : Heap, (K w.params).In base → base.Ns mainGlobals mg → FnG l.prog w (K w.params) mg base k fa fd [x] (sp w))
    (hsp : ∀ (w : World) (H : Hp) (a : Addr) (ns : List Int), ns.length ≤ n → Only H → SqL (K w.params) H a (ns.map V.int) → sp w [.ref a] H (fun v _ => v = .bl true) fun _ _ _ => False) :
    PySem.W.WalkO q loose XP YP l.row.toRowW d [] (fun f vs => PySem.call f vs) := by
  refine Att.attach_call hn hdf fun w s₀ z mg mb fa o pm cd doc a vs ns G Y ho hd hcd hmg hobj hints hlen hg => ?_
  have KX := hY w _ Y
  obtain ⟨fd, hb, hF⟩ := F w mg fa _ KX G.T.g hmg
  exact endG KX G.T.g G.T.b G.T.builtins G.T.nolimit hg hobj hints (Nat.le_trans hlen hn2) hr hF hb fun H hO hS => hsp w H a ns hlen hO hS
end L3

namespace L3
open PySem PySem.Spec PyProof.Rows L2 Evl
/-! ### several clauses, some naming two classes at once -/
def exmC (K : PySem.W.Frag) (cls : Value) : List Value → Option Bool
  | [c] => PySem.W.exmOne K cls c
  | l => PySem.W.exmAny K cls l
abbrev ClauseT := List Value × Option Nat × (Addr → Value → Option Addr → TS)
def wClT (K : PySem.W.Frag) (Wout : WX) (D : Ends) : List ClauseT → WX
  | [] => Wout
  | (cs, o, t) :: r => fun cls d σ H => ∃ b, exmC K cls cs = some b ∧ (b = true → ∀ a, H a = none → suiteOf D o (t a cls d) a σ H) ∧ (b = false → wClT K Wout D r cls d σ H)
inductive TestOk (X : Cx) : Expr → List Value → Prop
  | one {x : Str} {c : Value} {p : Pos} (hc : Names X x c) : TestOk X (.Name x p) [c]
  | two {x y : Str} {c e : Value} {p q r : Pos} {kk : Nat} (hc : Names X x c) (he : Names X y e) : TestOk X (.Tuple [.Name x p, .Name y q] kk r) [c, e]
inductive ClsT (X : Cx) : List ExceptHandler → List ClauseT → Prop
  | nil : ClsT X [] []
  | bare {te : Expr} {cs : List Value} {t : Addr → Value → Option Addr → TS} {b : Stmt} {bs : List Stmt} {q : Pos} {hs : List ExceptHandler} {l : List ClauseT} (hc : TestOk X te cs)
      (hsu : ∀ (a : Addr) (o : Obj) (cls : Value) (d : Option Addr) (pn : List (Addr × Obj)), Zc cls d o → (∃ vs, o.data = .fields vs) → PSs (X.suite a ((a, o) :: pn)) (b :: bs) (t a cls d)) (r : ClsT X hs l) :
      ClsT X (.ExceptHandler (some te) none (b :: bs) q :: hs) ((cs, none, t) :: l)
  | named {te : Expr} {n : Str} {i : Nat} {cs : List Value} {t : Addr → Value → Option Addr → TS} {b : Stmt} {bs : List Stmt} {q : Pos} {hs : List ExceptHandler} {l : List ClauseT} (hN : X.N.Nodup) (hi : X.N[i]? = some n) (hn : X.env.kindOf n = some .local) (hc : TestOk X te cs)
      (hsu : ∀ (a : Addr) (o : Obj) (cls : Value) (d : Option Addr) (pn : List (Addr × Obj)), Zc cls d o → (∃ vs, o.data = .fields vs) → PSs (X.suite a ((a, o) :: pn)) (b :: bs) (t a cls d)) (r : ClsT X hs l) :
      ClsT X (.ExceptHandler (some te) (some n) (b :: bs) q :: hs) ((cs, some i, t) :: l)
/-- a flight bears a further object -/
theorem flying_push {B : Heap} {l : List Env} {a : Addr} {Z : Obj → Prop} {h : Heap} {o : Obj} (fl : HandSPX.FlyingZ B l a Z h) : HandSPX.FlyingZ B l a Z (h.push o) := by
  have kp : ∀ b u, h.get? b = some u → (h.push o).get? b = some u := fun _ _ z => Heap.get?_push_of_some _ z
  obtain ⟨f1, f2, f3, oe, vs, T, oT, ts, g1, g2, g3, g4, g5, g6, g7, g8, g9⟩ := fl
  exact ⟨fun b u e => kp b u (f1 b u e), f2, Heap.FunFrames.of_keeps (fun b u e _ => ⟨u, kp b u e, rfl⟩) f3, oe, vs, T, oT, ts, kp _ _ g1, g2, g3, g4, g5, g6, kp _ _ g7, g8, g9⟩
theorem ps_tryT {X : Cx} {body : List Stmt} {h : ExceptHandler} {hs : List ExceptHandler} {l : List ClauseT} {pos : Pos} {tb : WX → TS} {Wout : WX} (st : X.stack = X.env :: X.outer) (fr : X.env.frame = some X.env.locals) (tk : Takes X Wout)
    (bo : ∀ (W : WX) (pn : List (Addr × Obj)) (xe : Value → Shared → Prop), Takes (X.tr pn xe) W → PassesOwn (model X.prog X.w) X.A X.env xe → PSs (X.tr pn xe) body (tb W))
    (cl : ClsT X (h :: hs) l) : PS X (.Try body (h :: hs) [] [] pos) (fun D σ H => tb (wClT X.K Wout D l) D σ H) := by
  refine ⟨fun pins s σ H D I rd => ?_⟩
  have ok := I.ok
  have hfr : X.A.frames = some (X.env :: X.outer) := by rw [ok.frames, st]
  refine wpAny_Try_except ?_
  refine wpAny_mono ((bo (wClT X.K Wout D l) (X.pn ++ pins) (fun e z => wpAny (model X.prog X.w) X.A (noteFrame e X.env) (fun _ z2 => wpAny (model X.prog X.w) X.A (setFlight e none) (fun _ z3 =>
    wpAny (model X.prog X.w) X.A (handleBy e X.env (h :: hs)) (SP X pins D) X.xe z3) X.xe z2) X.xe z) (fun u s' hit => ?_) PassesOwn.looking).run [] s σ H D (I.toTry _) rd) (fun f z sp => ?_) (fun e z he => he)
  · obtain ⟨a, B, s0, pins', σ', H', cls, d, rfl, J', nb, up, sky, na, os, ag, wish⟩ := hit
    have J : Inv X pins σ' H' s0 := J'.ofTry ok
    have sky' : Sky B (X.env :: X.outer) a (Zc cls d) X.env.locals s'.heap := by
      rw [← st]
      exact sky
    show wpAny (model X.prog X.w) X.A (noteFrame (.ref a) X.env) _ _ _
    refine Sky.land Zc.steady hfr fr sky' fun h0 fl0 up0 => ?_
    have off : ∀ {hh : Heap} {o3 : Obj} {v3 : Array Value}, Inv X pins σ' H' { s' with heap := hh } → HandSPX.FlyingZ B (X.env :: X.outer) a (Zc cls d) hh → hh.get? a = some o3 → o3.data = .fields v3 → a ≠ X.env.locals ∧ a ∉ X.fs := fun {hh o3 v3} _ fl at3 d3 => by
      have of1 : a ∉ frs (X.env :: X.outer) := fun hm => by
        obtain ⟨_, o', e', nf⟩ := fl.2.2.1.mem hm
        rw [at3] at e'
        cases e'
        exact nf _ d3
      exact ⟨fun z => of1 (List.mem_filterMap.mpr ⟨X.env, List.mem_cons_self, by rw [fr, z]⟩), fun hm => by
        obtain ⟨e, he, q⟩ := List.mem_filterMap.mp hm
        exact of1 (List.mem_filterMap.mpr ⟨e, List.mem_cons_of_mem _ he, q⟩)⟩
    have tst : ∀ {te : Expr} {cs : List Value} {b : Bool} {R : Bool → Shared → Prop} {E1 E2 : Value → Shared → Prop}, TestOk X te cs → exmC X.K cls cs = some b → ∀ h3, HandSPX.FlyingZ B (X.env :: X.outer) a (Zc cls d) h3 → s'.heap.UpToSlots h3 →
        (∀ h4, HandSPX.FlyingZ B (X.env :: X.outer) a (Zc cls d) h4 → s'.heap.UpToSlots h4 → R b { s' with heap := h4 }) →
        wpAny (model X.prog X.w) (X.A.mark (some (.ref a))) (eval te X.env) (fun c s2 => wpAny (model X.prog X.w) (X.A.mark (some (.ref a))) (excMatches (.ref a) c) R E1 s2) E2 { s' with heap := h3 } := by
      intro te cs b R E1 E2 ht hb h3 fl up3 q
      have J3 : Inv X pins σ' H' { s' with heap := h3 } := J.landed nb fl.1 (up.trans up3) os ag
      obtain ⟨o3, v3, at3, z3, d3⟩ := fl.there
      obtain ⟨nL, nF⟩ := off J3 fl at3 d3
      have S3 := J3.suite at3 d3 na nL nF
      have typ : PySem.W.Looks (model X.prog X.w) h3 (typeOf (.ref a)) cls := fun A Q E s k q => wpAny_typeOf_ref (k _ _ at3) (by rw [z3.1]; exact q)
      have named : ∀ {x : Str} {c : Value} {p : Pos} {Q E0 : Value → Shared → Prop}, Names X x c → Q c { s' with heap := h3 } →
          wpAny (model X.prog X.w) (X.A.mark (some (.ref a))) (eval (.Name x p) X.env) Q E0 { s' with heap := h3 } := fun {x c p Q E0} hc q => by
        obtain ⟨hg, hdb, hm | ⟨hm, hv, hne⟩⟩ := hc
        · exact ld_glob (X := X.suite a ((a, o3) :: (X.pn ++ pins))) S3 hg hm q hdb
        · exact ld_blt (X := X.suite a ((a, o3) :: (X.pn ++ pins))) S3 hg hm hv q hne hdb
      cases ht with
      | one hc => exact named hc ((PySem.W.exm_one (M := model X.prog X.w) (J3.kIn) typ hb).here (q h3 fl up3))
      | @two x y c e p r r2 kk hc he =>
        refine wpAny_Tuple ?_
        refine wpAny_items_cons (named hc ?_)
        refine wpAny_items_cons (named he ?_)
        refine wpAny_items_nil ⟨by size_fits, ?_⟩
        have kp : ∀ b o, h3.get? b = some o → (h3.push { cls := .type "tuple", data := .seq [c, e].toArray }).get? b = some o := fun _ _ z => Heap.get?_push_of_some _ z
        refine (PySem.W.exm_tup2 (M := model X.prog X.w) (J3.kIn.keeps kp) (typ.keeps kp) (Heap.get?_push_size h3 rfl) hb).here (q _ (flying_push fl) (up3.trans (Heap.UpToSlots.of_keeps kp)))
    have go : ∀ {ks : List ExceptHandler} {ls : List ClauseT}, ClsT X ks ls → wClT X.K Wout D ls cls d σ' H' → ∀ h3, HandSPX.FlyingZ B (X.env :: X.outer) a (Zc cls d) h3 → s'.heap.UpToSlots h3 →
        wpAny (model X.prog X.w) X.A (handleBy (.ref a) X.env ks) (SP X pins D) X.xe { s' with heap := h3 } := by
      intro ks ls hk
      induction hk with
      | nil =>
        intro wi h3 fl up3
        have J3 : Inv X pins σ' H' { s' with heap := h3 } := J.landed nb fl.1 (up.trans up3) os ag
        refine wpAny_handleBy_nil ?_
        obtain ⟨y1, y2, y3, oe, vs, Ta, oT, ts, he, hz, hd, hv1, hrest⟩ := id fl
        unfold PySem.passOn
        refine wpAny_bind (wpAny_field he hd hv1 ?_)
        rw [if_neg (show ¬ ((Value.ref Ta == Value.none) = true) by simp)]
        have fin : wpAny (model X.prog X.w) X.A (setFlight (.ref a) X.env.frame) (fun _ w4 => wpAny (model X.prog X.w) X.A (throw (.ref a) : Sem Flow) (SP X pins D) X.xe w4) X.xe { s' with heap := h3 } := by
          rw [fr]
          refine HandSPX.setFlight_upZ fl fun h4 hh up4 => wpAny_throw (tk _ _ ?_)
          exact ⟨a, B, s0, pins, σ', H', cls, d, rfl, J, nb, (up.trans up3).trans up4, .inr (.inr (by rw [st]; exact hh)), na, os, ag, wi⟩
        first | exact wpAny_bind (wpAny_pure (wpAny_bind fin)) | exact wpAny_bind fin
      | @bare te cs t b bs q hs2 l2 hc hsu r ih =>
        intro wi h3 fl up3
        obtain ⟨y, hy, yes, no⟩ := wi
        refine wpAny_handleBy_cons (codeAny_handlers_test ?_) (by cases hc <;> (intro q; cases q))
        refine tst hc hy h3 fl up3 fun h4 fl4 up4 => ?_
        cases y with
        | false =>
          show wpAny _ X.A (handleBy (.ref a) X.env hs2) _ _ _
          exact ih (no rfl) h4 fl4 up4
        | true =>
          refine codeAny_handlers_suite ?_
          refine HandSPX.lands_againZ fl4 fun h5 fl5 up5 => ?_
          have J5 : Inv X pins σ' H' { s' with heap := h5 } := J.landed nb fl5.1 ((up.trans up4).trans up5) os ag
          obtain ⟨o5, v5, at5, z5, d5⟩ := fl5.there
          obtain ⟨nL, nF⟩ := off J5 fl5 at5 d5
          have S5 := J5.suite at5 d5 na nL nF
          refine wpAny_mono ((hsu a o5 cls d (X.pn ++ pins) z5 ⟨_, d5⟩).run [] _ _ H' D S5 (yes rfl a na)) (fun f s6 sp => ?_) (fun _ _ z => False.elim z)
          cases f with
          | ret u =>
            obtain ⟨v6, σ6, H6, S6, r6, q6⟩ := sp
            exact ⟨v6, σ6, H6, S6.unsuite ok, r6, q6⟩
          | next =>
            obtain ⟨σ6, H6, S6, q6⟩ := sp
            exact ⟨σ6, H6, S6.unsuite ok, q6⟩
          | brk =>
            obtain ⟨σ6, H6, S6, q6⟩ := sp
            exact ⟨σ6, H6, S6.unsuite ok, q6⟩
          | cont =>
            obtain ⟨σ6, H6, S6, q6⟩ := sp
            exact ⟨σ6, H6, S6.unsuite ok, q6⟩
      | @named te n i cs t b bs q hs2 l2 hN hi hn hc hsu r ih =>
        intro wi h3 fl up3
        obtain ⟨y, hy, yes, no⟩ := wi
        refine wpAny_handleBy_cons (codeAny_handlers_test ?_) (by cases hc <;> (intro q; cases q))
        refine tst hc hy h3 fl up3 fun h4 fl4 up4 => ?_
        cases y with
        | false =>
          show wpAny _ X.A (handleBy (.ref a) X.env hs2) _ _ _
          exact ih (no rfl) h4 fl4 up4
        | true =>
          refine codeAny_handlers_suite_as ?_
          refine HandSPX.lands_againZ fl4 fun h5 fl5 up5 => ?_
          have J5 : Inv X pins σ' H' { s' with heap := h5 } := J.landed nb fl5.1 ((up.trans up4).trans up5) os ag
          obtain ⟨o5, v5, at5, z5, d5⟩ := fl5.there
          obtain ⟨nL, nF⟩ := off J5 fl5 at5 d5
          have S5 := J5.suite at5 d5 na nL nF
          refine store_ok (X := X.suite a ((a, o5) :: (X.pn ++ pins))) (v := .ref a) S5 hN hi (.inl hn) rfl (fun sx Sx => ?_) (.inr hn)
          refine wpAny_mono ((hsu a o5 cls d (X.pn ++ pins) z5 ⟨_, d5⟩).run [] sx _ H' (gone D i) Sx (yes rfl a na)) (fun f s6 sp => ?_) (fun _ _ z => False.elim z)
          have out : ∀ {σ6 : L2.St} {H6 : Hp} {Q : Shared → Prop}, Inv (X.suite a ((a, o5) :: (X.pn ++ pins))) [] σ6 H6 s6 → (∀ s7, Inv X pins (σ6.set i none) H6 s7 → Q s7) →
              wpAny (model X.prog X.w) X.A (do bindName X.env n .none; unbindBehindTheSuite X.env n q) (fun _ s7 => Q s7) X.xe s6 := fun {σ6 H6 Q} S6 hq => gone_ok (S6.unsuite ok) hN hi hn hq
          cases f with
          | ret u =>
            obtain ⟨v6, σ6, H6, S6, r6, q6⟩ := sp
            exact out S6 fun s7 J7 => ⟨v6, _, H6, J7, r6, q6⟩
          | next =>
            obtain ⟨σ6, H6, S6, q6⟩ := sp
            exact out S6 fun s7 J7 => ⟨_, H6, J7, q6⟩
          | brk =>
            obtain ⟨σ6, H6, S6, q6⟩ := sp
            exact out S6 fun s7 J7 => ⟨_, H6, J7, q6⟩
          | cont =>
            obtain ⟨σ6, H6, S6, q6⟩ := sp
            exact out S6 fun s7 J7 => ⟨_, H6, J7, q6⟩
    exact go cl wish h0 fl0 up0
  · cases f with
    | ret u =>
      obtain ⟨v, σ', H', J', r, q⟩ := sp
      exact ⟨v, σ', H', J'.ofTry ok, r, q⟩
    | next =>
      obtain ⟨σ', H', J', q⟩ := sp
      exact wpAny_execs_nil ⟨σ', H', J'.ofTry ok, q⟩
    | brk =>
      obtain ⟨σ', H', J', q⟩ := sp
      exact ⟨σ', H', J'.ofTry ok, q⟩
    | cont =>
      obtain ⟨σ', H', J', q⟩ := sp
      exact ⟨σ', H', J'.ofTry ok, q⟩
/-! ### isinstance of a caught error that has a dict of its own -/
section
open PySem.W PySem.Calls
variable {prog : Program} {w : World} {A : Around} {E : Value → Shared → Prop} {s : Shared} {K : Frag} {x D : Addr} {ox : Obj} {od : Option Obj}
theorem find_data {C : Addr} {nm : Str} {at0 g0 : Value} (h1 : (clsIn K C).isSome = true) (h2 : findIn K (.ref C) nm = some (some at0)) (h3 : specialIn K at0 "__get__" = some (some g0)) (h4 : takesIn K at0 = some true) : findObj K C od nm = some (.bind g0 at0) := by
  obtain ⟨cd, h1⟩ := Option.isSome_iff_exists.mp h1
  unfold findObj
  rw [h1, Option.bind_some, h2, Option.bind_some]
  simp [h3, h4]
theorem class_of_err {Q : Option Value → Shared → Prop} (T : ExcC K D) (X : K.In s.heap) (I : InstAt s.heap x ox D od) (h : Q (some (.ref D)) { s with toks := s.toks + 1 }) : wpAny (model prog w) A (getAttr? (.ref x) "__class__") Q E s := by
  have ff : findObj K D od "__class__" = some (.bind (.builtin "getset_descriptor.__get__") (.builtin "object.__class__")) := find_data (by obtain ⟨cd, hc, _⟩ := any_some T.hd; rw [hc]; rfl) T.ha T.hn T.ht
  obtain ⟨hp, g, d, t, os⟩ := s
  have T0 := I.type (M := model prog w)
  have T1 := looks_findIn (M := model prog w) X T.hg
  have T2 := looks_findIn (M := model prog w) X T.hk
  have T3 := looks_find (M := model prog w) X I ff
  have sb : Looks (model prog w) hp (isInstance (.ref x) (.type "BaseException")) true := T0.andThen (looks_subIn X T.hs)
  have n2 : (Value.builtin "BaseException.__getattribute__" == Value.builtin "object.__getattribute__") = false := by decide +kernel
  have n1 : (onTheHeap (Value.ref D) && Value.builtin "BaseException.__getattribute__" == Value.builtin "object.__getattribute__") = false := by rw [n2] <;> rfl
  have n0 : (false && onTheHeap (Value.builtin "BaseException.__getattribute__")) = false := rfl
  unfold getAttr? getAttrBy? getAttrBy
  refine wpAny_bind (wpAny_mkText (wpAny_bind (wpAny_attempt (wpAny_holding (wpAny_bind (T0.at (wpAny_bind (T1.at ?_))))))))
  show wpAny _ _ (if (onTheHeap (Value.ref D) && Value.builtin "BaseException.__getattribute__" == Value.builtin "object.__getattribute__") = true then _ else _) _ _ _
  rw [n1, if_neg Bool.false_ne_true]
  unfold getAttrByItsOwn hookBefore
  refine wpAny_bind ?_
  rw [if_pos (show onTheHeap (Value.ref D) = true from rfl)]
  refine T2.at ?_
  refine wpAny_bind (wpAny_attempt (wpAny_holding ?_))
  unfold callGetattribute
  rw [n0, if_neg Bool.false_ne_true]
  unfold boundAndCalled
  rw [PySem.F.excAttr_ValueError.ga.bind (.ref x)]
  refine wpAny_bind (wpAny_pure ?_)
  show wpAny _ _ (call (.builtin "BaseException.__getattribute__") [.ref x, .str "__class__" t]) _ _ _
  refine wpAny_call (codeAny_call_builtin PySem.F.excAttr_ValueError.ga.plain PySem.F.entry_bexc_ga ?_)
  refine @check_slot (model prog w) _ _ ⟨hp, g, d, t + 1, os⟩ "BaseException.__getattribute__" "BaseException" "__getattribute__" (.ref x) [.str "__class__" t] [] _ (by decide +kernel) (by decide +kernel) sb (PySem.F.args_bexc_ga (.ref x) (.str "__class__" t)) ?_
  unfold Builtin.«object.__getattribute__»
  refine wpAny_bind (wpAny_of_eq (a := ((Value.ref x : Value), [Value.str "__class__" t])) (by first | rfl | (simp only [slotArgs]; rfl)) ?_)
  refine wpAny_bind (wpAny_pure (wpAny_bind (T0.at (wpAny_bind (T3.at ?_)))))
  show wpAny _ _ (holding [Value.builtin "object.__class__"] (call (.builtin "getset_descriptor.__get__") [.builtin "object.__class__", .ref x, .ref D]) >>= ret) _ _ _
  refine wpAny_bind (wpAny_holding (wpAny_call (class_get (s := ⟨hp, g, d, t + 1, os⟩) (ox := ox) (od := od) X I T.hm ?_)))
  refine wpAny_pure ?_
  show wpAny _ _ (handedOut (.ref D)) _ _ _
  rw [handedOut_of (v := .ref D) rfl]
  first
    | exact wpAny_pure (wpAny_pure h)
    | exact wpAny_pure h
    | exact wpAny_pure (wpAny_bind (wpAny_pure (wpAny_pure h)))
theorem kitx_err (T : ExcC K D) : KitX K (.ref x) (.ref D) (fun h => InstAt h x ox D od) where
  ty := fun _ _ _ I => I.type
  it := fun _ _ X _ => by
    obtain ⟨cdD, hcD, _⟩ := any_some T.hd
    unfold clsIn at hcD
    split at hcD
    · rename_i c' d' cd' sl' ho
      intro A' Q' E' s' k q
      unfold isType loadHead
      exact wpAny_bind (wpAny_loadPart (k _ _ (X _ _ ho)) (wpAny_pure q))
    · cases hcD
  ne := fun h tp dd its n sl X htp => by
    obtain ⟨cdD, hcD, _⟩ := any_some T.hd
    refine Bool.eq_false_iff.mpr fun q => ?_
    have e : D = tp := Value.ref.inj (beq_iff_eq.mp q)
    subst e
    unfold clsIn at hcD
    split at hcD
    · rename_i c' d' cd' sl' ho
      have z := (X _ _ ho).symm.trans htp
      cases z
    · cases hcD
  ca := fun X I k => class_of_err T X I k
end
/-- isinstance(err, c), the error of class D with a dict of its own -/
def rIsX (K : PySem.W.Frag) (D a : Addr) (cls : Value) (d : Option Addr) : List V → Hp → VK → Prop := fun xs H Q => ∃ (c : V) (cv : Value) (b : Bool), xs = [.ref a, c] ∧ cls = .ref D ∧ (∃ (dd : Addr) (fs : List (Str × V)), d = some dd ∧ H dd = some (.xd fs)) ∧ (∀ u, RelV c u → u = cv) ∧ PySem.W.kitOne K (.ref D) cv = some b ∧ Q (.bl b) H
theorem call_isX {X : Cx} {a D : Addr} {oe : Obj} {cls : Value} {d : Option Addr} {pn : List (Addr × Obj)} (T : ExcC X.K D) (hz : Zc cls d oe) (hf : ∃ vs, oe.data = .fields vs) : CallR (X.suite a ((a, oe) :: pn)) (.builtin "isinstance") (rIsX X.K D a cls d) := by
  intro pins s σ H xs us Q I r h
  obtain ⟨c, cv, b, rfl, rfl, ⟨dd, fs, rfl, hdd⟩, hcv, e, q⟩ := h
  cases r with
  | cons rx rr =>
    cases rr with
    | cons rt rr =>
      cases rr
      cases rx
      have ec := hcv _ rt
      subst ec
      obtain ⟨hget, _⟩ := I.pin (a, oe) (List.mem_append.mpr (.inl List.mem_cons_self))
      obtain ⟨vs, hv⟩ := hf
      have hx : ObjOk X.prog X.w H s.heap dd (.xd fs) := I.hok dd _ hdd
      obtain ⟨mA, hns, hr⟩ := hx
      obtain ⟨od, ho, hl⟩ := lookIn_ns hns
      have J : PySem.W.InstAt s.heap a oe D (some od) := ⟨hget, hz.1, by unfold PySem.W.notCls; rw [hv] <;> rfl, by rw [hz.2]; exact ho⟩
      exact PySem.W.kia_one (kitx_err T) I.kIn J e (fun z => nomatch z) fun tk => ⟨.bl b, H, I.kept (t' := tk) fun _ _ z => z, rfl, q⟩
end L3

namespace L3
open PySem PySem.Spec PyProof.Rows L2 Evl
/-! ### what an expression tells, as data that stands where a heap B tells nothing -/
/-- what stands beside B -/
def newIn (H B : Hp) : Hp := fun a => match B a with
  | none => H a
  | some _ => none
section
variable {B H H1 : Hp} {g p : Addr} {o : HO}
theorem new_at (hB : B p = none) : newIn H B p = H p := by
  unfold newIn
  rw [hB]
theorem new_off (hB : B p = some o) : newIn H B p = none := by
  unfold newIn
  rw [hB]
theorem new_sub : Ex (newIn H B) H := fun a u h => by
  cases q : B a with
  | none =>
    rw [new_at q] at h
    exact h
  | some v =>
    rw [new_off q] at h
    cases h
theorem new_ex (e : Ex H H1) : Ex (newIn H B) (newIn H1 B) := fun a u h => by
  cases q : B a with
  | none =>
    rw [new_at q] at h ⊢
    exact e a u h
  | some v =>
    rw [new_off q] at h
    cases h
theorem new_del (hB : B g = some o) (e : Ex (newIn H B) H1) : Ex (newIn H B) (del H1 g) := fun a u h => by
  by_cases c : a = g
  · rw [c, new_off hB] at h
    cases h
  · rw [del_ne c]
    exact e a u h
theorem del_keep (e : Ex (del H g) (del H1 g)) (h : H p = some o) (n : p ≠ g) : H1 p = some o := by
  have z := e p o (by rw [del_ne n]; exact h)
  rw [del_ne n] at z
  exact z
theorem new_bag (hB : B g = some o) (e : Ex (del H g) (del H1 g)) : Ex (newIn H B) (newIn H1 B) := fun a u h => by
  cases q : B a with
  | none =>
    rw [new_at q] at h ⊢
    have c : a ≠ g := fun z => by
      rw [z, hB] at q
      cases q
    exact del_keep e h c
  | some v =>
    rw [new_off q] at h
    cases h
/-- one object alone -/
def onlyAt (H : Hp) (g : Addr) : Hp := fun a => if a = g then H g else none
theorem only_at : onlyAt H g g = H g := if_pos rfl
theorem only_ne (h : p ≠ g) : onlyAt H g p = none := if_neg h
theorem only_ex : Ex (onlyAt H g) H := fun a u h => by
  by_cases c : a = g
  · rw [c, only_at] at h
    rw [c]
    exact h
  · rw [only_ne c] at h
    cases h
theorem new_only (hg : H g = some o) : newIn H1 (onlyAt H g) = del H1 g := by
  funext b
  by_cases c : b = g
  · rw [c, new_off (by rw [only_at]; exact hg), del_same]
  · rw [new_at (only_ne c), del_ne c]
end
section
variable (K : PySem.W.Frag) (B : Hp)
def DvE (te : TE) (σ : L2.St) (H : Hp) (d : PyData) : Prop := ∀ H1, Ex H H1 → ∀ Q : VK, (∀ z H2, Ex H1 H2 → Dp K (newIn H2 B) z d → Q z H2) → te σ H1 Q
def DvA (ta : TA) (σ : L2.St) (H : Hp) (ds : List PyData) : Prop := ∀ H1, Ex H H1 → ∀ Q : List V → Hp → Prop, (∀ xs H2, Ex H1 H2 → DpAll K (newIn H2 B) xs ds → Q xs H2) → ta σ H1 Q
def DvL (te : TE) (σ : L2.St) (H : Hp) (ds : List PyData) : Prop := ∀ H1, Ex H H1 → ∀ Q : VK, (∀ p xs H2, Ex H1 H2 → B p = none → H2 p = some (.lst xs) → DpAll K (newIn H2 B) xs ds → Q (.ref p) H2) → te σ H1 Q
end
section
variable {K : PySem.W.Frag} {B : Hp} {σ : L2.St} {H : Hp} {te tb tn : TE} {ta tr : TA} {d : PyData} {ds es : List PyData} {v : V}
theorem dv_ev (h : Ev te σ H v) (hd : Dp K (newIn H B) v d) : DvE K B te σ H d := fun H1 e Q q => h H1 e Q fun H2 e2 => q v H2 e2 (dp_ex (new_ex (e.trans e2)) hd)
theorem dv_int {i : Int} (h : Ev te σ H (.int i)) : DvE K B te σ H (.int i) := fun H1 e Q q => h H1 e Q fun H2 e2 => q _ H2 e2 (.int i)
theorem dv_str {x : Str} (h : Ev te σ H (.str x)) : DvE K B te σ H (.str x) := fun H1 e Q q => h H1 e Q fun H2 e2 => q _ H2 e2 (.str x)
theorem dv_bl {b : Bool} (h : Ev te σ H (.bl b)) : DvE K B te σ H (.bool b) := fun H1 e Q q => h H1 e Q fun H2 e2 => q _ H2 e2 (.bl b)
theorem dv_non (h : Ev te σ H .non) : DvE K B te σ H .none := fun H1 e Q q => h H1 e Q fun H2 e2 => q _ H2 e2 .non
theorem da_nil : DvA K B tNil σ H [] := fun H1 e Q q => q [] H1 (Ex.refl H1) .nil
theorem da_cons (h : DvE K B te σ H d) (hr : DvA K B tr σ H ds) : DvA K B (tCons te tr) σ H (d :: ds) := fun H1 e Q q =>
  h H1 e _ fun z H2 e2 hz => hr H2 (e.trans e2) _ fun xs H3 e3 hx => q (z :: xs) H3 (e2.trans e3) (.cons (dp_ex (new_ex e3) hz) hx)
theorem dv_tup (hb : Ex B H) (h : DvA K B ta σ H ds) (hl : ds.length ≤ 100000) : DvE K B (tTup ta) σ H (.tuple ds) := fun H1 e Q q =>
  h H1 e _ fun xs H2 e2 hx => ⟨sz_of (by rw [dps_len' hx]; exact hl), fun p hp => q _ _ (e2.trans (Ex.new hp)) (.tup (st_of (by rw [new_at (fresh_back ((hb.trans e).trans e2) hp)]; exact upd_same)) (dps_ex (new_ex (Ex.new hp)) hx))⟩
theorem dl_lst (hb : Ex B H) (h : DvA K B ta σ H ds) (hl : ds.length ≤ 100000) : DvL K B (tLst ta) σ H ds := fun H1 e Q q =>
  h H1 e _ fun xs H2 e2 hx => ⟨sz_of (by rw [dps_len' hx]; exact hl), fun p hp => q _ xs _ (e2.trans (Ex.new hp)) (fresh_back ((hb.trans e).trans e2) hp) upd_same (dps_ex (new_ex (Ex.new hp)) hx)⟩
theorem dl_var {i : Nat} {p : Addr} {xs : List V} (h : σ[i]? = some (some (.ref p))) (n : B p = none) (hp : H p = some (.lst xs)) (hx : DpAll K (newIn H B) xs ds) : DvL K B (tVar i) σ H ds := fun H1 e Q q =>
  ⟨_, h, q p xs H1 (Ex.refl H1) n (e p _ hp) (dps_ex (new_ex e) hx)⟩
theorem dv_l (h : DvL K B te σ H ds) : DvE K B te σ H (.list ds) := fun H1 e Q q =>
  h H1 e Q fun p xs H2 e2 n hp hx => q _ H2 e2 (.lst (sq_of (by rw [new_at n]; exact hp)) hx)
theorem dps_app {H : Hp} : ∀ {xs ys : List V} {ds es : List PyData}, DpAll K H xs ds → DpAll K H ys es → DpAll K H (xs ++ ys) (ds ++ es)
  | _, _, _, _, .nil, h => h
  | _, _, _, _, .cons a r, h => .cons a (dps_app r h)
theorem dl_cat (hb : Ex B H) (h1 : DvL K B te σ H ds) (h2 : DvL K B tb σ H es) (hl : ds.length + es.length ≤ 100000) : DvL K B (tOp rCat te tb) σ H (ds ++ es) := fun H1 e Q q =>
  h1 H1 e _ fun p xs H2 e2 n2 hp2 hx2 => h2 H2 (e.trans e2) _ fun p3 ys H3 e3 n3 hp3 hx3 =>
    ⟨p, p3, xs, ys, rfl, rfl, e3 p _ hp2, hp3, sz_of (by rw [dps_len' hx2, dps_len' hx3]; exact hl), fun pz hpz =>
      q _ _ _ ((e2.trans e3).trans (Ex.new hpz)) (fresh_back (((hb.trans e).trans e2).trans e3) hpz) upd_same (dps_ex (new_ex (Ex.new hpz)) (dps_app (dps_ex (new_ex e3) hx2) hx3))⟩
theorem dl_rep {n : Nat} (hb : Ex B H) (h : DvE K B te σ H d) (hn : Ev tn σ H (.int (n : Int))) (hz : n ≤ 100000) : DvL K B (tOp rRep (tLst (tCons te tNil)) tn) σ H (List.replicate n d) := fun H1 e Q q =>
  h H1 e _ fun z H2 e2 hd => ⟨by show 1 ≤ sizeLine; decide, fun l hl => hn _ ((e.trans e2).trans (Ex.new hl)) _ fun H3 e3 => ⟨l, (n : Int), [z], rfl, rfl, e3 l _ upd_same, by omega, by omega, by
      have q1 : [z].length * ((n : Int)).toNat = n := by simp
      rw [q1]
      exact sz_of hz, fun p hp => by
        have q2 : (List.replicate ((n : Int)).toNat [z]).flatten = List.replicate n z := by simp
        rw [q2]
        have e23 := (Ex.new (o := .lst [z]) hl).trans e3
        refine q p _ _ ((e2.trans e23).trans (Ex.new hp)) (fresh_back (((hb.trans e).trans e2).trans e23) hp) upd_same (dps_ex (new_ex (Ex.new hp)) ?_)
        have hd3 : Dp K (newIn H3 B) z d := dp_ex (new_ex e23) hd
        clear q q2 hp hn hz
        induction n with
        | zero => exact .nil
        | succ m ih => exact .cons hd3 ih⟩⟩
theorem dps_take : ∀ {H : Hp} {xs : List V} {ds : List PyData} (n : Nat), DpAll K H xs ds → DpAll K H (xs.take n) (ds.take n)
  | _, _, _, 0, _ => .nil
  | _, _, _, _ + 1, .nil => .nil
  | _, _, _, n + 1, .cons a r => .cons a (dps_take n r)
theorem dps_drop : ∀ {H : Hp} {xs : List V} {ds : List PyData} (n : Nat), DpAll K H xs ds → DpAll K H (xs.drop n) (ds.drop n)
  | _, _, _, 0, h => h
  | _, _, _, _ + 1, .nil => .nil
  | _, _, _, n + 1, .cons _ r => dps_drop n r
theorem cut_take {xs : List V} (n : Nat) : cutV xs none (some (n : Int)) = xs.take n := by
  unfold cutV
  rw [HT.sIx_none, HT.sIx_nat, List.drop_zero, Nat.sub_zero]
  by_cases c : n ≤ xs.length
  · rw [Nat.min_eq_left c]
  · rw [Nat.min_eq_right (by omega), List.take_of_length_le (Nat.le_refl _), List.take_of_length_le (by omega)]
theorem passE {X : Cx} : Passes (L2.CX X.prog X.w) X E0 := fun _ _ _ _ _ _ _ ⟨_, _, _, _, _, _, _, _, _, _, _, _, h⟩ => h.elim
theorem q_asgDl {tz : TS} {D : Ends} {i : Nat} (h : DvL K B te σ H ds) (k : ∀ p xs H1, Ex H H1 → B p = none → H1 p = some (.lst xs) → DpAll K (newIn H1 B) xs ds → tz D (σ.set i (some (.ref p))) H1) : tSeq (tAsg te (gName i)) tz D σ H :=
  h H (Ex.refl H) _ fun p xs H2 e2 n hp hx => k p xs H2 e2 n hp hx
theorem q_asgD {tz : TS} {D : Ends} {i : Nat} (h : DvE K B te σ H d) (k : ∀ z H1, Ex H H1 → Dp K (newIn H1 B) z d → tz D (σ.set i (some z)) H1) : tSeq (tAsg te (gName i)) tz D σ H :=
  h H (Ex.refl H) _ fun z H2 e2 hz => k z H2 e2 hz
end
end L3

namespace L3
open PySem PySem.Spec PyProof.Rows L2 Evl
/-! ### own __str__, __repr__, == of one's own instances -/
/-- the special method m of the class C is the def at f -/
structure Spm (K : PySem.W.Frag) (C : Addr) (m : Str) (f : Addr) : Prop where
  at_ : PySem.W.findIn K (.ref C) m = some (some (.ref f))
  fn : PySem.W.isFn K (.ref f) = true
section
variable {X : Cx} {CX : CXT} {n : Nat} {C f : Addr} {fd : FuncData} {ps : List Str} {sp : Sp} {pins : List (Addr × Obj)} {σ : L2.St} {H : Hp} {s : Shared}
/-- an own def called somewhere within a builtin -/
theorem own_call {A' : Around} {us : List Value} {vs : List V} {Q : VK} (F : FnOk X.prog X.w X.K X.mg X.base CX n f fd ps sp) (hb : Binds X.K fd ps []) (hx : Passes CX X E0) (hr : Room n A') (hfr : A'.frames = X.A.frames) (I : Inv X pins σ H s) (r : Vals vs us) (h : sp vs H Q E0) :
    wpAny (model X.prog X.w) A' (call (.ref f) us) (EP X pins σ Q) X.xe s := by
  have e0 : Env0 X.prog X.w X.K X.mg X.base A' X.stack s H := by
    have e := I.env0
    exact ⟨by rw [hfr]; exact e.frames, e.mod, e.bs, e.bsz, e.funs, e.frf, e.hok, e.bare⟩
  have hl : us.length = ps.length := by
    rw [← r.length]
    exact F.len _ _ _ _ h
  have b := hb s us I.kIn (by rw [List.append_nil]; exact hl)
  rw [List.append_nil] at b
  refine wpAny_call (codeAny_mono (F.run A' X.stack s H ⟨us, []⟩ us vs Q E0 hr e0 b r h) fun rr s' hq => ?_)
  cases rr with
  | error e => exact hx pins σ H s e s' I hq
  | ok fl =>
    cases fl with
    | ret u => exact I.after hq
    | next => exact hq.elim
    | brk => exact hq.elim
    | cont => exact hq.elim
theorem strBack {Q : VK} {u : Value} {s' : Shared} (h : EP X pins σ (fun v H' => (∃ y, v = .str y) ∧ Q v H') u s') : PySem.W.StrBack (fun v s'' => EP X pins σ Q v s'') u s' := by
  obtain ⟨v, H', I', rv, ⟨y, rfl⟩, q⟩ := h
  obtain ⟨t, rfl⟩ := (show ∃ t, u = Value.str y t from rv)
  exact ⟨.str y, H', I', ⟨t, rfl⟩, q⟩
/-- str(x), repr(x) of an own instance: what its own def promises -/
def rOwn (C : Addr) (sp : Sp) : List V → Hp → VK → Prop := fun xs H Q => ∃ a dx fs, xs = [.ref a] ∧ H a = some (.ins C dx fs) ∧ sp [.ref a] H (fun v H' => (∃ y, v = .str y) ∧ Q v H') E0
theorem call_strO (S : Spm X.K C "__str__" f) (F : FnOk X.prog X.w X.K X.mg X.base CX n f fd ps sp) (hb : Binds X.K fd ps []) (hx : Passes CX X E0) (hr : Room (n + 2) X.A) : CallR X (.type "str") (rOwn C sp) := by
  intro pins s σ H xs us Q I r h
  obtain ⟨a, dx, fs, rfl, ha, h⟩ := h
  obtain ⟨u, rfl, rx⟩ := vals1 r
  cases (show u = Value.ref a from rx)
  obtain ⟨mA, O, _⟩ := ins_get I.hok ha
  obtain ⟨od, J, _⟩ := O.look
  exact PySem.W.kso_call hr.in1.in1.units0 I.kIn J S.at_ S.fn (wpAny_mono (own_call (vs := [V.ref a]) F hb hx hr.in1.in1 rfl I (.cons rfl .nil) h) (fun _ _ z => strBack z) fun _ _ z => z)
theorem call_reprO (S : Spm X.K C "__repr__" f) (F : FnOk X.prog X.w X.K X.mg X.base CX n f fd ps sp) (hb : Binds X.K fd ps []) (hx : Passes CX X E0) (hr : Room (n + 1) X.A) : CallR X (.builtin "repr") (rOwn C sp) := by
  intro pins s σ H xs us Q I r h
  obtain ⟨a, dx, fs, rfl, ha, h⟩ := h
  obtain ⟨u, rfl, rx⟩ := vals1 r
  cases (show u = Value.ref a from rx)
  obtain ⟨mA, O, _⟩ := ins_get I.hok ha
  obtain ⟨od, J, _⟩ := O.look
  obtain ⟨m, hF⟩ := I.fr
  exact PySem.W.repr_K hr.in1.units0 hF I.ok.mod.kin J S.at_ S.fn (wpAny_mono (own_call (vs := [V.ref a]) F hb hx hr.in1 rfl I (.cons rfl .nil) h) (fun _ _ z => strBack z) fun _ _ z => z)
/-- {x} of an own instance -/
def tFmtO (C : Addr) (sp : Sp) (te : TE) : TE := fun σ H Q => te σ H fun x H1 => rOwn C sp [x] H1 Q
theorem pe_fmtO {e : Expr} {te : TE} {pos : Pos} (S : Spm X.K C "__str__" f) (hfm : PySem.W.findIn X.K (.ref C) "__format__" = some (some (.builtin "object.__format__"))) (hm : PySem.W.mroIn X.K C (.type "object") = some true)
    (F : FnOk X.prog X.w X.K X.mg X.base CX n f fd ps sp) (hb : Binds X.K fd ps []) (hx : Passes CX X E0) (hr : Room (n + 2) X.A) (he : PE X e te) : PE X (.FormattedValue e (-1) none pos) (tFmtO C sp te) := by
  refine ⟨fun pins s σ H Q I h => ?_⟩
  refine wpAny_FormattedValue_plain (thn (he.run pins s σ H _ I h) fun v s1 hv => ?_)
  obtain ⟨x, H1, I1, r1, a, dx, fs, ex, ha, q⟩ := hv
  have ex' : x = .ref a := by simpa using ex
  subst ex'
  cases (show v = Value.ref a from r1)
  obtain ⟨mA, O, _⟩ := ins_get I1.hok ha
  obtain ⟨od, J, _⟩ := O.look
  exact PySem.W.kfo_fieldS hr.in1.units0 I1.kIn J hfm hm S.at_ S.fn (wpAny_mono (own_call (vs := [V.ref a]) F hb hx (hr.in1.mono (Nat.le_succ n)) rfl (I1.tok _) (.cons rfl .nil) q) (fun _ _ z => strBack z) fun _ _ z => z)
end
end L3

namespace L3
open PySem PySem.Spec PyProof.Rows L2 Evl
section
open PySem.W PySem.Calls
variable {prog : Program} {w : World} {A : Around} {E : Value → Shared → Prop} {s : Shared} {K : Frag} {x C f : Addr} {ox : Obj} {od : Option Obj} {b tb : Value}
theorem pyRepr_own {Q : Value → Shared → Prop} (hu : A.units < cLine) (X : K.In s.heap) (I : InstAt s.heap x ox C od) (hs : findIn K (.ref C) "__repr__" = some (some (.ref f))) (hf : isFn K (.ref f) = true)
    (h : wpAny (model prog w) A (call (.ref f) [.ref x]) (StrBack Q) E s) : wpAny (model prog w) A (pyReprObj (.ref x)) Q E s := by
  unfold pyReprObj
  refine wpAny_bind (m := cRoomFor _ _) (wpAny_cRoomFor hu ?_)
  refine wpAny_bind (wpAny_bind (I.type.here ((looks_findIn X hs).here ?_)))
  show wpAny _ _ (if (some (Value.ref f)).isNone = true then _ else _) _ _ _
  rw [if_neg (by simp)]
  refine wpAny_bind (m := callSpecialIfBound? (.ref x) (Str.ofString "__repr__") _) (ifBound_K X I hs hf (wpAny_mono h (fun r s' hr => ?_) fun _ _ y => y))
  cases r <;> first | exact hr.elim | skip
  refine wpAny_bind (wpAny_isInstance (typeIs_str _ _ _) isSubtype_str_str ?_)
  first
    | exact wpAny_pure hr
    | (rw [if_pos rfl]; exact wpAny_pure hr)
    | (simp only [if_true]; exact wpAny_pure hr)
/-- a != b by an own __eq__ -/
theorem ne_own {Q : Value → Shared → Prop} (hu : A.in1.units < cLine) (hu0 : A.units < cLine) (X : K.In s.heap) (I : InstAt s.heap x ox C od) (hb : Looks (model prog w) s.heap (typeOf b) tb) (hn : notFirst K C tb = true) (hm : mroIn K C (.type "object") = some true)
    (hne : findIn K (.ref C) "__ne__" = some (some (.builtin "object.__ne__"))) (hs : findIn K (.ref C) "__eq__" = some (some (.ref f))) (hf : isFn K (.ref f) = true)
    (h : wpAny (model prog w) A.in1 (call (.ref f) [.ref x, b]) (fun v s' => ∃ c, v = .bool c ∧ Q (.bool (!c)) s') E s) : wpAny (model prog w) A (richCompare .NotEq (.ref x) b) Q E s := by
  have body : wpAny (model prog w) A.in1 (Builtin.«object.__ne__» ⟨[.ref x, b], []⟩) (fun r s' => ∃ c, r = .done (.ret (.bool (!c))) ∧ Q (.bool (!c)) s') E s := by
    unfold Builtin.«object.__ne__»
    refine wpAny_bind (m := slotArgs "__ne__" 1 _) (wpAny_pure ?_)
    refine wpAny_bind (m := cRoomFor _ _) (wpAny_cRoomFor hu ?_)
    refine wpAny_bind (m := callSpecialIfBound? (.ref x) (Str.ofString "__eq__") [b]) (ifBound_K X I hs hf (wpAny_mono h (fun r s' hr => ?_) fun _ _ y => y))
    obtain ⟨c, rfl, q⟩ := hr
    exact wpAny_bind (wpAny_truthy_bool (wpAny_pure ⟨c, rfl, q⟩))
  have one : wpAny (model prog w) A (tryCompare (.ref x) "__ne__" b) (fun r s' => ∃ v, r = some v ∧ Q v s') E s := by
    unfold tryCompare
    simp only [callSpecialIfBound?, bindSpecialIfBound?]
    have call1 : wpAny (model prog w) A (call (.builtin "object.__ne__") ([.ref x] ++ [b])) (fun v s' => ∃ c, v = .bool (!c) ∧ Q v s') E s := by
      refine wpAny_call (codeAny_call_builtin PySem.F.cmp_object.ne.plain PySem.F.cmpEntry_ne (check_slot (i := "object.__ne__") (owner := "object") (n := "__ne__") PySem.F.cmpKind_ne PySem.F.cmpSplit_ne (I.type.andThen (looks_mroIn X hm)) (PySem.F.cmpArgs_ne _ _) ?_))
      refine wpAny_mono body (fun r s' hr => ?_) fun _ _ y => y
      obtain ⟨c, rfl, q⟩ := hr
      exact ⟨c, rfl, q⟩
    have fin : wpAny (model prog w) A (call (.builtin "object.__ne__") ([.ref x] ++ [b]) >>= fun v => pure (some v)) (fun r s' => ∃ c, r = some (Value.bool (!c)) ∧ Q (.bool (!c)) s') E s := wpAny_bind (wpAny_mono call1 (fun v s' hv => by
      obtain ⟨c, rfl, q⟩ := hv
      exact wpAny_pure ⟨c, rfl, q⟩) fun _ _ y => y)
    have bnd : ∀ self, bindSpecial (.builtin "object.__ne__") self = pure (.builtin "object.__ne__", [self]) := PySem.F.cmp_object.ne.bind
    refine wpAny_bind (wpAny_holding (wpAny_bind (wpAny_bind (wpAny_bind (I.type.here ((looks_findIn X hne).here ?_))))))
    refine wpAny_bind (wpAny_askSetting (wpAny_ite ?_))
    have out : ∀ {r : Option Value} {s' : Shared}, (∃ c, r = some (Value.bool (!c)) ∧ Q (.bool (!c)) s') → wpAny (model prog w) A (match r with
      | some .notImplemented | none => pure none
      | r => pure r) (fun r s' => ∃ v, r = some v ∧ Q v s') E s' := fun {r s'} hr => by
      obtain ⟨c, rfl, q⟩ := hr
      exact wpAny_pure ⟨_, rfl, q⟩
    split
    · rw [bnd]
      refine wpAny_bind (wpAny_pure (wpAny_pure (wpAny_mono fin (fun r s' hr => ?_) fun _ _ y => y)))
      obtain ⟨c, rfl, q⟩ := hr
      exact wpAny_pure ⟨_, rfl, q⟩
    · rw [bnd]
      refine wpAny_tryCatch (wpAny_bind (wpAny_pure (wpAny_pure (wpAny_mono fin (fun r s' hr => ?_) fun _ _ y => y))))
      obtain ⟨c, rfl, q⟩ := hr
      exact wpAny_pure ⟨_, rfl, q⟩
  unfold richCompare
  simp only [oneThing_ref]
  refine wpAny_holding (wpAny_bind (wpAny_cRoomFor hu0 ?_))
  refine wpAny_bind (I.type.here (wpAny_bind (hb.here ?_)))
  split
  · rename_i q
    have e : subIn K tb (.ref C) = some false := by
      rcases Bool.or_eq_true_iff.mp hn with e | e
      · rw [beq_iff_eq.mp e] at q; simp at q
      · exact beq_iff_eq.mp e
    refine wpAny_bind ((looks_subIn X e).here ?_)
    simp only [Bool.false_eq_true, if_false]
    refine wpAny_bind (wpAny_mono one (fun r s' z => ?_) fun _ _ e => e)
    obtain ⟨v, rfl, hq⟩ := z
    exact wpAny_pure hq
  · refine wpAny_bind (wpAny_pure ?_)
    simp only [Bool.false_eq_true, if_false]
    refine wpAny_bind (wpAny_mono one (fun r s' z => ?_) fun _ _ e => e)
    obtain ⟨v, rfl, hq⟩ := z
    exact wpAny_pure hq
end
section
variable {X : Cx} {CX : CXT} {n : Nat} {C f : Addr} {fd : FuncData} {ps : List Str} {sp : Sp}
/-- {x!r} of an own instance -/
theorem pe_fmtRO {e : Expr} {te : TE} {pos : Pos} (S : Spm X.K C "__repr__" f) (F : FnOk X.prog X.w X.K X.mg X.base CX n f fd ps sp) (hb : Binds X.K fd ps []) (hx : Passes CX X E0) (hr : Room n X.A) (hz : ∀ vs H Q E, sp vs H Q E → sp vs H (fun v H' => (∀ z, v = .str z → z.length ≤ sizeLine) ∧ Q v H') E) (he : PE X e te) :
    PE X (.FormattedValue e 114 none pos) (tFmtO C sp te) := by
  refine ⟨fun pins s σ H Q I h => ?_⟩
  refine wpAny_FormattedValue_repr (thn (he.run pins s σ H _ I h) fun v s1 hv => ?_)
  obtain ⟨x, H1, I1, r1, a, dx, fs, ex, ha, q⟩ := hv
  have ex' : x = .ref a := by simpa using ex
  subst ex'
  cases (show v = Value.ref a from r1)
  obtain ⟨mA, O, _⟩ := ins_get I1.hok ha
  obtain ⟨od, J, _⟩ := O.look
  refine pyRepr_own hr.units0 I1.kIn J S.at_ S.fn (wpAny_mono (own_call (vs := [V.ref a]) F hb hx hr rfl I1 (.cons rfl .nil) (hz _ H1 _ _ q)) (fun u s2 z => ?_) fun _ _ z => z)
  obtain ⟨v, H', I', rv, hl, ⟨y, rfl⟩, q⟩ := z
  obtain ⟨t, rfl⟩ := (show ∃ t, u = Value.str y t from rv)
  exact wpAny_formatField_str ⟨.str y, H', I', ⟨t, rfl⟩, q⟩ ⟨.str y, H', I'.tok _, ⟨_, rfl⟩, q⟩ (hl y rfl)
/-- what stands on the other side -/
def Side (K : PySem.W.Frag) (C : Addr) (y : V) (H : Hp) : Prop := ∃ tb, TyX K H y tb ∧ PySem.W.notFirst K C tb = true
def rEqO (K : PySem.W.Frag) (C : Addr) (sp : Sp) : R2 := fun x y H Q => ∃ a dx fs, x = .ref a ∧ H a = some (.ins C dx fs) ∧ Side K C y H ∧ sp [.ref a, y] H (fun v H' => ∃ c, v = .bl c ∧ Q v H') E0
def rNeO (K : PySem.W.Frag) (C : Addr) (sp : Sp) : R2 := fun x y H Q => ∃ a dx fs, x = .ref a ∧ H a = some (.ins C dx fs) ∧ Side K C y H ∧ sp [.ref a, y] H (fun v H' => ∃ c, v = .bl c ∧ Q (.bl (!c)) H') E0
theorem op_eqO (S : Spm X.K C "__eq__" f) (F : FnOk X.prog X.w X.K X.mg X.base CX n f fd ps sp) (hb : Binds X.K fd ps []) (hx : Passes CX X E0) (hr : Room n X.A) : OpR X (compareOp .Eq) (rEqO X.K C sp) := by
  intro pins s σ H x y v u Q I rx ry h
  obtain ⟨a, dx, fs, rfl, ha, ⟨tb, ty, hn⟩, q⟩ := h
  cases (show v = Value.ref a from rx)
  obtain ⟨mA, O, _⟩ := ins_get I.hok ha
  obtain ⟨od, J, _⟩ := O.look
  obtain ⟨m, hF⟩ := I.fr
  obtain ⟨P, kx, hP, _⟩ := kit_of I ry ty
  refine PySem.W.cmp_ofEq (PySem.W.cmp_K (op := .Eq) hr.units0 hF I.ok.mod.kin J (kx.ty _ _ I.kIn hP) hn S.at_ S.fn (wpAny_mono (own_call (vs := [V.ref a, y]) F hb hx hr rfl I (.cons rfl (.cons ry .nil)) q) (fun w s' z => ?_) fun _ _ z => z))
  obtain ⟨v, H', I', rv, c, rfl, q⟩ := z
  cases (show w = Value.bool c from rv)
  exact ⟨.bl c, H', I', rfl, q⟩
theorem op_neO (S : Spm X.K C "__eq__" f) (hne : PySem.W.findIn X.K (.ref C) "__ne__" = some (some (.builtin "object.__ne__"))) (hm : PySem.W.mroIn X.K C (.type "object") = some true) (F : FnOk X.prog X.w X.K X.mg X.base CX n f fd ps sp) (hb : Binds X.K fd ps []) (hx : Passes CX X E0) (hr : Room (n + 1) X.A) :
    OpR X (compareOp .NotEq) (rNeO X.K C sp) := by
  intro pins s σ H x y v u Q I rx ry h
  obtain ⟨a, dx, fs, rfl, ha, ⟨tb, ty, hn⟩, q⟩ := h
  cases (show v = Value.ref a from rx)
  obtain ⟨mA, O, _⟩ := ins_get I.hok ha
  obtain ⟨od, J, _⟩ := O.look
  obtain ⟨P, kx, hP, _⟩ := kit_of I ry ty
  refine PySem.W.cmp_ofNotEq (ne_own hr.in1.units0 hr.units0 I.kIn J (kx.ty _ _ I.kIn hP) hn hm hne S.at_ S.fn (wpAny_mono (own_call (vs := [V.ref a, y]) F hb hx hr.in1 rfl I (.cons rfl (.cons ry .nil)) q) (fun w s' z => ?_) fun _ _ z => z))
  obtain ⟨v, H', I', rv, c, rfl, q⟩ := z
  cases (show w = Value.bool c from rv)
  exact ⟨c, rfl, .bl (!c), H', I', rfl, q⟩
end
end L3

namespace L3
open PySem PySem.SeqAt
open AutoSeq1 (wpAny_loadPart')
open MeetsSeq MeetsSeq2 MeetsSeq3 SeqRoads2
section
variable {prog : Program} {w : World} {A : Around} {R : Result → Shared → Prop}
/-- == of two tuples of one length, item by item: cs tells each answer -/
theorem tuple_eqB (l b : Addr) (items items2 : Array Value) (n n2 : Nat) (dd dd2 : Option Addr) (sl sl2 : Array (Option Value)) (hsz : items.size = items2.size) (cs : Nat → Bool) (J : Shared → Prop)
    (turn : ∀ i (h1 : i < items.size) (h2 : i < items2.size) s, J s → wpAny (model prog w) A.in1 (eqBool items[i] items2[i]) (fun r s' => r = cs i ∧ J s') (fun e s' => R (.error e) s') s)
    (fin : ∀ s, J s → R (.ok (.ret (.bool (decide (∀ i, i < items.size → cs i = true))))) s) {s : Shared} (hl1 : s.heap.get? l = some { cls := .type "tuple", dict := dd, data := .seq items n, slots := sl }) (hb1 : s.heap.get? b = some { cls := .type "tuple", dict := dd2, data := .seq items2 n2, slots := sl2 }) (h : J s) :
    wpAny (model prog w) A.in1 (Builtin.«tuple.__eq__» ⟨[.ref l, .ref b], []⟩) (GQ.FinOf prog w A R) (fun e s' => R (.error e) s') s := by
  have f2 := AutoSeq1.sub_tuple_tuple
  have len : (items.toList.zip items2.toList).length = items.size := by simp [hsz]
  have h0 := h
  obtain ⟨hp, g, d, tk, os⟩ := s
  wp_walk using wpAny_loadPart' hl1, wpAny_loadPart' hb1, wpAny_forIn_list _ (fun rest z s' => z.1 = none ∧ ∃ i, rest = (items.toList.zip items2.toList).drop i ∧ i ≤ items.size ∧ (∀ k, k < i → cs k = true) ∧ J s') _
  case turn =>
    rintro ⟨y, x⟩ rest z s' ⟨hz', i, hz, hi, hk, hJ⟩
    have hlt : i < (items.toList.zip items2.toList).length := by
      rcases Nat.lt_or_ge i (items.toList.zip items2.toList).length with h' | h'
      · exact h'
      · rw [List.drop_of_length_le h'] at hz
        cases hz
    have h1 : i < items.size := len ▸ hlt
    have h2 : i < items2.size := hsz ▸ h1
    rw [List.drop_eq_getElem_cons hlt] at hz
    injection hz with hyx hrest
    have hy : y = items[i] := by
      have q := congrArg Prod.fst hyx
      simpa using q
    have hx : x = items2[i] := by
      have q := congrArg Prod.snd hyx
      simpa using q
    subst hy hx
    refine wpAny_bind (wpAny_mono (turn i h1 h2 s' hJ) (fun r s2 q2 => ?_) fun _ _ x => x)
    obtain ⟨hr, q2⟩ := q2
    subst hr
    cases hc : cs i with
    | true =>
      wp_walk
      refine ⟨rfl, i + 1, hrest, h1, fun k hk2 => ?_, q2⟩
      by_cases e : k = i
      · rw [e, hc]
      · exact hk k (by omega)
    | false =>
      wp_walk
      have e : decide (∀ i, i < items.size → cs i = true) = false := decide_eq_false fun q => by
        have := q i h1
        rw [hc] at this
        cases this
      have q := fin _ q2
      rw [e] at q
      exact q
  case fin =>
    rintro ⟨b1, b2⟩ s' ⟨hb', i, hz, hi, hk, hJ⟩
    simp only at hb'
    subst hb'
    have hge : items.size ≤ i := by
      rcases Nat.lt_or_ge i (items.toList.zip items2.toList).length with h' | h'
      · rw [List.drop_eq_getElem_cons h'] at hz
        cases hz
      · omega
    have e : decide (∀ i, i < items.size → cs i = true) = true := decide_eq_true fun k hk2 => hk k (by omega)
    have q := fin s' hJ
    rw [e] at q
    wp_walk
    simpa [Builtin.Tuple.tupleCompareSizes, hsz] using q
  case h => exact ⟨rfl, 0, rfl, Nat.zero_le _, (fun k hk => absurd hk (Nat.not_lt_zero _)), h0⟩
end
end L3
namespace L3
open PySem PySem.Spec PyProof.Rows L2 Evl
section
variable {X : Cx} {CX : CXT} {n : Nat} {C f : Addr} {fd : FuncData} {ps : List Str}
/-- what an own == promises of two instances: R tells the answer -/
def spEqR (R : Addr → Addr → Bool → Hp → Prop) : Sp := fun vs H Q _ => ∃ a b c, vs = [.ref a, .ref b] ∧ R a b c H ∧ ∀ H', Ex H H' → Q (.bl c) H'
/-- two tuples of instances of C, item by item -/
def rEqTO (K : PySem.W.Frag) (C : Addr) (R : Addr → Addr → Bool → Hp → Prop) : R2 := fun x y H Q => ∃ (a b : Addr) (xs ys : List Addr) (cs : Nat → Bool), x = .ref a ∧ y = .ref b ∧ SqT K H a (xs.map V.ref) ∧ SqT K H b (ys.map V.ref) ∧ xs.length = ys.length ∧
  (∀ (i : Nat) p q, xs[i]? = some p → ys[i]? = some q → (∃ dx fs, H p = some (.ins C dx fs)) ∧ (∃ dy gs, H q = some (.ins C dy gs)) ∧ (∀ H', Ex H H' → R p q (cs i) H') ∧ (p = q → cs i = true)) ∧
  ∀ H', Ex H H' → Q (.bl (decide (∀ i, i < xs.length → cs i = true))) H'
theorem op_eqTO {R : Addr → Addr → Bool → Hp → Prop} (S : Spm X.K C "__eq__" f) (F : FnOk X.prog X.w X.K X.mg X.base CX n f fd ps (spEqR R)) (hb : Binds X.K fd ps []) (hx : Passes CX X E0) (hr : Room (n + 1) X.A) : OpR X (compareOp .Eq) (rEqTO X.K C R) := by
  intro pins s σ H x y v u Q I rx ry h
  obtain ⟨a, b, xs, ys, cs, rfl, rfl, hxs, hys, hl, hit, k⟩ := h
  cases (show v = Value.ref a from rx)
  cases (show u = Value.ref b from ry)
  obtain ⟨its, r1, e1, z1⟩ := I.tuple hxs
  obtain ⟨its2, r2, e2, z2⟩ := I.tuple hys
  have l1 : its.length = xs.length := by rw [← r1.length, List.length_map]
  have l2 : its2.length = ys.length := by rw [← r2.length, List.length_map]
  have hsz : its.toArray.size = its2.toArray.size := by rw [List.size_toArray, List.size_toArray, l1, l2, hl]
  have t1 : s.heap.IsTuple a its.toArray := e1
  have t2 : s.heap.IsTuple b its2.toArray := e2
  obtain ⟨⟨cls, dd, data, sl⟩, ho, hc, n1, hd⟩ := id t1
  obtain ⟨⟨cls2, dd2, data2, sl2⟩, ho2, hc2, n2, hd2⟩ := id t2
  simp only at hc hd hc2 hd2
  subst hc hd hc2 hd2
  refine PySem.W.cmp_ofEq (wpAny_richCompare_same_room (op := .Eq) ⟨_, ho, rfl⟩ ⟨_, ho2, rfl⟩ PySem.F.slot_tuple_eq (GQ.call_here PySem.F.slot_tuple_eq ⟨_, ho, rfl⟩ PySem.F.entry_tuple_eq (PySem.F.args_tuple_eq_2 _ _) ?_) hr.units0)
  refine tuple_eqB (R := wants (fun v s' => v ≠ .notImplemented ∧ EP X pins σ Q v s') X.xe) a b its.toArray its2.toArray n1 n2 dd dd2 sl sl2 hsz cs (fun s' => ∃ H', Inv X pins σ H' s' ∧ Ex H H') (fun i h1 h2 s' hJ => ?_) (fun s' hJ => ?_) ho ho2 ⟨H, I, Ex.refl H⟩
  · obtain ⟨H1, I1, ex⟩ := hJ
    have h1' : i < its.length := by simpa using h1
    have h2' : i < its2.length := by simpa using h2
    have g1 : xs[i]? = some xs[i] := by simp [show i < xs.length by omega]
    have g2 : ys[i]? = some ys[i] := by simp [show i < ys.length by omega]
    obtain ⟨⟨dx, fs, hp⟩, ⟨dy, gs, hq⟩, hR, hs⟩ := hit i _ _ g1 g2
    generalize xs[i] = p at g1 hp hR hs
    generalize ys[i] = q at g2 hq hR hs
    obtain ⟨u1, hu1, rv1⟩ := r1.get (i := i) (x := V.ref p) (by rw [List.getElem?_map, g1] <;> rfl)
    obtain ⟨u2, hu2, rv2⟩ := r2.get (i := i) (x := V.ref q) (by rw [List.getElem?_map, g2] <;> rfl)
    have c1 : its.toArray[i] = Value.ref p := by
      have z : its[i]? = some its.toArray[i] := by
        rw [List.getElem?_eq_getElem h1'] <;> simp
      rw [z] at hu1
      rw [Option.some.inj hu1]
      exact rv1
    have c2 : its2.toArray[i] = Value.ref q := by
      have z : its2[i]? = some its2.toArray[i] := by
        rw [List.getElem?_eq_getElem h2'] <;> simp
      rw [z] at hu2
      rw [Option.some.inj hu2]
      exact rv2
    rw [c1, c2]
    by_cases hpq : p = q
    · rw [hs hpq, hpq]
      unfold eqBool
      refine wpAny_holding ?_
      rw [if_pos (by simp)]
      refine wpAny_bind (wpAny_rule (wpAny_pure ?_))
      exact ⟨rfl, H1, I1, ex⟩
    · refine GQ.eqBool_refG hpq ?_
      obtain ⟨mA, J, _⟩ := ins_get I1.hok (ex _ _ hp)
      obtain ⟨mB, J2, _⟩ := ins_get I1.hok (ex _ _ hq)
      obtain ⟨od, J, _⟩ := J.look
      obtain ⟨od2, J2, _⟩ := J2.look
      obtain ⟨m, hF⟩ := I1.fr
      refine PySem.W.cmp_K (op := .Eq) (tb := .ref C) hr.in1.units0 hF I1.ok.mod.kin J J2.type (by simp [PySem.W.notFirst]) S.at_ S.fn (wpAny_mono (own_call (sp := spEqR R) (vs := [V.ref p, V.ref q]) (Q := fun v H' => v = .bl (cs i) ∧ Ex H1 H') F hb hx hr.in1 rfl I1 (.cons rfl (.cons rfl .nil)) ⟨p, q, cs i, rfl, hR _ ex, fun H' e => ⟨rfl, e⟩⟩) (fun w s2 z => ?_) fun _ _ z => z)
      obtain ⟨v, H2, I2, rv, rfl, e2⟩ := z
      cases (show w = Value.bool (cs i) from rv)
      exact ⟨cs i, rfl, rfl, H2, I2, ex.trans e2⟩
  · obtain ⟨H1, I1, ex⟩ := hJ
    have es : its.toArray.size = xs.length := by rw [List.size_toArray, l1]
    rw [es]
    exact ⟨(fun x => nomatch x), .bl (decide (∀ i, i < xs.length → cs i = true)), H1, I1, rfl, k H1 ex⟩
end
end L3

namespace L3
open PySem PySem.Spec PyProof.Rows L2 Evl LamX
/-! ### a lambda that is handed on -/
/-- f, made at (stk, s, H), can be called from then on, whatever stands above -/
def CanCall (P : Program) (w : World) (K : PySem.W.Frag) (mg : Str → Option Value) (base : Heap) (j : Nat) (stk : List Env) (s : Shared) (H : Hp) (f c' : Addr) (q : Str) (tl : XK → Hp → VK → Prop) : Prop :=
  ∀ (A : Around) (outer : List Env) (s1 : Shared) (HZ : Hp) (Q : VK) (E : XK), Room (j + 1) A → Env0 P w K mg base A outer s1 HZ → Un (frs stk) [] H HZ s.heap s1.heap → HZ c' = some (CodeO c' q) → tl E HZ Q →
    PySem.W.FnAt f s1.heap ∧ codeAny (model P w) A (.call (.ref f) ⟨[], []⟩) (CR (L2.CX P w) outer P w HZ s1 Q E) s1
section
variable {X : Cx} {pins : List (Addr × Obj)} {σ : L2.St} {H : Hp} {s : Shared} {j : Nat} {f c' : Addr} {q : Str} {tl : XK → Hp → VK → Prop}
theorem can_go (C : CanCall X.prog X.w X.K X.mg X.base j X.outer X.s_0 X.H_0 f c' q tl) (I : Inv X pins σ H s) (hex : X.ex = []) : CanCall X.prog X.w X.K X.mg X.base j X.stack s H f c' q tl := fun A outer s1 HZ Q E hr e0 un hc ht => by
  have J := I.call (h' := s1.heap) (g' := s1.gens) (d' := s1.drawn) (t' := s1.toks) (ch := []) un e0.hok e0.bare (fun b z => absurd z (by simp))
  have b := J.base
  rw [hex] at b
  exact C A outer s1 HZ Q E hr e0 b hc ht
theorem can_lam {scope : Scope} {params : Arguments} {body : Expr} {pm ctv : Value} {t : XK → TE} (I : Inv X pins σ H s) (L : LamS X.env.scope scope)
    (hf : s.heap.get? f = some (PySem.W.kla_obj "<lambda>" (X.env.qual ++ "<lambda>") params body scope (cloFrom X.env.cells scope.names []) pm c' ctv)) (hfn : H f = none) (hfr : f ∉ frs X.stack)
    (hbind : bindArgs (PySem.W.kla_fn "<lambda>" (X.env.qual ++ "<lambda>") params body scope (cloFrom X.env.cells scope.names []) pm (.ref c') ctv) ⟨[], []⟩ = pure [])
    (hbody : ∀ (A : Around) (outer : List Env) (s : Shared) (H : Hp) (E : XK), Room j (A.deeper (lamEnv X scope s.heap.objs.size f c')) → PE (lamCx X A outer s H E scope f c') body (t E)) :
    CanCall X.prog X.w X.K X.mg X.base j X.stack s H f c' (X.env.qual ++ "<lambda>") (fun E HZ Q => t E σ HZ Q) := fun A outer s1 HZ Q E hr e0 un hc ht => by
  have of1 : s1.heap.get? f = some (PySem.W.kla_obj "<lambda>" (X.env.qual ++ "<lambda>") params body scope (cloFrom X.env.cells scope.names []) pm c' ctv) := un.keep f _ hf hfn hfr (fun z => nomatch (show f ∈ ([] : List Addr) from z))
  obtain ⟨⟨oc, vs, tk, hoc, hdc, hvc⟩, _, _⟩ := e0.hok c' _ hc
  refine ⟨⟨_, _, _, _, of1⟩, ?_⟩
  refine PySem.W.kla_callFunE hr.depth of1 rfl L.co L.gen rfl ⟨c', oc, vs, tk, rfl, hoc, hdc, hvc⟩ ?_
  rw [hbind]
  have nl : s1.heap.NoLimit := e0.mod.nolimit.keeps fun b o e => (e0.bs b o e).1
  refine wpAny_pure (wpAny_newFunctionEnv (fun y hy => (L.own y hy).2) (fun y hy => absurd hy (by simp)) (fun h₁ hns hsb => ⟨nl.fresh _ hsb, ?_⟩) L.kind)
  show codeAny _ _ (.expr body (lamEnv X scope s1.heap.objs.size f c')) _ _
  have kp : ∀ b o, s1.heap.get? b = some o → h₁.get? b = some o := fun b o e => hsb.extBut b o (Nat.ne_of_lt (Heap.lt_size e)) (Heap.get?_push_of_some _ e)
  have J : Inv (lamCx X A outer s1 HZ E scope f c') [] σ HZ { s1 with heap := h₁, toks := s1.toks + ([] : List (Str × Value)).length } := lam_start2 I L e0 hr.hd un hns kp
  refine PySem.W.kla_codeExpr (wpAny_mono ((hbody _ _ s1 HZ E (hr.deeper _)).run [] _ _ HZ Q J ht) (fun v s' hq => ?_) fun e s' hq => hq)
  obtain ⟨w', H', J', rv, q⟩ := hq
  exact ⟨w', H', J'.os, J'.bare, J'.base, J'.hok, rv, q⟩
end
/-- what a def promises that gets such a lambda first -/
structure FnC (P : Program) (w : World) (K : PySem.W.Frag) (mg : Str → Option Value) (base : Heap) (j k : Nat) (f : Addr) (fd : FuncData) (ps : List Str) (sp : Addr → Addr → Str → (XK → Hp → VK → Prop) → Sp) : Prop where
  len : ∀ l c' q tl vs H Q E, sp l c' q tl vs H Q E → vs.length = ps.length
  run : ∀ (A : Around) (outer : List Env) (s : Shared) (H : Hp) (args : Args) (us : List Value) (vs : List V) (Q : VK) (E : XK) (l c' : Addr) (q : Str) (tl : XK → Hp → VK → Prop), Room k A → Env0 P w K mg base A outer s H → CanCall P w K mg base j outer s H l c' q tl → BindsTo s fd args (ps.zip us) → Vals vs us → sp l c' q tl vs H Q E →
    codeAny (model P w) A (.call (.ref f) args) (CR CX0 outer P w H s Q E) s
section
variable {P : Program} {w : World} {K : PySem.W.Frag} {mg : Str → Option Value} {base : Heap} {x qual : Str} {st : Stmt} {f : Addr} {fd : FuncData} {N ps : List Str} {j k : Nat} {sp : Addr → Addr → Str → (XK → Hp → VK → Prop) → Sp}
theorem fnC_of (F : Fun K x qual st f fd) (S : FnScope N ps (defScope st)) (len : ∀ l c' q tl vs H Q E, sp l c' q tl vs H Q E → vs.length = ps.length)
    (body : ∀ (cdv : Value) (A : Around) (outer : List Env) (s : Shared) (H : Hp) (vs : List V) (Q : VK) (E : XK) (l c' : Addr) (q : Str) (tl : XK → Hp → VK → Prop), Room k (A.deeper (envOfC qual (defScope st) s.heap.objs.size f cdv)) → CanCall P w K mg base j outer s H l c' q tl → sp l c' q tl vs H Q E →
      ∃ t, PSs (cxOf CX0 P w K mg base N qual (defScope st) f cdv A outer s H E).nox (defBody st) t ∧ t { nx := fun _ H' => Q .non H', rt := Q } (start N vs) H) : FnC P w K mg base j (k + 1) f fd ps sp := by
  obtain ⟨oc, od, kV, doc, pm, an, cd, ct, osl, rfl, lk, hcd⟩ := F.ex
  refine ⟨len, fun A outer s H args us vs Q E l c' q tl hr e0 C hb r hsp => ?_⟩
  have hl := len _ _ _ _ vs H Q E hsp
  have KX : K.In s.heap := e0.mod.kin.keeps fun b o e => (e0.bs b o e).1
  have lim : s.heap.NoLimit := e0.mod.nolimit.keeps fun b o e => (e0.bs b o e).1
  have kinds : ∀ y ∈ ps.zip us, (defScope st).names.lookup y.1 = some .local ∨ ((defScope st).names.lookup y.1 = some .cell ∧ ((cellsFrom (s.heap.objs.size + 1) (defScope st).names []).lookup y.1).isSome = true) := fun ⟨n, v⟩ hy =>
    (S.par n (List.of_mem_zip hy).1).elim Or.inl fun q => Or.inr ⟨q, PySem.W.cellsFrom_some _ _ _ (.inl q)⟩
  refine codeAny_call_function hr.depth (KX _ _ lk) rfl S.co S.gen rfl (PySem.W.codeRec_of KX hcd) (hb _ _ _ _ ?_)
  refine wpAny_newFunctionEnv_cells S.kind kinds fun env he s1 x => ?_
  subst he
  refine ⟨lim.keeps x.toInCall.keep, codeAny_func ?_⟩
  obtain ⟨t, ht, hq⟩ := body cd A outer s H vs Q E l c' q tl (hr.deeper _) C hsp
  have I : Inv (cxOf CX0 P w K mg base N qual (defScope st) f cd A outer s H E) [] (start N vs) H s1 := inv_start S hr.hd e0 hl r x
  refine wpAny_mono (ht.nox.run [] s1 (start N vs) H _ I hq) (fun fl s' hs => ?_) fun e s' hs => hs
  cases fl with
  | next =>
    obtain ⟨σ', H', J, q⟩ := hs
    exact ⟨V.non, H', J.os, J.bare, J.base, J.hok, rfl, q⟩
  | ret u =>
    obtain ⟨v, σ', H', J, rv, q⟩ := hs
    exact ⟨v, H', J.os, J.bare, J.base, J.hok, rv, q⟩
  | brk =>
    obtain ⟨σ', H', J, q⟩ := hs
    exact q.elim
  | cont =>
    obtain ⟨σ', H', J, q⟩ := hs
    exact q.elim
end
section
variable {X : Cx} {x : Str} {j k : Nat} {g : Addr} {fd : FuncData} {ps : List Str} {sp : Addr → Addr → Str → (XK → Hp → VK → Prop) → Sp} {l c' : Addr} {q : Str} {tl : XK → Hp → VK → Prop} {e : Expr} {es : List Expr} {t : TA} {p pos : Pos}
/-- g(l, ..), by a def that got l itself -/
theorem pe_callC (F : FnC X.prog X.w X.K X.mg X.base j k g fd ps sp) (C : CanCall X.prog X.w X.K X.mg X.base j X.outer X.s_0 X.H_0 l c' q tl) (hex : X.ex = []) (hr : Room k X.A) (hg : Gl X x) (hm : X.mg x = some (.ref g))
    (hk : PySem.W.keepIn X.K (.ref g) = true) (hb : Binds X.K fd ps []) (ha : PA X (e :: es) t) (hdb : (x == ("__debug__" : Str)) = false := by decide)
    (he : starEach (e :: es) X.env = (false, eval e X.env) :: starEach es X.env := by rfl) (hpl : (backTo pos (starEach es X.env)).any (·.1) = false := by rfl) :
    PE X (.Call (.Name x p) (e :: es) [] pos) (tCall (sp l c' q tl) [] E0 t) := by
  refine ⟨fun pins s σ H Q I h => ?_⟩
  refine wpAny_Call_Name_kw (ld_glob I hg hm ?_ hdb)
  refine PySem.W.callWith_K (h₀ := X.base) I.ok.mod.kin hk (thn (ha.run pos pins s σ H _ I h) fun us s1 ⟨vs, H1, I1, r, q1⟩ => ⟨I1.kIn, ?_⟩) he hpl
  have q' : sp l c' q tl vs H1 Q E0 := by
    have z : sp l c' q tl (vs ++ []) H1 Q E0 := q1
    rw [List.append_nil] at z
    exact z
  have hl : us.length = ps.length := by
    rw [← r.length]
    exact F.len _ _ _ _ _ _ _ _ q'
  have hb' := hb s1 us I1.kIn (by rw [List.append_nil]; exact hl)
  rw [List.append_nil] at hb'
  refine wpAny_call (codeAny_mono (F.run X.A X.stack s1 H1 ⟨us, []⟩ us vs Q E0 l c' q tl hr I1.env0 (can_go C I1 hex) hb' r q') fun r s' hq => ?_)
  cases r with
  | error e => exact hq.elim
  | ok fl =>
    cases fl with
    | ret u => exact I1.after hq
    | next => exact hq.elim
    | brk => exact hq.elim
    | cont => exact hq.elim
end
/-- l(), by a def that got l -/
theorem pe_do {X : Cx} {i j : Nat} {a q : Str} {l c' : Addr} {tl : XK → Hp → VK → Prop} {E : L2.St → XK} {p1 p2 : Pos} (C : CanCall X.prog X.w X.K X.mg X.base j X.outer X.s_0 X.H_0 l c' q tl) (hex : X.ex = []) (hr : Room (j + 1) X.A) (hx : ∀ σ, PassesAt (L2.CX X.prog X.w) X σ (E σ))
    (hN : X.N[i]? = some a) (hv : Vis X.env.scope a) (hd : (a == ("__debug__" : Str)) = false := by decide) (hcd : (a == ("__classdict__" : Str)) = false := by decide) :
    PE X (.Call (.Name a p1) [] [] p2) (fun σ H Q => σ[i]? = some (some (.ref l)) ∧ H c' = some (CodeO c' q) ∧ tl (E σ) H Q) := by
  refine ⟨fun pins s σ H Q I h => ?_⟩
  obtain ⟨hs, hc, ht⟩ := h
  refine wpAny_Call_Name_kw (thn ((pe_var (pos := p1) (i := i) hN hv hd hcd).run pins s σ H (fun v H1 => v = .ref l ∧ H1 = H) I ⟨.ref l, hs, rfl, rfl⟩) fun u s1 ⟨v, H1, I1, r1, q1⟩ => ?_)
  obtain ⟨ev, eH⟩ := q1
  subst ev
  rw [eH] at I1
  obtain rfl : u = Value.ref l := r1
  have C1 := can_go C I1 hex
  obtain ⟨fa, rc⟩ := C1 X.A X.stack s1 H Q (E σ) hr I1.env0 Un.refl hc ht
  refine PySem.W.callWith_F0 fa ?_
  refine wpAny_call (codeAny_mono rc fun r s' hq => ?_)
  cases r with
  | error e => exact hx σ pins H s1 e s' I1 hq
  | ok fl =>
    cases fl with
    | ret u => exact I1.after hq
    | next => exact False.elim hq
    | brk => exact False.elim hq
    | cont => exact False.elim hq
/-- g(lambda: body, ..) -/
def tLamC (T : List (Addr × Str)) (q : Str) (sp : Addr → Addr → Str → (XK → Hp → VK → Prop) → Sp) (t : XK → TE) (ta : TA) : TE := fun σ H Q => Tabs T H ∧ ∀ f c' H1, ExtN H H1 → Tabs T H1 → H1 c' = some (CodeO c' q) →
  ta σ H1 fun vs H2 => sp f c' q (fun E H' Q' => t E σ H' Q') (.ref f :: vs) H2 Q E0
theorem pe_lamC {X : Cx} {T : List (Addr × Str)} {x : Str} {j k : Nat} {g c P : Addr} {fd : FuncData} {ps : List Str} {sp : Addr → Addr → Str → (XK → Hp → VK → Prop) → Sp} {params : Arguments} {body : Expr} {scope : Scope} {t : XK → TE} {es : List Expr} {ta : TA} {p lpos pos : Pos}
    (F : FnC X.prog X.w X.K X.mg X.base j k g fd ps sp) (hr : Room k X.A) (hg : Gl X x) (hm : X.mg x = some (.ref g)) (hk : PySem.W.keepIn X.K (.ref g) = true) (hb : Binds X.K fd ps [])
    (st : X.stack = X.env :: X.outer) (fr : X.env.frame = some X.env.locals) (TB : TabB X.base X.mg c P) (hcode : X.env.code = .ref c) (hmT : (P, X.env.qual ++ "<lambda>") ∈ T) (hu : ∀ p ∈ T, p.1 = P → p.2 = X.env.qual ++ "<lambda>") (L : LamS X.env.scope scope) (hdef : defaultsOf params X.env = ([], []))
    (hbind : ∀ (q : Str) (cl : List (Str × Addr)) (pm cv ctv : Value), bindArgs (PySem.W.kla_fn "<lambda>" q params body scope cl pm cv ctv) ⟨[], []⟩ = pure [])
    (hbody : ∀ (A : Around) (outer : List Env) (s : Shared) (H : Hp) (E : XK) (f c' : Addr), Room j (A.deeper (lamEnv X scope s.heap.objs.size f c')) → PE (lamCx X A outer s H E scope f c') body (t E)) (ha : PA X es ta)
    (hdb : (x == ("__debug__" : Str)) = false := by decide) (he : starEach (.Lambda params body scope lpos :: es) X.env = (false, eval (.Lambda params body scope lpos) X.env) :: starEach es X.env := by rfl) (hpl : (backTo pos (starEach es X.env)).any (·.1) = false := by rfl) :
    PE X (.Call (.Name x p) (.Lambda params body scope lpos :: es) [] pos) (tLamC T (X.env.qual ++ "<lambda>") sp t ta) := by
  refine ⟨fun pins s σ H Q I h => ?_⟩
  obtain ⟨hT, h⟩ := h
  refine wpAny_Call_Name_kw (ld_glob I hg hm ?_ hdb)
  refine PySem.W.callWith_K (h₀ := X.base) I.ok.mod.kin hk ?_ he hpl
  rw [he]
  show wpAny _ _ (spliced ((false, eval (.Lambda params body scope lpos) X.env) :: backTo pos (starEach es X.env))) _ _ s
  refine Calls.spliced_cons (lam_make2 I TB hcode hmT hu hT hdef (L.has I.ok) fun f c' pm' ctv H1 s' I1 eN T1 hf hfn hfr hco => ?_)
  have nl : f ≠ X.env.locals := fun z => hfr (by rw [st]; exact List.mem_filterMap.mpr ⟨X.env, List.mem_cons_self, by rw [fr, z]⟩)
  have nf : f ∉ X.fs := fun hm => by
    obtain ⟨e, he, q⟩ := List.mem_filterMap.mp hm
    exact hfr (by rw [st]; exact List.mem_filterMap.mpr ⟨e, List.mem_cons_of_mem _ he, q⟩)
  obtain ⟨ob, hob⟩ : ∃ ob, ob = PySem.W.kla_obj "<lambda>" (X.env.qual ++ "<lambda>") params body scope (cloFrom X.env.cells scope.names []) pm' c' ctv := ⟨_, rfl⟩
  have I2 : Inv X ((f, ob) :: pins) σ H1 s' := I1.pins_of fun p hp => by
    rcases List.mem_cons.mp hp with rfl | hp
    · exact ⟨by rw [hob]; exact hf, hfn, nl, nf, fun v z => by rw [hob] at z; cases z⟩
    · exact I1.pin p (List.mem_append_right _ hp)
  refine thn (ha.run pos ((f, ob) :: pins) s' σ H1 _ I2 (h f c' H1 eN T1 hco)) fun us s2 ⟨vs, H2, I3, r, q1⟩ => ⟨I3.kIn, ?_⟩
  obtain ⟨p1, p2, p3, p4, p5⟩ := I3.pin (f, ob) (List.mem_append_right _ List.mem_cons_self)
  have hf2 : s2.heap.get? f = some (PySem.W.kla_obj "<lambda>" (X.env.qual ++ "<lambda>") params body scope (cloFrom X.env.cells scope.names []) pm' c' ctv) := by
    rw [← hob]
    exact p1
  have C : CanCall X.prog X.w X.K X.mg X.base j X.stack s2 H2 f c' (X.env.qual ++ "<lambda>") (fun E HZ Q => t E σ HZ Q) := can_lam I3 L hf2 p2 hfr (hbind _ _ _ _ _) fun A outer s H E hr2 => hbody A outer s H E f c' hr2
  have hl : (Value.ref f :: us).length = ps.length := by
    have z := F.len _ _ _ _ _ _ _ _ q1
    rw [← z]
    show us.length + 1 = vs.length + 1
    rw [← r.length]
  have hb' := hb s2 (.ref f :: us) I3.kIn (by rw [List.append_nil]; exact hl)
  rw [List.append_nil] at hb'
  have I4 : Inv X pins σ H2 s2 := I3.pins_of fun p hp => I3.pin p (List.mem_append_right _ (List.mem_cons_of_mem _ hp))
  refine wpAny_call (codeAny_mono (F.run X.A X.stack s2 H2 ⟨.ref f :: us, []⟩ (.ref f :: us) (.ref f :: vs) Q E0 f c' _ _ hr I4.env0 C hb' (.cons rfl r) q1) fun r s3 hq => ?_)
  cases r with
  | error e => exact hq.elim
  | ok fl =>
    cases fl with
    | ret u => exact I4.after hq
    | next => exact hq.elim
    | brk => exact hq.elim
    | cont => exact hq.elim
end L3

namespace L3
open PySem PySem.Spec PyProof.Rows L2 Evl ClX
/-! ### classes of the program -/
/-- what isinstance and the fields ask of an own class -/
structure Kls (K : PySem.W.Frag) (C : Addr) : Prop where
  cl : Cls K C
  ha : PySem.W.findIn K (.ref C) "__class__" = some (some (.builtin "object.__class__"))
  hn : PySem.W.specialIn K (.builtin "object.__class__") "__get__" = some (some (.builtin "getset_descriptor.__get__"))
  ht : PySem.W.takesIn K (.builtin "object.__class__") = some true
  hm : PySem.W.mroIn K C (.type "object") = some true
theorem Kls.ty {K : PySem.W.Frag} {H : Hp} {a C dx : Addr} {fs : List (Str × V)} (k : Kls K C) (h : H a = some (.ins C dx fs)) : TyX K H (.ref a) (.ref C) := .base (.ins h k.cl k.ha k.hn k.ht k.hm)
section
variable {K : PySem.W.Frag} {σ : L2.St} {H : Hp} {ta te : TE} {x v : V} {f : Str} {a C dx : Addr} {fs : List (Str × V)}
theorem ev_fld (h : Ev ta σ H (.ref a)) (hi : H a = some (.ins C dx fs)) (cl : Cls K C) (no : NoAttr K C f) (l : fs.lookup f = some v) : Ev (tFld K ta f) σ H v := fun H1 e Q q =>
  h H1 e _ fun H2 e2 => ⟨a, C, dx, fs, v, rfl, (e.trans e2) _ _ hi, cl, no, l, q H2 e2⟩
theorem ev_cval {mc u : Value} (h : Ev ta σ H (.ref C)) (r : CRead K C mc) (k : CVal K C mc f v u) : Ev (tCVal K ta f) σ H v := fun H1 e Q q => h H1 e _ fun H2 e2 => ⟨C, mc, v, u, rfl, r, k, q H2 e2⟩
/-- isinstance(x, C), C an own class -/
theorem ev_isC {t : Value} {b : Bool} (ha : Ev ta σ H x) (ht : ∀ H1, Ex H H1 → TyX K H1 x t) (hk : PySem.W.kitOne K t (.ref C) = some b) : Ev (tCB (rIsi K) (tCons ta (tCons (tC (.ref C)) tNil))) σ H (.bl b) :=
  ev_cb (ea_cons ha (ea_cons ev_c ea_nil)) fun H1 e Q q => ⟨x, .ref C, t, _, b, rfl, .own C, ht _ e, hk, q H1 (Ex.refl H1)⟩
/-- a text of parts: the next one -/
theorem js_cons {ts : List TE} {acc y : Str} {Q : Str → Hp → Prop} (h : Ev te σ H (.str y)) (hl : (acc ++ y).length ≤ 100000) (k : ∀ H1, Ex H H1 → tJs ts (acc ++ y) σ H1 Q) : tJs (te :: ts) acc σ H Q := h H (Ex.refl H) _ fun H1 e => ⟨y, rfl, sz_of hl, k H1 e⟩
theorem ev_fmtS {y : Str} (h : Ev te σ H (.str y)) (hl : y.length ≤ 100000) : Ev (tFmt te) σ H (.str y) := fun H1 e Q q => h H1 e _ fun H2 e2 => Or.inl ⟨y, rfl, sz_of hl, q H2 e2⟩
theorem ev_fmtI {i : Int} (h : Ev te σ H (.int i)) (hl : i.natAbs.log2 < 1920) : Ev (tFmt te) σ H (.str (toString i)) := fun H1 e Q q => h H1 e _ fun H2 e2 => Or.inr ⟨i, rfl, hl, q H2 e2⟩
theorem ev_fmtRS {y : Str} (h : Ev te σ H (.str y)) (hl : (reprText y).length ≤ 100000) : Ev (tFmtR te) σ H (.str (reprText y)) := fun H1 e Q q => h H1 e _ fun H2 e2 => Or.inl ⟨y, rfl, sz_of hl, q H2 e2⟩
end
theorem putF_len (f : Str) (v : V) : ∀ fs : List (Str × V), (putF f v fs).length ≤ fs.length + 1
  | [] => Nat.le_refl _
  | (g, x) :: r => by
    unfold putF
    split
    · exact Nat.le_succ _
    · rw [List.length_cons, List.length_cons]
      exact Nat.succ_le_succ (putF_len f v r)
theorem sl_app (a b : Str) : (a ++ b).length = a.length + b.length := strLen_append a b
theorem sl_int {i : Int} (h : i.natAbs < 10 ^ 50) : (Str.ofString (toString i)).length ≤ 60 := by
  have z := int_text_length_le10 (a := i) (k := 50) (by decide) h
  rw [PySem.ofString_length]
  omega
end L3
namespace L3
open PySem PySem.Spec PyProof.Rows L2 Evl ClX
/-! ### not in: any data, in a tuple of texts -/
def rNiD (K : PySem.W.Frag) : R2 := fun x y H Q => ∃ (d : PyData) (t : Addr) (ss : List Str), y = .ref t ∧ Dp K H x d ∧ SeqAt.shaped d = true ∧ SqT K H t (ss.map V.str) ∧ (∀ s ∈ ss, (PyData.str s).canLay0 = true) ∧ Q (.bl (!(ss.any fun s => PyData.eqv (.str s) d))) H
def eqT (d : PyData) : Value → Bool
  | .str s _ => PyData.eqv (.str s) d
  | _ => false
theorem any_eqT {d : PyData} : ∀ {ss : List Str} {its : List Value}, Vals (ss.map V.str) its → its.any (eqT d) = ss.any fun s => PyData.eqv (.str s) d
  | [], its, r => by
    cases r
    rfl
  | s :: ss, its, r => by
    cases r with
    | cons r1 r2 =>
      obtain ⟨t, rfl⟩ := (show ∃ t, _ = Value.str s t from r1)
      rw [List.any_cons, List.any_cons, any_eqT r2] <;> rfl
theorem mem_strs : ∀ {ss : List Str} {its : List Value}, Vals (ss.map V.str) its → ∀ w ∈ its, ∃ s t, s ∈ ss ∧ w = .str s t
  | [], its, r, w, hw => by
    cases r
    cases hw
  | s :: ss, its, r, w, hw => by
    cases r with
    | cons r1 r2 =>
      obtain ⟨t, rfl⟩ := (show ∃ t, _ = Value.str s t from r1)
      rcases List.mem_cons.mp hw with rfl | hw
      · exact ⟨s, t, List.mem_cons_self, rfl⟩
      · obtain ⟨s', t', h1, h2⟩ := mem_strs r2 w hw
        exact ⟨s', t', List.mem_cons_of_mem _ h1, h2⟩
theorem op_notInD {X : Cx} (hu : X.A.units + 64 < cLine) : OpR X (compareOp .NotIn) (rNiD X.K) := by
  intro pins s σ H x y v u Q I rx ry h
  obtain ⟨d, t, ss, rfl, hd, sd, hq, hc, q⟩ := h
  cases (show u = Value.ref t from ry)
  obtain ⟨as, r1⟩ := Dp.reads I d x v hd rx
  obtain ⟨its, r, pl, hz⟩ := I.tuple hq
  refine SeqAt.notIn_tupleAt (eqT d) pl (fun w hw => ?_) ⟨.bl _, H, I, rfl, ?_⟩
  · obtain ⟨z, tk, hz2, rfl⟩ := mem_strs r w (by simpa using hw)
    have hu1 : X.A.in1.units + min (PyData.str z).depth d.depth < cLine := by
      show X.A.units + 1 + min 0 d.depth < cLine
      omega
    exact SeqAt.eqAt_reads (.str z) d _ _ _ _ _ _ (Reads.str z tk) r1 (hc z hz2) (SeqAt.canLay_of_shaped sd) hu1
  · rw [show its.toArray.any (eqT d) = its.any (eqT d) by simp, any_eqT r]
    exact q
/-! ### a value of the library == an own instance: the instance is asked -/
section
open PySem.W PySem.Calls PySem.SeqAt
variable {prog : Program} {w : World} {A : Around} {E : Value → Shared → Prop} {s : Shared} {K : Frag} {x C f dx : Addr} {ox : Obj} {od : Option Obj} {a : Value}
theorem eqR_own {Q : Value → Shared → Prop} {T ida : String} (hu : A.units < cLine) (X : K.In s.heap) (ha : s.TypeIs a T) (I : InstAt s.heap x ox C od) (hsub : subIn K (.ref C) (.type T) = some false) (h1 : Slot T "__eq__" ida)
    (hc1 : ∀ Q' : Value → Shared → Prop, Q' .notImplemented s → wpAny (model prog w) A (call (.builtin ida) [a, .ref x]) Q' E s) (hs : findIn K (.ref C) "__eq__" = some (some (.ref f))) (hf : isFn K (.ref f) = true)
    (h : wpAny (model prog w) A (call (.ref f) [.ref x, a]) (PySem.W.CmpBack Q) E s) : wpAny (model prog w) A (richCompare .Eq a (.ref x)) Q E s := by
  have one : wpAny (model prog w) A (tryCompare (.ref x) "__eq__" a) (fun r s' => ∃ v, r = some v ∧ Q v s') E s := by
    unfold tryCompare
    refine wpAny_bind (ifBound_K X I hs hf (wpAny_mono h (fun v s' hv => ?_) fun _ _ e => e))
    cases v <;> first | exact hv.elim | exact wpAny_pure ⟨_, rfl, hv⟩
  unfold richCompare
  simp only [ha.oneThing_none]
  refine wpAny_holding (wpAny_bind (wpAny_cRoomFor hu ?_))
  refine wpAny_bind (wpAny_typeOf ha (wpAny_bind (I.type.here ?_)))
  have ne : (Value.type T != Value.ref C) = true := rfl
  rw [if_pos ne]
  refine wpAny_bind ((looks_subIn X hsub).here ?_)
  simp only [Bool.false_eq_true, if_false, Bool.not_false, if_true]
  refine wpAny_bind (m := tryCompare a _ (.ref x)) (wpAny_tryCompare_declines ha h1 (hc1 _ ⟨rfl, ?_⟩))
  refine wpAny_bind (wpAny_mono one (fun r s' z => ?_) fun _ _ e => e)
  obtain ⟨v, rfl, hq⟩ := z
  exact wpAny_pure hq
theorem int_declines_bool (b : Bool) : Meets (Builtin.«int.__eq__» ⟨[.bool b, .ref x], []⟩) (fun _ R s => s.heap.get? x = some (instObj C dx) ∧ R (.ok (.ret .notImplemented)) s) :=
  .of_wp fun prog w A R s h => by obtain ⟨hp, g, d, tk, os⟩ := s; obtain ⟨hl, h⟩ := h; wp_walk using AutoSeq1.wpAny_loadPart' hl, wpAny_load hl; exact ⟨_, rfl, h⟩
theorem int_declines_int (b : Int) (u : Tok) : Meets (Builtin.«int.__eq__» ⟨[.int b u, .ref x], []⟩) (fun _ R s => s.heap.get? x = some (instObj C dx) ∧ R (.ok (.ret .notImplemented)) s) :=
  .of_wp fun prog w A R s h => by obtain ⟨hp, g, d, tk, os⟩ := s; obtain ⟨hl, h⟩ := h; wp_walk using AutoSeq1.wpAny_loadPart' hl, wpAny_load hl; exact ⟨_, rfl, h⟩
theorem str_declines_str (b : Str) (u : Tok) : Meets (Builtin.«str.__eq__» ⟨[.str b u, .ref x], []⟩) (fun _ R s => s.heap.get? x = some (instObj C dx) ∧ R (.ok (.ret .notImplemented)) s) :=
  .of_wp fun prog w A R s h => by obtain ⟨hp, g, d, tk, os⟩ := s; obtain ⟨hl, h⟩ := h; wp_walk using AutoSeq1.wpAny_loadPart' hl, wpAny_load hl; exact ⟨_, rfl, h⟩
theorem list_declines {l : Addr} : MeetsIn prog w (Builtin.«list.__eq__» ⟨[.ref l, .ref x], []⟩) (fun _ R s => s.heap.get? x = some (instObj C dx) ∧ Looks (model prog w) s.heap (isSubtype (.ref C) (.type "list")) false ∧ R (.ok (.ret .notImplemented)) s) := fun A R s h => by
  obtain ⟨hp, g, d, tk, os⟩ := s
  obtain ⟨hl, hs, h⟩ := h
  wp_walk using AutoSeq1.wpAny_loadPart' hl, wpAny_load hl, hs.at
  exact h
theorem tuple_declines {l : Addr} : MeetsIn prog w (Builtin.«tuple.__eq__» ⟨[.ref l, .ref x], []⟩) (fun _ R s => s.heap.get? x = some (instObj C dx) ∧ Looks (model prog w) s.heap (isSubtype (.ref C) (.type "tuple")) false ∧ R (.ok (.ret .notImplemented)) s) := fun A R s h => by
  obtain ⟨hp, g, d, tk, os⟩ := s
  obtain ⟨hl, hs, h⟩ := h
  wp_walk using AutoSeq1.wpAny_loadPart' hl, wpAny_load hl, hs.at
  exact h
end
/-- a class over nothing of Python's own -/
structure NoBase (K : PySem.W.Frag) (C : Addr) : Prop where
  none : PySem.W.subIn K (.ref C) (.type "NoneType") = some false
  bool : PySem.W.subIn K (.ref C) (.type "bool") = some false
  int : PySem.W.subIn K (.ref C) (.type "int") = some false
  str : PySem.W.subIn K (.ref C) (.type "str") = some false
  list : PySem.W.subIn K (.ref C) (.type "list") = some false
  tuple : PySem.W.subIn K (.ref C) (.type "tuple") = some false
def rEqR (K : PySem.W.Frag) (C : Addr) (sp : Sp) : R2 := fun x y H Q => ∃ (a dx : Addr) (fs : List (Str × V)) (d : PyData), y = .ref a ∧ H a = some (.ins C dx fs) ∧ Dp K H x d ∧ sp [.ref a, x] H (fun v H' => ∃ c, v = .bl c ∧ Q v H') E0
theorem op_eqR {X : Cx} {CX : CXT} {n : Nat} {C f : Addr} {fd : FuncData} {ps : List Str} {sp : Sp} (S : Spm X.K C "__eq__" f) (N : NoBase X.K C) (F : FnOk X.prog X.w X.K X.mg X.base CX n f fd ps sp) (hb : Binds X.K fd ps []) (hx : Passes CX X E0) (hr : Room n X.A) : OpR X (compareOp .Eq) (rEqR X.K C sp) := by
  intro pins s σ H x y v u Q I rx ry h
  obtain ⟨a, dx, fs, d, rfl, ha, hd, q⟩ := h
  cases (show u = Value.ref a from ry)
  obtain ⟨mA, O, _⟩ := ins_get I.hok ha
  obtain ⟨od, J, _⟩ := O.look
  have hi : s.heap.get? a = some (PySem.W.instObj C dx) := O.1
  have own : wpAny (model X.prog X.w) X.A (call (.ref f) [.ref a, v]) (PySem.W.CmpBack (EP X pins σ Q)) X.xe s := wpAny_mono (own_call (vs := [V.ref a, x]) F hb hx hr rfl I (.cons rfl (.cons rx .nil)) q) (fun w s' z => by
    obtain ⟨v, H', I', rv, c, rfl, q⟩ := z
    cases (show w = Value.bool c from rv)
    exact ⟨.bl c, H', I', rfl, q⟩) fun _ _ z => z
  refine PySem.W.cmp_ofEq ?_
  cases hd with
  | non =>
    cases (show v = Value.none from rx)
    exact eqR_own hr.units0 I.kIn rfl J N.none PySem.F.slot_NoneType_eq (fun _ hq => call_gives PySem.F.slot_NoneType_eq rfl PySem.F.entry_NoneType_eq (PySem.F.args_NoneType_eq_2 _ _) (SeqAt.NoneType___eq___none_ref_0 a) hq) S.at_ S.fn own
  | bl b =>
    cases (show v = Value.bool b from rx)
    exact eqR_own hr.units0 I.kIn rfl J N.bool PySem.F.slot_bool_eq (fun _ hq => call_meets PySem.F.slot_bool_eq rfl PySem.F.entry_int_eq (PySem.F.args_int_eq_2 _ _) (int_declines_bool b) ⟨hi, hq⟩) S.at_ S.fn own
  | int i =>
    obtain ⟨t, rfl⟩ := (show ∃ t, v = Value.int i t from rx)
    exact eqR_own hr.units0 I.kIn (typeIs_int s i t) J N.int PySem.F.slot_int_eq (fun _ hq => call_meets PySem.F.slot_int_eq (typeIs_int s i t) PySem.F.entry_int_eq (PySem.F.args_int_eq_2 _ _) (int_declines_int i t) ⟨hi, hq⟩) S.at_ S.fn own
  | str z =>
    obtain ⟨t, rfl⟩ := (show ∃ t, v = Value.str z t from rx)
    exact eqR_own hr.units0 I.kIn (typeIs_str s z t) J N.str PySem.F.slot_str_eq (fun _ hq => call_meets PySem.F.slot_str_eq (typeIs_str s z t) PySem.F.entry_str_eq (PySem.F.args_str_eq_2 _ _) (str_declines_str z t) ⟨hi, hq⟩) S.at_ S.fn own
  | lst hs hl =>
    cases (show v = Value.ref _ from rx)
    obtain ⟨its, r, pl, hz⟩ := I.list hs
    obtain ⟨o, ho, hc, _⟩ := pl.isList
    exact eqR_own hr.units0 I.kIn ⟨o, ho, hc⟩ J N.list PySem.F.slot_list_eq (fun _ hq => call_meetsIn PySem.F.slot_list_eq ⟨o, ho, hc⟩ PySem.F.entry_list_eq (PySem.F.args_list_eq_2 _ _) list_declines ⟨hi, PySem.W.looks_subIn I.kIn N.list, hq⟩) S.at_ S.fn own
  | tup hs hl =>
    cases (show v = Value.ref _ from rx)
    obtain ⟨its, r, pl, hz⟩ := I.tuple hs
    obtain ⟨o, ho, hc, _⟩ := id pl
    exact eqR_own hr.units0 I.kIn ⟨o, ho, hc⟩ J N.tuple PySem.F.slot_tuple_eq (fun _ hq => call_meetsIn PySem.F.slot_tuple_eq ⟨o, ho, hc⟩ PySem.F.entry_tuple_eq (PySem.F.args_tuple_eq_2 _ _) tuple_declines ⟨hi, PySem.W.looks_subIn I.kIn N.tuple, hq⟩) S.at_ S.fn own
end L3

namespace L3
open PySem PySem.Spec PyProof.Rows L2 Evl
/-! ### data as keys, nested -/
mutual
def nkD : PyData → NestedKey
  | .none => .none
  | .bool b => .num (if b = true then 1 else 0)
  | .int i => .num i
  | .str x => .text x
  | .tuple xs => .tup (nkAll xs)
  | .list _ => .none
  | .dict _ => .none
def nkAll : List PyData → List NestedKey
  | [] => []
  | x :: xs => nkD x :: nkAll xs
end
mutual
/-- no lists, no dicts -/
def keyD : PyData → Bool
  | .tuple xs => keyAll xs
  | .list _ => false
  | .dict _ => false
  | _ => true
def keyAll : List PyData → Bool
  | [] => true
  | x :: xs => keyD x && keyAll xs
end
section
variable {X : Cx} {pins : List (Addr × Obj)} {σ : L2.St} {H : Hp} {s : Shared}
mutual
theorem nest_of (I : Inv X pins σ H s) : ∀ {d : PyData} {x : V} {u : Value}, Dp X.K H x d → keyD d = true → RelV x u → NestedIs s.heap (nkD d) u
  | _, _, u, .non, _, r => by
    cases (show u = Value.none from r)
    exact .none
  | _, _, u, .bl b, _, r => by
    cases (show u = Value.bool b from r)
    exact .bool rfl
  | _, _, u, .int i, _, r => by
    obtain ⟨t, rfl⟩ := (show ∃ t, u = Value.int i t from r)
    exact .int i t
  | _, _, u, .str x, _, r => by
    obtain ⟨t, rfl⟩ := (show ∃ t, u = Value.str x t from r)
    exact .text x t
  | _, _, _, .lst _ _, hk, _ => nomatch hk
  | _, _, u, .tup (a := a) h ha, hk, r => by
    cases (show u = Value.ref a from r)
    obtain ⟨its, rv, ⟨o, h1, h2, n, h3⟩, _⟩ := I.tuple h
    exact .tup h1 h2 h3 (by simpa using nests_of I ha hk rv)
theorem nests_of (I : Inv X pins σ H s) : ∀ {ds : List PyData} {xs : List V} {us : List Value}, DpAll X.K H xs ds → keyAll ds = true → Vals xs us → NestedAll s.heap (nkAll ds) us
  | _, _, _, .nil, _, r => by
    cases r
    exact .nil
  | _, _, _, .cons a t, hk, r => by
    obtain ⟨h1, h2⟩ := Bool.and_eq_true_iff.mp hk
    cases r with
    | cons r1 r2 => exact .cons (nest_of I a h1 r1) (nests_of I t h2 r2)
end
end
/-! ### tuples stand -/
def isT : HO → Prop
  | .tup _ => True
  | .frz _ _ => True
  | _ => False
/-- what is a tuple stays -/
def ExT (H H1 : Hp) : Prop := ∀ a o, isT o → H a = some o → H1 a = some o
theorem ExT.refl {H : Hp} : ExT H H := fun _ _ _ h => h
theorem ExT.trans {A B C : Hp} (x : ExT A B) (y : ExT B C) : ExT A C := fun a o t h => y a o t (x a o t h)
theorem ext_of {A B : Hp} (x : Ex A B) : ExT A B := fun a o _ h => x a o h
theorem ext_upd {A : Hp} {a : Addr} {o : HO} (h : ∀ u, A a = some u → ¬ isT u) : ExT A (upd A a o) := fun b u t e => by
  have n : b ≠ a := fun z => h u (by rw [← z]; exact e) t
  rw [upd_ne n]
  exact e
theorem ext_del {A B : Hp} {a : Addr} (h : ∀ u, A a = some u → ¬ isT u) (x : Ex (del A a) (del B a)) : ExT A B := fun b u t e => by
  have n : b ≠ a := fun z => h u (by rw [← z]; exact e) t
  have y := x b u (by rw [del_ne n]; exact e)
  rw [del_ne n] at y
  exact y
section
variable {K : PySem.W.Frag} {H H1 : Hp}
theorem ext_t (e : ExT H H1) {a : Addr} {xs : List V} (h : SqT K H a xs) : SqT K H1 a xs := by
  rcases h with (h | ⟨o, h⟩) | h
  · exact Or.inl (Or.inl (e _ _ True.intro h))
  · exact Or.inl (Or.inr ⟨o, e _ _ True.intro h⟩)
  · exact Or.inr h
mutual
theorem dp_ext (e : ExT H H1) : ∀ {d : PyData} {x : V}, keyD d = true → Dp K H x d → Dp K H1 x d
  | _, _, _, .non => .non
  | _, _, _, .bl b => .bl b
  | _, _, _, .int i => .int i
  | _, _, _, .str x => .str x
  | _, _, hk, .lst h a => nomatch hk
  | _, _, hk, .tup h a => .tup (ext_t e h) (dps_ext e hk a)
theorem dps_ext (e : ExT H H1) : ∀ {ds : List PyData} {xs : List V}, keyAll ds = true → DpAll K H xs ds → DpAll K H1 xs ds
  | _, _, _, .nil => .nil
  | _, _, hk, .cons a r => .cons (dp_ext e (Bool.and_eq_true_iff.mp hk).1 a) (dps_ext e (Bool.and_eq_true_iff.mp hk).2 r)
end
end
/-! ### a dict by such keys -/
abbrev NkE := NestedKey × Addr × Value
def dicE (P : Program) (w : World) (d : Addr) (xs : List NkE) : HO :=
  .ext fun h => (d == sysModules) = false ∧ ∃ o es ep, h.get? d = some o ∧ o.ExactDict ∧ o.data = .dict es ep ∧ es.toList = xs.map (entryOfKey (nestedKind P w)) ∧ (xs.map (·.1)).Nodup
theorem dicE_ok {P : Program} {w : World} {H : Hp} {h : Heap} {d : Addr} {xs : List NkE} (hd : (d == sysModules) = false) (x : ∃ o es ep, h.get? d = some o ∧ o.ExactDict ∧ o.data = .dict es ep ∧ es.toList = xs.map (entryOfKey (nestedKind P w)) ∧ (xs.map (·.1)).Nodup) : ObjOk P w H h d (dicE P w d xs) := by
  refine ⟨⟨hd, x⟩, ?_, fun h1 h2 ⟨y1, o, es, ep, y2, y3⟩ k => ⟨y1, o, es, ep, k _ y2, y3⟩⟩
  obtain ⟨o, es, ep, h1, _⟩ := x
  exact ⟨o, h1⟩
/-- what is asked of keys and values -/
structure Ckd {α : Type} (kd F : α → PyData) : Prop where
  key : ∀ a, keyD (kd a) = true
  val : ∀ a, keyD (F a) = true
  dep : ∀ a, (nkD (kd a)).depth ≤ 8
  inj : ∀ a b, nkD (kd a) = nkD (kd b) → a = b
/-- a cache: what stands at a key a is F a -/
structure Cch {α : Type} (P : Program) (w : World) (K : PySem.W.Frag) (H : Hp) (d : Addr) (xs : List NkE) (kd F : α → PyData) : Prop where
  at_ : H d = some (dicE P w d xs)
  all : ∀ x ∈ xs, ∃ (a : α) (v : V), x.1 = nkD (kd a) ∧ Dp K H (.ref x.2.1) (kd a) ∧ RelV v x.2.2 ∧ Dp K H v (F a)
section
variable {α : Type} {P : Program} {w : World} {K : PySem.W.Frag} {H H1 : Hp} {d : Addr} {xs : List NkE} {kd F : α → PyData}
theorem Cch.up (c : Cch P w K H d xs kd F) (k : Ckd kd F) (e : ExT H H1) (h : H1 d = H d) : Cch P w K H1 d xs kd F := by
  refine ⟨h.trans c.at_, fun x hx => ?_⟩
  obtain ⟨a, v, y1, y2, y3, y4⟩ := c.all x hx
  exact ⟨a, v, y1, dp_ext e (k.key a) y2, y3, dp_ext e (k.val a) y4⟩
theorem Cch.nt (c : Cch P w K H d xs kd F) : ∀ u, H d = some u → ¬ isT u := fun u h z => by
  rw [c.at_] at h
  cases h
  exact z
theorem Cch.ex (c : Cch P w K H d xs kd F) (k : Ckd kd F) (e : Ex H H1) : Cch P w K H1 d xs kd F := c.up k (ext_of e) ((e _ _ c.at_).trans c.at_.symm)
end
theorem at_some {xs : List NkE} {k : NestedKey} {p : Addr × Value} (h : atKey xs k = some p) : ∃ x ∈ xs, x.1 = k ∧ x.2 = p := by
  unfold atKey at h
  obtain ⟨x, hx, rfl⟩ := Option.map_eq_some_iff.mp h
  exact ⟨x, List.mem_of_find?_eq_some hx, by simpa using List.find?_some hx, rfl⟩
theorem at_stored {xs : List NkE} {k : NestedKey} {b : Addr} {u : Value} : (atKey (storedH xs k b u) k).isSome = true := by
  have h := valueAt_pairsH (storedH xs k b u) k
  rw [pairsH_storedH, valueAt_stored_same] at h
  cases q : atKey (storedH xs k b u) k with
  | none =>
    rw [q] at h
    cases h
  | some p => rfl
theorem stored_mem {xs : List NkE} {k : NestedKey} {b : Addr} {u : Value} {x : NkE} (h : x ∈ storedH xs k b u) : x ∈ xs ∨ x = (k, b, u) ∨ ∃ y ∈ xs, y.1 = k ∧ x = (y.1, y.2.1, u) := by
  unfold storedH at h
  split at h
  · obtain ⟨y, hy, rfl⟩ := List.mem_map.mp h
    unfold putAt
    by_cases c : y.1 = k
    · rw [if_pos c]
      exact Or.inr (Or.inr ⟨y, hy, c, rfl⟩)
    · rw [if_neg c]
      exact Or.inl hy
  · rcases List.mem_append.mp h with h | h
    · exact Or.inl h
    · exact Or.inr (Or.inl (List.mem_singleton.mp h))
theorem stored_len {xs : List NkE} {k : NestedKey} {b : Addr} {u : Value} : (storedH xs k b u).length ≤ xs.length + 1 := by
  unfold storedH
  split
  · rw [List.length_map]
    omega
  · rw [List.length_append, List.length_singleton]
    omega
def rNiC {α : Type} (P : Program) (w : World) (K : PySem.W.Frag) (kd F : α → PyData) : R2 := fun x y H Q => ∃ (b d : Addr) (a : α) (xs : List NkE), x = .ref b ∧ y = .ref d ∧ Dp K H (.ref b) (kd a) ∧ Cch P w K H d xs kd F ∧ Q (.bl (!(atKey xs (nkD (kd a))).isSome)) H
def rIxC {α : Type} (P : Program) (w : World) (K : PySem.W.Frag) (kd F : α → PyData) : R2 := fun x y H Q => ∃ (b d : Addr) (a : α) (xs : List NkE), x = .ref d ∧ y = .ref b ∧ Dp K H (.ref b) (kd a) ∧ Cch P w K H d xs kd F ∧ (atKey xs (nkD (kd a))).isSome = true ∧ ∀ v, Dp K H v (F a) → Q v H
def rSetC {α : Type} (P : Program) (w : World) (K : PySem.W.Frag) (kd F : α → PyData) : TSet := fun o i v H Q => ∃ (b d : Addr) (a : α) (xs : List NkE), o = .ref d ∧ i = .ref b ∧ Dp K H (.ref b) (kd a) ∧ Dp K H v (F a) ∧ Cch P w K H d xs kd F ∧ xs.length ≤ 1000000 ∧
  ∀ H' ys, ys.length ≤ xs.length + 1 → Cch P w K H' d ys kd F → (atKey ys (nkD (kd a))).isSome = true → Ex (del H d) (del H' d) → Q H'
section
variable {α : Type} {X : Cx} {kd F : α → PyData}
theorem roomC (hu : X.A.units + 64 < cLine) : (nestedKind X.prog X.w).room X.A.in1 := by
  show X.A.in1.units + 8 < cLine
  rw [Around.in1_units]
  omega
section
variable {pins : List (Addr × Obj)} {σ : L2.St} {H : Hp} {s : Shared} {d b : Addr} {a : α} {xs : List NkE}
theorem cch_is (I : Inv X pins σ H s) (k : Ckd kd F) (hb : Dp X.K H (.ref b) (kd a)) : (nestedKind X.prog X.w).is s.heap (nkD (kd a)) b := ⟨nest_of I hb (k.key a) rfl, k.dep a⟩
theorem cch_of (I : Inv X pins σ H s) (k : Ckd kd F) (c : Cch X.prog X.w X.K H d xs kd F) : (d == sysModules) = false ∧ s.heap.DictOfH (nestedKind X.prog X.w) d xs := by
  obtain ⟨⟨hd, o, es, ep, y1, y2, y3, y4, y5⟩, _, _⟩ := (show ObjOk X.prog X.w H s.heap d (dicE X.prog X.w d xs) from I.hok _ _ c.at_)
  refine ⟨hd, o, es, ep, y1, y2, y3, y4, fun x hx => ?_, y5⟩
  obtain ⟨a, v, z1, z2, z3, z4⟩ := c.all x hx
  rw [z1]
  exact ⟨nest_of I z2 (k.key a) rfl, k.dep a⟩
end
theorem op_niC (k : Ckd kd F) (hu : X.A.units + 64 < cLine) : OpR X (compareOp .NotIn) (rNiC X.prog X.w X.K kd F) := by
  intro pins s σ H x y v u Q I rx ry h
  obtain ⟨b, d, a, xs, rfl, rfl, hb, c, q⟩ := h
  cases (show v = Value.ref b from rx)
  cases (show u = Value.ref d from ry)
  obtain ⟨hd, hm⟩ := cch_of I k c
  exact wpAny_notIn_heap (roomC hu) (cch_is I k hb) hd hm ⟨.bl (!(atKey xs (nkD (kd a))).isSome), H, I.tok _, rfl, q⟩
theorem ix_C (k : Ckd kd F) (hu : X.A.units + 64 < cLine) : IxR X (rIxC X.prog X.w X.K kd F) := by
  intro value slice pins s σ H x y v u Q I rx ry h hs
  obtain ⟨b, d, a, xs, rfl, rfl, hb, c, hk, q⟩ := h
  cases (show v = Value.ref d from rx)
  cases (show u = Value.ref b from ry)
  obtain ⟨hd, hm⟩ := cch_of I k c
  obtain ⟨p, hp⟩ := Option.isSome_iff_exists.mp hk
  obtain ⟨x, hx, e1, e2⟩ := at_some hp
  obtain ⟨a', v, z1, z2, z3, z4⟩ := c.all x hx
  have ea : a' = a := k.inj _ _ (z1.symm.trans e1)
  subst ea
  rw [e2] at z3
  exact tail_any hm.typeIs PySem.F.slot_dict_getitem.lookup (wpAny_getItem_heap (roomC hu) (cch_is I k hb) hm hp ⟨v, H, I.tok _, z3, q v z4⟩) hs
theorem set_C (k : Ckd kd F) (hu : X.A.units + 64 < cLine) : PSet X (rSetC X.prog X.w X.K kd F) := by
  intro pins s σ H o i v ov iv u Q I ro ri rv h
  obtain ⟨b, d, a, xs, rfl, rfl, hb, hv, c, hl, q⟩ := h
  cases (show ov = Value.ref d from ro)
  cases (show iv = Value.ref b from ri)
  obtain ⟨hd, hm⟩ := cch_of I k c
  refine wpAny_setItem_heap (hsz := by rw [sizeLine_eq]; omega) (roomC hu) (cch_is I k hb) hm fun h' dd' hs => ?_
  obtain ⟨o, es, ep, y1, y2, y3, y4, y5, y6⟩ := dd'
  have eT : ExT H (upd H d (dicE X.prog X.w d (storedH xs (nkD (kd a)) b u))) := ext_upd c.nt
  refine ⟨upd H d (dicE X.prog X.w d (storedH xs (nkD (kd a)) b u)), d_write I (by rw [c.at_]; exact True.intro) hs ⟨o, y1⟩ (dicE_ok hd ⟨o, es, ep, y1, y2, y3, y4, y6⟩), q _ _ stored_len ⟨upd_same, fun x hx => ?_⟩ at_stored ?_⟩
  · rcases stored_mem hx with hx | rfl | ⟨y, hy, e1, rfl⟩
    · obtain ⟨a', v', z1, z2, z3, z4⟩ := c.all x hx
      exact ⟨a', v', z1, dp_ext eT (k.key _) z2, z3, dp_ext eT (k.val _) z4⟩
    · exact ⟨a, v, rfl, dp_ext eT (k.key _) hb, rv, dp_ext eT (k.val _) hv⟩
    · obtain ⟨a', v', z1, z2, z3, z4⟩ := c.all y hy
      have ea : a' = a := k.inj _ _ (z1.symm.trans e1)
      subst ea
      exact ⟨a', v, z1, dp_ext eT (k.key _) z2, rv, dp_ext eT (k.val _) hv⟩
  · rw [del_upd]
    exact Ex.refl _
/-- {} -/
def tNewC (P : Program) (w : World) : TE := fun _ H Q => ∀ p, H p = none → Q (.ref p) (upd H p (dicE P w p []))
theorem pe_newC {pos : Pos} : PE X (.Dict [] [] pos) (tNewC X.prog X.w) := ⟨fun pins s σ H Q I h =>
  wpAny_Dict_empty ⟨.ref s.heap.objs.size, _, I.laid (a := s.heap.objs.size) (o := dicE X.prog X.w s.heap.objs.size []) (t' := s.toks) (fun _ _ q => Heap.get?_push_of_some _ q) (Nat.le_refl _) (by
    obtain ⟨_, hd, xs, r, o, es, ep, h1, h2, h3, h4, h5⟩ := dt_empty (P := X.prog) (w := X.w) (H := H) s.heap I.big
    cases r
    exact dicE_ok hd ⟨o, es, ep, h1, h2, h3, h4, List.nodup_nil⟩), rfl, h _ (I.hok.fresh (Nat.le_refl _))⟩⟩
theorem cch_new {P : Program} {w : World} {K : PySem.W.Frag} {H : Hp} {p : Addr} {kd F : α → PyData} (h : H p = some (dicE P w p [])) : Cch P w K H p [] kd F := ⟨h, fun x hx => nomatch hx⟩
end
end L3


namespace Lw
open PySem PySem.Spec PyProof.Rows L2 Evl L3
def top (i : Nat) : Stmt := PySem.Challenge.pw_latewords_k20_whole_segments_between_two.main.body.getD i (.Pass ⟨0, 0, 0, 0⟩)
abbrev sIsInt : Stmt := top 6
abbrev sBetw : Stmt := top 7
abbrev sBag : Stmt := top 35
abbrev sTake : Stmt := top 36
/-- what is read of the top -/
structure Txt (K : PySem.W.Frag) (mg : Str → Option Value) : Prop where
  isi : mg "isinstance" = none
  isint : ∃ (f : Addr) (fd : FuncData), Fun K "is_integer" "is_integer" sIsInt f fd ∧ Binds K fd ["value"] [] ∧ mg "is_integer" = some (.ref f)
  int : mg "int" = none
  bool : mg "bool" = none
  tuple : mg "tuple" = none
  len : mg "len" = none
  range : mg "range" = none
  str : mg "str" = none
  repr : mg "repr" = none
  all : mg "all" = none
  max : mg "max" = none
  min : mg "min" = none
  abs : mg "abs" = none
/-! ### is_integer -/
def isInD (d : PyData) : Bool := match d with
  | .int _ => true
  | _ => false
def spIsInt (K : PySem.W.Frag) : Sp := fun vs H Q _ => ∃ (x : V) (d : PyData), vs = [x] ∧ Dp K H x d ∧ RetV (.bl (isInD d)) H Q
theorem scIsInt : FnScope ["value"] ["value"] (defScope sIsInt) := ⟨rfl, rfl, rfl, by decide +kernel, rfl, by decide +kernel, by decide +kernel⟩
theorem ok_isInt {P : Program} {w : World} {K : PySem.W.Frag} {mg : Str → Option Value} {base : Heap} {f : Addr} {fd : FuncData} (F : Fun K "is_integer" "is_integer" sIsInt f fd) (T : Txt K mg) : FnOk P w K mg base CX0 0 f fd ["value"] (spIsInt K) := by
  refine ok0 F scIsInt (fun vs H Q E h => ?_) (fun cdv A outer s H vs Q E h => ?_)
  · obtain ⟨x, d, rfl, _⟩ := h
    rfl
  · obtain ⟨x, d, rfl, hd, k⟩ := h
    refine ⟨_, pss_one (ps_ret (pe_and (pe_callB call_isi (by rfl) T.isi (by decide +kernel) (pa_cons (pv 0) (pa_cons (pe_ty "int" T.int) pa_nil)))
      (pe_one (pe_not (pe_callB call_isi (by rfl) T.isi (by decide +kernel) (pa_cons (pv 0) (pa_cons (pe_ty "bool" T.bool) pa_nil))))))), ?_⟩
    refine s_ret (v := .bl (isInD d)) ?_ k
    cases d with
    | int i =>
      cases hd
      exact ev_is (ev_andV (ev_isi (ev_var rfl) (.int i) (kit_int _)) fun _ => ev_notV (ev_isi (ev_var rfl) (.int i) (kit_bool _))) rfl
    | bool b => exact ev_is (ev_andV (b := false) (ev_isi (ev_var rfl) hd (kit_int _)) fun _ => ev_notV (ev_isi (ev_var rfl) hd (kit_bool _))) rfl
    | none => exact ev_is (ev_andV (b := false) (ev_isi (ev_var rfl) hd (kit_int _)) fun z => nomatch z) rfl
    | str b => exact ev_is (ev_andV (b := false) (ev_isi (ev_var rfl) hd (kit_int _)) fun z => nomatch z) rfl
    | list b => exact ev_is (ev_andV (b := false) (ev_isi (ev_var rfl) hd (kit_int _)) fun z => nomatch z) rfl
    | tuple b => exact ev_is (ev_andV (b := false) (ev_isi (ev_var rfl) hd (kit_int _)) fun z => nomatch z) rfl
    | dict b => exact ev_is (ev_andV (b := false) (ev_isi (ev_var rfl) hd (kit_int _)) fun z => nomatch z) rfl
theorem sp_isInt {K : PySem.W.Frag} {x : V} {d : PyData} {H : Hp} (hd : Dp K H x d) : SpV (spIsInt K) [x] H (.bl (isInD d)) :=
  fun H1 e Q q E => ⟨x, d, rfl, dp_ex e hd, fun H2 e2 => q H2 e2⟩
/-! ### between -/
def betwD (d : PyData) (lo hi : Int) : Bool := match d with
  | .int i => decide (lo ≤ i) && decide (i ≤ hi)
  | _ => false
def spBetw (K : PySem.W.Frag) : Sp := fun vs H Q _ => ∃ (x : V) (d : PyData) (lo hi : Int), vs = [x, .int lo, .int hi] ∧ Dp K H x d ∧ RetV (.bl (betwD d lo hi)) H Q
section
variable {P : Program} {w : World} {K : PySem.W.Frag} {mg : Str → Option Value} {base : Heap}
theorem scB : FnScope ["value", "low", "high"] ["value", "low", "high"] (defScope sBetw) := ⟨rfl, rfl, rfl, by decide +kernel, rfl, by decide +kernel, by decide +kernel⟩
theorem ok_betw {f : Addr} {fd : FuncData} (F : Fun K "between" "between" sBetw f fd) (T : Txt K mg) : FnOk P w K mg base CX0 1 f fd ["value", "low", "high"] (spBetw K) := by
  refine F.ok scB (fun vs H Q E h => ?_) (fun cdv A outer s H vs Q E hr h => ?_)
  · obtain ⟨x, d, lo, hi, rfl, _⟩ := h
    rfl
  · obtain ⟨x, d, lo, hi, rfl, hd, k⟩ := h
    obtain ⟨fI, fdI, FI, bI, gI⟩ := T.isint
    have GI : FnOk P w K mg base CX0 0 fI fdI ["value"] (spIsInt K) := ok_isInt FI T
    refine ⟨_, pss_one (ps_ret (pe_and (pe_call GI hr rfl gI FI.kp bI .nil pass0 (pa_cons (pv 0) pa_nil)) (pe_one (pe_chain op_le op_le (pv 1) (pv 0) (pv 2))))), ?_⟩
    refine s_ret (v := .bl (betwD d lo hi)) ?_ k
    cases d with
    | int i =>
      cases hd
      exact ev_is (ev_andV (a := true) (ev_call (ea_cons (ev_var rfl) ea_nil) (sp_isInt (.int i))) fun _ => ev_chain (ev_var rfl) (ev_var rfl) (ev_var rfl)) rfl
    | bool b => exact ev_is (ev_andV (a := false) (b := false) (ev_call (ea_cons (ev_var rfl) ea_nil) (sp_isInt hd)) fun z => nomatch z) rfl
    | none => exact ev_is (ev_andV (a := false) (b := false) (ev_call (ea_cons (ev_var rfl) ea_nil) (sp_isInt hd)) fun z => nomatch z) rfl
    | str b => exact ev_is (ev_andV (a := false) (b := false) (ev_call (ea_cons (ev_var rfl) ea_nil) (sp_isInt hd)) fun z => nomatch z) rfl
    | list b => exact ev_is (ev_andV (a := false) (b := false) (ev_call (ea_cons (ev_var rfl) ea_nil) (sp_isInt hd)) fun z => nomatch z) rfl
    | tuple b => exact ev_is (ev_andV (a := false) (b := false) (ev_call (ea_cons (ev_var rfl) ea_nil) (sp_isInt hd)) fun z => nomatch z) rfl
    | dict b => exact ev_is (ev_andV (a := false) (b := false) (ev_call (ea_cons (ev_var rfl) ea_nil) (sp_isInt hd)) fun z => nomatch z) rfl
theorem sp_betw {x : V} {d : PyData} {lo hi : Int} {H : Hp} (hd : Dp K H x d) : SpV (spBetw K) [x, .int lo, .int hi] H (.bl (betwD d lo hi)) :=
  fun H1 e Q q E => ⟨x, d, lo, hi, rfl, dp_ex e hd, fun H2 e2 => q H2 e2⟩
end
/-- the bag at g: digits, a seed, a count that leaves room for n more draws -/
def BagAt (H : Hp) (g : Addr) (n : Nat) : Prop := ∃ d s c : Int, H g = some (.lst [.int d, .int s, .int c]) ∧ 0 ≤ d ∧ 0 ≤ s ∧ s < 4294967296 ∧ 0 ≤ c ∧ c + 3 * n ≤ 1099511627776
theorem BagAt.ex {H H1 : Hp} {g : Addr} {n : Nat} (b : BagAt H g n) (e : Ex H H1) : BagAt H1 g n := by
  obtain ⟨d, s, c, h, r⟩ := b
  exact ⟨d, s, c, e g _ h, r⟩
theorem BagAt.less {H : Hp} {g : Addr} {n m : Nat} (b : BagAt H g n) (h : m ≤ n) : BagAt H g m := by
  obtain ⟨d, s, c, h1, h2, h3, h4, h5, h6⟩ := b
  exact ⟨d, s, c, h1, h2, h3, h4, h5, by omega⟩
/-- one draw -/
def spTake : Sp := fun vs H Q _ => ∃ (g : Addr) (n : Nat) (m : Int), vs = [.ref g, .int m] ∧ BagAt H g (n + 1) ∧ 1 ≤ m ∧ m ≤ 100000000000000000000 ∧
  ∀ (r : Int) (H' : Hp), 0 ≤ r → r < m → Ex (del H g) (del H' g) → BagAt H' g n → Q (.int r) H'
section
variable {P : Program} {w : World} {K : PySem.W.Frag} {mg : Str → Option Value} {base : Heap}
theorem rc_int {H : Hp} {i : Int} : RC (fun xs H Q => (∃ i, xs = [V.int i] ∧ Q (.int i) H) ∨ ∃ k, xs = [V.bl k] ∧ Q (.int (if k then 1 else 0)) H) [.int i] H (.int i) := fun H1 e Q q => Or.inl ⟨i, rfl, q H1 (Ex.refl H1)⟩
theorem scTa : FnScope ["_law_bag_here", "_law_many", "_law_digit", "_law_found", "_law_reach", "_law_more"] ["_law_bag_here", "_law_many"] (defScope sTake) := ⟨rfl, rfl, rfl, by decide +kernel, rfl, by decide +kernel, by decide +kernel⟩
theorem ok_take {f : Addr} {fd : FuncData} (F : Fun K "_law_take" "_law_take" sTake f fd) (T : Txt K mg) : FnOk P w K mg base CX0 1 f fd ["_law_bag_here", "_law_many"] spTake := by
  refine F.ok scTa (fun vs H Q E h => ?_) (fun cdv A outer s H vs Q E hr h => ?_)
  · obtain ⟨g, n, m, rfl, _⟩ := h
    rfl
  · obtain ⟨g, n, m, rfl, ⟨d, s, c, hg, hd, hs0, hs1, hc0, hc1⟩, hm1, hm2, k⟩ := h
    refine ⟨_, pss_cons (ps_if (pt_cmpR op_gt (pe_ix ix_list (pv 0) pe_int (fun _ _ => rfl)) pe_int (nomark _))
        (pss_cons (ps_set (i := 2) scTa.nd rfl (Or.inl rfl) (pe_op op_mod (pe_callTy call_int1 (by rfl) T.int PyProof.Rows.boot_int (pa_cons (pe_ix ix_list (pv 0) pe_int (fun _ _ => rfl)) pa_nil)) (pv 1)))
        (pss_cons (ps_asg (pe_op op_fdivW (pe_ix ix_list (pv 0) pe_int (fun _ _ => rfl)) (pv 1)) (pg_sub (pv 0) pe_int set_list))
        (pss_one (ps_ret (pv 2))))) pss_nil)
      (pss_cons (ps_asg (pe_tup (pa_cons pe_int (pa_cons pe_int pa_nil))) (pg_tup rfl (pgs_cons (pg_name (i := 3) scTa.nd rfl (Or.inl rfl)) (pgs_cons (pg_name (i := 4) scTa.nd rfl (Or.inl rfl)) pgs_nil))))
      (pss_cons (ps_while PassesOwn.never (pt_cmpR op_lt (pv 4) (pv 1) (nomark _))
        (pss_cons (ps_asg (pe_op op_add (pe_ix ix_list (pv 0) pe_int (fun _ _ => rfl)) pe_int) (pg_sub (pv 0) pe_int set_list))
        (pss_cons (ps_asg (pe_op op_mod (pe_callTy call_int1 (by rfl) T.int PyProof.Rows.boot_int (pa_cons (pe_op op_add (pe_op op_add (pe_op op_mul (pe_ix ix_list (pv 0) pe_int (fun _ _ => rfl)) pe_int)
            (pe_op op_mul (pe_op op_mul pe_int (pe_ix ix_list (pv 0) pe_int (fun _ _ => rfl))) (pe_ix ix_list (pv 0) pe_int (fun _ _ => rfl)))) pe_int) pa_nil)) pe_int) (pg_sub (pv 0) pe_int set_list))
        (pss_cons (ps_set (i := 5) scTa.nd rfl (Or.inl rfl) (pe_op op_mod (pe_callTy call_int1 (by rfl) T.int PyProof.Rows.boot_int (pa_cons (pe_op op_mul (pe_op op_fdiv (pe_ix ix_list (pv 0) pe_int (fun _ _ => rfl)) pe_int)
            (pe_op op_add (pe_op op_fdiv (pe_ix ix_list (pv 0) pe_int (fun _ _ => rfl)) pe_int) (pe_ix ix_list (pv 0) pe_int (fun _ _ => rfl)))) pa_nil)) pe_int))
        (pss_cons (ps_set (i := 3) scTa.nd rfl (Or.inl rfl) (pe_op op_add (pe_op op_mul (pv 3) pe_int) (pe_op op_mod (pe_callTy call_int1 (by rfl) T.int PyProof.Rows.boot_int (pa_cons (pe_op op_fdiv (pv 5) pe_int) pa_nil)) pe_int)))
        (pss_one (ps_set (i := 4) scTa.nd rfl (Or.inl rfl) (pe_op op_mul (pv 4) pe_int))))))))
      (pss_one (ps_ret (pe_op op_mod (pv 3) (pv 1)))))), ?_⟩
    refine q_when (b := decide (0 < d)) (et_test (ev_op (ev_op (ev_var rfl) ev_c (rv_ixL (sq_of hg) (atI_nat (j := 0) rfl))) ev_c rv_I0)) (fun hb H1 e1 => ?_) (fun hb H1 e1 => ?_)
    · have hd1 : 0 < d := of_decide_eq_true hb
      refine q_asg (ev_op (ev_cb (ea_cons (ev_op (ev_var rfl) ev_c (rv_ixL (sq_of (e1 g _ hg)) (atI_nat (j := 0) rfl))) ea_nil) rc_int) (ev_var rfl) (rv_I (show 0 < m by omega))) fun H2 e2 => ?_
      have hg2 : H2 g = some (.lst [.int d, .int s, .int c]) := e2 g _ (e1 g _ hg)
      refine q_setL (j := 0) hg2 (ev_op (ev_op (ev_var rfl) ev_c (rv_ixL (sq_of hg2) (atI_nat (j := 0) rfl))) (ev_var rfl) (rv_I (wide_div (b := 100) (show 0 < m by omega) (by omega) (by decide) (by decide)))) (ev_var rfl) ev_c (by show 0 < 3; decide) fun H3 e3 => ?_
      refine s_ret (ev_var rfl) fun H4 e4 => ?_
      refine k (d % m) H4 (Int.emod_nonneg _ (by omega)) (Int.emod_lt_of_pos _ (by omega)) ?_ ⟨d / m, s, c, e4 g _ upd_same, Int.ediv_nonneg hd (by omega), hs0, hs1, hc0, by omega⟩
      refine (ex_del ((e1.trans e2).trans e3)).trans ?_
      rw [← del_upd (H := H3) (l := g) (o := .lst (List.set [V.int d, V.int s, V.int c] 0 (V.int (d / m))))]
      exact ex_del e4
    · have hd1 : d = 0 := by
        have z := of_decide_eq_false hb
        omega
      refine ⟨by show 2 ≤ sizeLine; decide, fun pt hpt => ⟨pt, _, rfl, st_of upd_same, rfl, _, _, rfl, _, _, rfl, rfl, ?_⟩⟩
      have e1 : Ex H (upd H1 pt (.tup [.int 0, .int 1])) := e1.trans (Ex.new hpt)
      refine q_while (fun j σ' H' => ∃ (i : Nat) (fd : Int) (o2 o5 : Option V) (s' c' : Int), j = 3 - i ∧ i ≤ 3 ∧ σ' = [some (.ref g), some (.int m), o2, some (.int fd), some (.int (33554432 ^ i)), o5] ∧
          Ex (del H g) (del H' g) ∧ H' g = some (.lst [.int d, .int s', .int c']) ∧ 0 ≤ s' ∧ s' < 4294967296 ∧ 0 ≤ c' ∧ c' ≤ c + i) 3
        ⟨0, 0, none, none, s, c, rfl, by decide, rfl, ex_del e1, e1 g _ hg, hs0, hs1, hc0, by omega⟩ ?_
      rintro j σ' H' ⟨i, fd, o2, o5, s', c', rfl, hi, rfl, ex, hg', b1, b2, b3, b4⟩
      refine ⟨decide ((33554432 : Int) ^ i < m), et_test (ev_op (ev_var rfl) (ev_var rfl) rv_I0), fun hb2 H2 e2 => ?_, fun hb2 H2 e2 => ?_⟩
      · have hlt : (33554432 : Int) ^ i < m := of_decide_eq_true hb2
        have hi3 : i < 3 := by
          match i, hi, hlt with
          | 0, _, _ => decide
          | 1, _, _ => decide
          | 2, _, _ => decide
          | 3, _, hlt =>
            exfalso
            have z : (33554432 : Int) ^ 3 = 37778931862957161709568 := by decide
            omega
          | i + 4, hi, _ => omega
        have hg2 : H2 g = some (.lst [.int d, .int s', .int c']) := e2 g _ hg'
        refine ⟨_, fun σ2 H3 q => q, ?_⟩
        refine q_setL (j := 2) hg2 (ev_op (ev_op (ev_var rfl) ev_c (rv_ixL (sq_of hg2) (atI_nat (j := 2) rfl))) ev_c rv_I0) (ev_var rfl) ev_c (by show 2 < 3; decide) fun H3 e3 => ?_
        have hg3 : upd H3 g (.lst [.int d, .int s', .int (c' + 1)]) g = some (.lst [.int d, .int s', .int (c' + 1)]) := upd_same
        have ix0 : ∀ {σ : L2.St} {HH : Hp} {xs : List V} {q : Nat} {v : V}, σ[0]? = some (some (V.ref g)) → HH g = some (.lst xs) → xs[q]? = some v → Ev (tOp (rIxL K) (tVar 0) (tC (.int (q : Int)))) σ HH v :=
          fun h1 h2 h3 => ev_op (ev_var h1) ev_c (rv_ixL (sq_of h2) (atI_nat h3))
        obtain ⟨s2, hs2⟩ : ∃ s2, s2 = (s' * 40014 + 7919 * (c' + 1) * (c' + 1) + 83) % 2147483563 := ⟨_, rfl⟩
        have hs2a : 0 ≤ s2 := by rw [hs2]; exact Int.emod_nonneg _ (by decide)
        have hs2b : s2 < 2147483563 := by rw [hs2]; exact Int.emod_lt_of_pos _ (by decide)
        refine q_setL (j := 1) (v := .int s2) hg3 (ev_is ?_ (congrArg V.int hs2.symm)) (ev_var rfl) ev_c (by show 1 < 3; decide) fun H4 e4 => ?_
        · refine ev_op (ev_cb (ea_cons (ev_op (ev_op (ev_op (ix0 (q := 1) rfl hg3 rfl) ev_c (rv_I (Or.inr (by decide)))) (ev_op (ev_op ev_c (ix0 (q := 2) rfl hg3 rfl) (rv_I (Or.inl (by decide)))) (ix0 (q := 2) rfl hg3 rfl) (rv_I (Or.inr (by omega)))) rv_I0) ev_c rv_I0) ea_nil) rc_int) ev_c (rv_I (by show (0 : Int) < 2147483563; decide))
        have hg4 : upd H4 g (.lst [.int d, .int s2, .int (c' + 1)]) g = some (.lst [.int d, .int s2, .int (c' + 1)]) := upd_same
        refine q_asg (v := .int ((s2 / 7 * (s2 / 131 + (c' + 1))) % 2147483399)) ?_ fun H5 e5 => ?_
        · refine ev_op (ev_cb (ea_cons (ev_op (ev_op (ix0 (q := 1) rfl hg4 rfl) ev_c (rv_I ⟨by decide, by decide⟩)) (ev_op (ev_op (ix0 (q := 1) rfl hg4 rfl) ev_c (rv_I ⟨by decide, by decide⟩)) (ix0 (q := 2) rfl hg4 rfl) rv_I0) (rv_I (Or.inl (by omega)))) ea_nil) rc_int) ev_c (rv_I (by show (0 : Int) < 2147483399; decide))
        refine q_asg (ev_op (ev_op (ev_var rfl) ev_c (rv_I (Or.inr (by decide)))) (ev_op (ev_cb (ea_cons (ev_op (ev_var rfl) ev_c (rv_I ⟨by decide, by decide⟩)) ea_nil) rc_int) ev_c (rv_I (by show (0 : Int) < 33554432; decide))) rv_I0) fun H6 e6 => ?_
        refine s_asg (ev_op (ev_var rfl) ev_c (rv_I (Or.inr (by decide)))) fun H7 e7 => ?_
        refine ⟨3 - (i + 1), by omega, i + 1, fd * 33554432 + s2 / 7 * (s2 / 131 + (c' + 1)) % 2147483399 / 64 % 33554432, o2, some (.int (s2 / 7 * (s2 / 131 + (c' + 1)) % 2147483399)), s2, c' + 1, rfl, by omega, ?_, ?_, e7 g _ (e6 g _ (e5 g _ hg4)), hs2a, by omega, by omega, by omega⟩
        · rw [Int.pow_succ] <;> rfl
        · have q1 : Ex (del H' g) (del H3 g) := ex_del (e2.trans e3)
          have q2 : Ex (del H3 g) (del H4 g) := by
            rw [← del_upd (H := H3) (l := g) (o := .lst (List.set [V.int d, V.int s', V.int c'] 2 (V.int (c' + 1))))]
            exact ex_del e4
          have q3 : Ex (del H4 g) (del H7 g) := by
            rw [← del_upd (H := H4) (l := g) (o := .lst [.int d, .int s2, .int (c' + 1)])]
            exact ex_del ((e5.trans e6).trans e7)
          exact ((ex.trans q1).trans q2).trans q3
      · refine s_ret (ev_op (ev_var rfl) (ev_var rfl) (rv_I (show 0 < m by omega))) fun H3 e3 => ?_
        exact k (fd % m) H3 (Int.emod_nonneg _ (by omega)) (Int.emod_lt_of_pos _ (by omega)) (ex.trans (ex_del (e2.trans e3))) ⟨d, s', c', e3 g _ (e2 g _ hg'), hd, b1, b2, b3, by omega⟩
end

/-- the bag of the j-th cell -/
def spBag (K : PySem.W.Frag) : Sp := fun vs H Q _ => ∃ (a : Addr) (ns : List Int) (j : Nat), vs = [.ref a, .int (j : Int)] ∧ SqL K H a (ns.map V.int) ∧ j ≤ 63 ∧
  ∀ p H2, H p = none → Ex H (del H2 p) → BagAt H2 p 100000000000 → Q (.ref p) H2
section
variable {P : Program} {w : World} {K : PySem.W.Frag} {mg : Str → Option Value} {base : Heap}
theorem rc_intb {H : Hp} {b : Bool} : RC (fun xs H Q => (∃ i, xs = [V.int i] ∧ Q (.int i) H) ∨ ∃ k, xs = [V.bl k] ∧ Q (.int (if k then 1 else 0)) H) [.bl b] H (.int (if b then 1 else 0)) := fun H1 e Q q => Or.inr ⟨b, rfl, q H1 (Ex.refl H1)⟩
theorem rc_abs {H : Hp} {i : Int} : RC (fun xs H Q => ∃ i, xs = [V.int i] ∧ Q (.int (if i < 0 then -i else i)) H) [.int i] H (.int (if i < 0 then -i else i)) := fun H1 e Q q => ⟨i, rfl, q H1 (Ex.refl H1)⟩
theorem scBa : FnScope ["_law_script", "_law_at", "_law_cell", "_law_digits"] ["_law_script", "_law_at"] (defScope sBag) := ⟨rfl, rfl, rfl, by decide +kernel, rfl, by decide +kernel, by decide +kernel⟩
theorem ok_bag {f : Addr} {fd : FuncData} (F : Fun K "_law_bag" "_law_bag" sBag f fd) (T : Txt K mg) (hA : mg "abs" = none) : FnOk P w K mg base CX0 1 f fd ["_law_script", "_law_at"] (spBag K) := by
  refine F.ok scBa (fun vs H Q E h => ?_) (fun cdv A outer s H vs Q E hr h => ?_)
  · obtain ⟨a, ns, j, rfl, _⟩ := h
    rfl
  · obtain ⟨a, ns, j, rfl, hs, hj, k⟩ := h
    refine ⟨_, pss_cons (ps_set (i := 2) scBa.nd rfl (Or.inl rfl) (pe_ifExp (pt_cmpR op_lt (pv 1) (pe_callB call_len_seq (by rfl) T.len PySem.boot_len (pa_cons (pv 0) pa_nil)) (nomark _)) (pe_ix ix_list (pv 0) (pv 1) (fun _ _ => rfl)) pe_int))
      (pss_cons (ps_set (i := 3) scBa.nd rfl (Or.inl rfl) (pe_op op_mul (pe_callB call_abs (by rfl) hA PyProof.Rows.boot_abs (pa_cons (pv 2) pa_nil))
        (pe_callTy call_int1 (by rfl) T.int PyProof.Rows.boot_int (pa_cons (pe_cmpR op_ge (pe_callB call_abs (by rfl) hA PyProof.Rows.boot_abs (pa_cons (pv 2) pa_nil)) (pe_op op_pow pe_int pe_int) (nomark _)) pa_nil))))
      (pss_one (ps_ret (pe_lst (pa_cons (pv 3) (pa_cons (pe_op op_add (pe_op op_add (pe_op op_mod (pe_callTy call_int1 (by rfl) T.int PyProof.Rows.boot_int (pa_cons (pv 2) pa_nil)) pe_int) (pe_op op_mul pe_int (pv 1))) pe_int)
        (pa_cons pe_int pa_nil))))))), ?_⟩
    obtain ⟨cell, hcell⟩ : ∃ cell : Int, cell = ns.getD j 0 := ⟨_, rfl⟩
    have evl : Ev (tCB (rLenS K) (tCons (tVar 0) tNil)) (start ["_law_script", "_law_at", "_law_cell", "_law_digits"] [V.ref a, V.int (j : Int)]) H (.int (ns.length : Int)) := by
      have z := ev_len (K := K) (σ := start ["_law_script", "_law_at", "_law_cell", "_law_digits"] [V.ref a, V.int (j : Int)]) (H := H) (ta := tVar 0) (ev_var rfl) hs
      rw [List.length_map] at z
      exact z
    refine q_asg (v := .int cell) (ev_if (b := decide ((j : Int) < (ns.length : Int))) (et_test (ev_op (ev_var rfl) evl rv_I0)) (fun hb => ?_) fun hb => ?_) fun H1 e1 => ?_
    · have hlt := of_decide_eq_true hb
      refine ev_op (ev_var rfl) (ev_var rfl) (rv_ixL hs (atI_nat ?_))
      rw [List.getElem?_map, hcell, List.getD_eq_getElem?_getD]
      have hlt2 : j < ns.length := by omega
      have e : ns[j]? = some ns[j] := by simp [hlt2]
      rw [e] <;> rfl
    · have hge := of_decide_eq_false hb
      have e : ns[j]? = none := by simp; omega
      have e0 : cell = 0 := by rw [hcell, List.getD_eq_getElem?_getD, e] <;> rfl
      rw [e0]
      exact ev_c
    obtain ⟨ab, hab⟩ : ∃ ab : Int, ab = if cell < 0 then -cell else cell := ⟨_, rfl⟩
    have ab0 : 0 ≤ ab := by rw [hab]; split <;> omega
    obtain ⟨bb, hbb⟩ : ∃ bb : Bool, bb = decide ((10 : Int) ^ (18 : Int).toNat ≤ ab) := ⟨_, rfl⟩
    refine q_asg (v := .int (ab * (if bb then 1 else 0))) ?_ fun H2 e2 => ?_
    · have ea : ∀ {H' : Hp}, Ev (tCB (fun xs H Q => ∃ i, xs = [V.int i] ∧ Q (.int (if i < 0 then -i else i)) H) (tCons (tVar 2) tNil)) ((start ["_law_script", "_law_at", "_law_cell", "_law_digits"] [V.ref a, V.int (j : Int)]).set 2 (some (.int cell))) H' (.int ab) := fun {H'} => by
        rw [hab]
        exact ev_cb (ea_cons (ev_var rfl) ea_nil) rc_abs
      refine ev_op ea (ev_cb (ea_cons (ev_is (ev_op ea (ev_op ev_c ev_c (rv_I ⟨by decide, by decide, by decide⟩)) rv_I0) (congrArg V.bl hbb.symm)) ea_nil) rc_intb) (rv_I (Or.inr ?_))
      cases bb <;> exact ⟨by decide, by decide⟩
    refine s_retL (el_lst (ea_cons (ev_var rfl) (ea_cons (ev_op (ev_op (ev_op (ev_cb (ea_cons (ev_var rfl) ea_nil) rc_int) ev_c (rv_I (by show (0 : Int) < 2147483563; decide))) (ev_op ev_c (ev_var rfl) (rv_I (Or.inl ⟨by decide, by decide⟩))) rv_I0) ev_c rv_I0) (ea_cons ev_c ea_nil))) (by show 3 ≤ 100000; decide)) fun p H3 hp e3 h3 => ?_
    have q1 := Int.emod_nonneg cell (b := 2147483563) (by decide)
    have q2 := Int.emod_lt_of_pos cell (b := 2147483563) (by decide)
    have hp0 : H p = none := fresh_back (e1.trans e2) hp
    refine k p H3 hp0 (ex_beside ((e1.trans e2).trans e3) hp0) ⟨_, _, _, h3, ?_, by omega, by omega, by omega, by omega⟩
    cases bb
    · show 0 ≤ ab * 0
      omega
    · show 0 ≤ ab * 1
      omega
end
theorem take_go {σ : L2.St} {H : Hp} {Q : VK} {E : XK} {g : Addr} {n : Nat} {m : Int} {tg tm : TE} (h1 : Ev tg σ H (.ref g)) (h2 : Ev tm σ H (.int m)) (b : BagAt H g (n + 1)) (m1 : 1 ≤ m) (m2 : m ≤ 100000000000000000000)
    (k : ∀ (r : Int) (H' : Hp), 0 ≤ r → r < m → Ex (del H g) (del H' g) → BagAt H' g n → Q (.int r) H') : tCall spTake [] E (tCons tg (tCons tm tNil)) σ H Q :=
  h1 H (Ex.refl H) _ fun H1 e1 => h2 H1 e1 _ fun H2 e2 => ⟨g, n, m, rfl, b.ex (e1.trans e2), m1, m2, fun r H' r0 r1 ex bg => k r H' r0 r1 ((ex_del (e1.trans e2)).trans ex) bg⟩
/-- a drawn item of a short list -/
theorem atI_mem {xs : List V} {r : Int} (h0 : 0 ≤ r) (h1 : r < (xs.length : Int)) : ∃ v, atI xs r = some v ∧ v ∈ xs := by
  obtain ⟨j, rfl⟩ : ∃ j : Nat, r = (j : Int) := ⟨r.toNat, by omega⟩
  have hj : j < xs.length := by omega
  have e : xs[j]? = some xs[j] := by simp [hj]
  exact ⟨xs[j], atI_nat e, List.getElem_mem hj⟩
theorem bag_ne {H : Hp} {g p : Addr} {n : Nat} (b : BagAt H g n) (h : H p = none) : p ≠ g := fun z => by
  obtain ⟨d, s, c, hg, _⟩ := b
  rw [z, hg] at h
  cases h
theorem del_at {H H' : Hp} {g p : Addr} {o : HO} (e : Ex (del H g) (del H' g)) (h : H p = some o) (n : p ≠ g) : H' p = some o := by
  have z : (del H g) p = some o := by rw [del_ne n]; exact h
  have z2 := e p o z
  rw [del_ne n] at z2
  exact z2
theorem del_fresh {H H' : Hp} {g p : Addr} (e : Ex (del H g) (del H' g)) (h : H' p = none) (n : p ≠ g) : H p = none := by
  cases q : H p with
  | none => rfl
  | some o =>
    rw [del_at e q n] at h
    cases h
end Lw

namespace Lw
open PySem PySem.Spec PyProof.Rows L2 Evl L3 ClX
abbrev sIniB : Stmt := inClass (top 2) 0
abbrev sCkS : Stmt := top 31
abbrev sPI : Stmt := inClass (top 29) 1
abbrev sPEq : Stmt := inClass (top 29) 2
def polF (h : Str) (e q : Int) : List (Str × V) := [("hold", .str h), ("every", .int e), ("quick", .int q)]
def polG (y0 y1 y2 : V) : List (Str × V) := [("hold", y0), ("every", y1), ("quick", y2)]
def PolAt (CP : Addr) (H : Hp) (a : Addr) (h : Str) (e q : Int) : Prop := ∃ dx, H a = some (.ins CP dx (polF h e q))
theorem PolAt.ex {CP a : Addr} {H H1 : Hp} {h : Str} {e q : Int} (p : PolAt CP H a h e q) (ex : Ex H H1) : PolAt CP H1 a h e q := by
  obtain ⟨dx, hd⟩ := p
  exact ⟨dx, ex _ _ hd⟩
/-- what is read of the class Policy -/
structure Pol (K : PySem.W.Frag) (mg : Str → Option Value) (CP : Addr) : Prop where
  hm : mg "Policy" = some (.ref CP)
  k : Kls K CP
  nh : NoAttr K CP "hold"
  ne : NoAttr K CP "every"
  nq : NoAttr K CP "quick"
  hold : ∃ mc a, CRead K CP mc ∧ CVal K CP mc "HOLDS" (.ref a) (.ref a) ∧ ∀ H, SqT K H a ([("off" : Str), "partial", "all"].map V.str)
section
variable {P : Program} {w : World} {K : PySem.W.Frag} {mg : Str → Option Value} {base : Heap}
theorem scIniB : FnScope ["self", "name"] ["self", "name"] (defScope sIniB) := ⟨rfl, rfl, rfl, by decide +kernel, rfl, by decide +kernel, by decide +kernel⟩
theorem ok_iniB {f C : Addr} {fd : FuncData} (F : Fun K "__init__" "BadSetting.__init__" sIniB f fd) : FnOk P w K mg base CX0 1 f fd ["self", "name"] (spErr K C "name") := by
  refine F.ok scIniB (fun vs H Q E h => ?_) (fun cdv A outer s H vs Q E hr h => ⟨_, pss_one (ps_ost (pv 0) (pv 1)), ?_⟩)
  · obtain ⟨a, v, rfl, _⟩ := h
    rfl
  · exact s_ini h (by obtain ⟨a, v, rfl, _⟩ := h; rfl)
/-! ### check_size, of any value -/
def sizeOk (d : PyData) : Bool := betwD d 1 1000000000000000000
def spCkS (K : PySem.W.Frag) (CB : Addr) : Sp := fun vs H Q E => ∃ (y : V) (d : PyData), vs = [y] ∧ Dp K H y d ∧ (sizeOk d = true → RetV .non H Q) ∧ (sizeOk d = false → ErrV CB "name" (.str "size") H E)
theorem scCk : FnScope ["size"] ["size"] (defScope sCkS) := ⟨rfl, rfl, rfl, by decide +kernel, rfl, by decide +kernel, by decide +kernel⟩
theorem ok_ckS {f fB CB fI : Addr} {fd fdB fdI : FuncData} (F : Fun K "check_size" "check_size" sCkS f fd) (T : Txt K mg) (hS : ∃ t, mg "MOST_SIZE" = some (.int 1000000000000000000 t)) (TB : ErC P w K mg base "BadSetting" "name" CB fI fdI)
    (FB : Fun K "between" "between" sBetw fB fdB) (bB : Binds K fdB ["value", "low", "high"] []) (gB : mg "between" = some (.ref fB)) (GB : FnOk P w K mg base CX0 1 fB fdB ["value", "low", "high"] (spBetw K)) :
    FnOk P w K mg base (L2.CX P w) 3 f fd ["size"] (spCkS K CB) := by
  obtain ⟨tS, hS⟩ := hS
  refine F.okX scCk (fun vs H Q E h => ?_) (fun cdv A outer s H vs Q E hr h => ?_)
  · obtain ⟨y, d, rfl, _⟩ := h
    rfl
  · obtain ⟨y, d, rfl, hd, k, ke⟩ := h
    have hr1 : Room 1 _ := hr.mono (by decide)
    refine ⟨_, pss_one (ps_if (pt_not (pt_val (pe_call GB hr1 rfl gB FB.kp bB .nil pass0 (pa_cons (pv 0) (pa_cons pe_int (pa_cons (pe_glob (v := .int 1000000000000000000) rfl hS ⟨_, rfl⟩) pa_nil))))))
      (pss_one (ps_rz rfl TB hr (takes_of rfl rfl rfl rfl) (by exact pa_cons pe_str pa_nil))) pss_nil), ?_⟩
    refine s_when (b := !sizeOk d) (et_not (et_B (ev_call (ea_cons (ev_var rfl) (ea_cons ev_c (ea_cons ev_c ea_nil))) (sp_betw hd)))) (fun hb H1 e1 => ?_) fun hb H1 e1 => ?_
    · exact s_rz ev_c TB.oex TB.no ((ke (by simpa using hb)).go e1)
    · exact k (by simpa using hb) H1 e1
/-! ### Policy(..), of any values -/
def holdD (d : PyData) : Bool := [("off" : Str), "partial", "all"].any fun s => PyData.eqv (.str s) d
def dueP (d0 d1 d2 : PyData) : Option Str := if holdD d0 = true then (if betwD d1 0 9 = true then (if betwD d2 0 4 = true then none else some "quick") else some "every") else some "hold"
abbrev PIps : List Str := ["self", "hold", "every", "quick"]
def spPI (K : PySem.W.Frag) (CP CB : Addr) : Sp := fun vs H Q E => ∃ (x dx : Addr) (y0 y1 y2 : V) (d0 d1 d2 : PyData), vs = [.ref x, y0, y1, y2] ∧ H x = some (.ins CP dx []) ∧ Dp K H y0 d0 ∧ Dp K H y1 d1 ∧ Dp K H y2 d2 ∧ SeqAt.shaped d0 = true ∧
  (dueP d0 d1 d2 = none → ∀ H', Ex (del H x) (del H' x) → H' x = some (.ins CP dx (polG y0 y1 y2)) → Q .non H') ∧ ∀ nm, dueP d0 d1 d2 = some nm → ErrV CB "name" (.str nm) H E
theorem scPI : FnScope PIps PIps (defScope sPI) := ⟨rfl, rfl, rfl, by decide +kernel, rfl, by decide +kernel, by decide +kernel⟩
theorem rv_niD {x : V} {d : PyData} {t : Addr} {ss : List Str} {H : Hp} (hd : Dp K H x d) (sd : SeqAt.shaped d = true) (ht : SqT K H t (ss.map V.str)) (hc : ∀ s ∈ ss, (PyData.str s).canLay0 = true) : RV (rNiD K) x (.ref t) H (.bl (!(ss.any fun s => PyData.eqv (.str s) d))) := fun H1 e Q q =>
  ⟨d, t, ss, rfl, dp_ex e hd, sd, ex_t e ht, hc, q H1 (Ex.refl H1)⟩
theorem ok_PI {f fB CB CP fI : Addr} {fd fdB fdI : FuncData} (F : FunD K "__init__" "Policy.__init__" (defArgs sPI) (defBody sPI) (defScope sPI) [.str "all"] [("every", .int 2), ("quick", .int 0)] f fd) (T : Pol K mg CP)
    (hE : ∃ t, mg "MOST_EVERY" = some (.int 9 t)) (hQ : ∃ t, mg "MOST_QUICK" = some (.int 4 t)) (TB : ErC P w K mg base "BadSetting" "name" CB fI fdI)
    (FB : Fun K "between" "between" sBetw fB fdB) (bB : Binds K fdB ["value", "low", "high"] []) (gB : mg "between" = some (.ref fB)) (GB : FnOk P w K mg base CX0 1 fB fdB ["value", "low", "high"] (spBetw K)) :
    FnOk P w K mg base (L2.CX P w) 3 f fd PIps (spPI K CP CB) := by
  obtain ⟨tE, hE⟩ := hE
  obtain ⟨tQ, hQ⟩ := hQ
  obtain ⟨mc, aH, rd, cv, sH⟩ := T.hold
  refine F.ok scPI (fun vs H Q E h => ?_) (fun cdv A outer s H vs Q E hr h => ?_)
  · obtain ⟨x, dx, y0, y1, y2, d0, d1, d2, rfl, _⟩ := h
    rfl
  · obtain ⟨x, dx, y0, y1, y2, d0, d1, d2, rfl, hx, h0, h1, h2, sd, k, ke⟩ := h
    have hr1 : Room 1 _ := hr.mono (by decide)
    refine ⟨_, pss_cons (ps_if (pt_cmpR (op_notInD hr.units) (pv 1) (pe_cval (pe_glob (v := .ref CP) rfl T.hm rfl)) rfl) (pss_one (ps_rz rfl TB hr (takes_of rfl rfl rfl rfl) (by exact pa_cons pe_str pa_nil))) pss_nil)
      (pss_cons (ps_if (pt_not (pt_val (pe_call GB hr1 rfl gB FB.kp bB .nil pass0 (pa_cons (pv 2) (pa_cons pe_int (pa_cons (pe_glob (v := .int 9) rfl hE ⟨_, rfl⟩) pa_nil)))))) (pss_one (ps_rz rfl TB hr (takes_of rfl rfl rfl rfl) (by exact pa_cons pe_str pa_nil))) pss_nil)
      (pss_cons (ps_if (pt_not (pt_val (pe_call GB hr1 rfl gB FB.kp bB .nil pass0 (pa_cons (pv 3) (pa_cons pe_int (pa_cons (pe_glob (v := .int 4) rfl hQ ⟨_, rfl⟩) pa_nil)))))) (pss_one (ps_rz rfl TB hr (takes_of rfl rfl rfl rfl) (by exact pa_cons pe_str pa_nil))) pss_nil)
      (pss_cons (ps_fld (pv 0) (pv 1) rfl) (pss_cons (ps_fld (pv 0) (pv 2) rfl) (pss_one (ps_fld (pv 0) (pv 3) rfl)))))), ?_⟩
    refine q_when (b := !holdD d0) (et_test (ev_op (ev_var rfl) (ev_cval ev_c rd cv) (rv_niD h0 sd (sH _) (by decide +kernel)))) (fun hb H1 e1 => ?_) fun hb H1 e1 => ?_
    · refine s_rz ev_c TB.oex TB.no ((ke "hold" ?_).go e1)
      have z : holdD d0 = false := by simpa using hb
      unfold dueP
      rw [if_neg (by rw [z]; simp)]
    have z0 : holdD d0 = true := by simpa using hb
    refine q_when (b := !betwD d1 0 9) (et_not (et_B (ev_call (ea_cons (ev_var rfl) (ea_cons ev_c (ea_cons ev_c ea_nil))) (sp_betw (dp_ex e1 h1))))) (fun hb2 H2 e2 => ?_) fun hb2 H2 e2 => ?_
    · refine s_rz ev_c TB.oex TB.no ((ke "every" ?_).go (e1.trans e2))
      have z : betwD d1 0 9 = false := by simpa using hb2
      unfold dueP
      rw [if_pos z0, if_neg (by rw [z]; simp)]
    have z1 : betwD d1 0 9 = true := by simpa using hb2
    refine q_when (b := !betwD d2 0 4) (et_not (et_B (ev_call (ea_cons (ev_var rfl) (ea_cons ev_c (ea_cons ev_c ea_nil))) (sp_betw (dp_ex (e1.trans e2) h2))))) (fun hb3 H3 e3 => ?_) fun hb3 H3 e3 => ?_
    · refine s_rz ev_c TB.oex TB.no ((ke "quick" ?_).go ((e1.trans e2).trans e3))
      have z : betwD d2 0 4 = false := by simpa using hb3
      unfold dueP
      rw [if_pos z0, if_pos z1, if_neg (by rw [z]; simp)]
    have z2 : betwD d2 0 4 = true := by simpa using hb3
    have ex := (e1.trans e2).trans e3
    refine ⟨_, rfl, _, rfl, x, CP, dx, _, rfl, ex _ _ hx, T.k.cl, T.nh, by decide, ?_⟩
    refine ⟨_, rfl, _, rfl, x, CP, dx, _, rfl, upd_same, T.k.cl, T.ne, Nat.lt_of_le_of_lt (putF_len _ _ _) (by decide), ?_⟩
    refine ⟨_, rfl, _, rfl, x, CP, dx, _, rfl, upd_same, T.k.cl, T.nq, Nat.lt_of_le_of_lt (Nat.le_trans (putF_len _ _ _) (Nat.succ_le_succ (putF_len _ _ _))) (by decide), ?_⟩
    refine k ?_ _ ?_ upd_same
    · unfold dueP
      rw [if_pos z0, if_pos z1, if_pos z2]
    · rw [del_upd, del_upd, del_upd]
      exact ex_del ex
/-- == of a policy and of anything -/
def polC (h : Str) (e q : Int) (h2 : Str) (e2 q2 : Int) : Bool := decide (h = h2) && (decide (e = e2) && decide (q = q2))
def spPEq (K : PySem.W.Frag) (CP : Addr) : Sp := fun vs H Q _ => ∃ (a : Addr) (y : V) (h : Str) (e q : Int) (c : Bool), vs = [.ref a, y] ∧ PolAt CP H a h e q ∧
  ((∃ b h2 e2 q2, y = .ref b ∧ PolAt CP H b h2 e2 q2 ∧ c = polC h e q h2 e2 q2) ∨ (c = false ∧ ∃ tb, (∀ H1, Ex H H1 → TyX K H1 y tb) ∧ PySem.W.kitOne K tb (.ref CP) = some false)) ∧ RetV (.bl c) H Q
theorem scPEq : FnScope ["self", "other"] ["self", "other"] (defScope sPEq) := ⟨rfl, rfl, rfl, by decide +kernel, rfl, by decide +kernel, by decide +kernel⟩
theorem kit_self {K : PySem.W.Frag} {C : Addr} : PySem.W.kitOne K (.ref C) (.ref C) = some true := by
  unfold PySem.W.kitOne
  rw [if_pos (by simp)]
theorem ok_PEq {f CP : Addr} {fd : FuncData} (F : Fun K "__eq__" "Policy.__eq__" sPEq f fd) (T : Txt K mg) (TP : Pol K mg CP) : FnOk P w K mg base CX0 1 f fd ["self", "other"] (spPEq K CP) := by
  refine F.ok scPEq (fun vs H Q E h => ?_) (fun cdv A outer s H vs Q E hr h => ?_)
  · obtain ⟨a, y, h, e, q, c, rfl, _⟩ := h
    rfl
  · obtain ⟨a, y, h, e, q, c, rfl, ⟨dx, ha⟩, hc, k⟩ := h
    refine ⟨_, pss_one (ps_ret (pe_and (pe_callB call_isi (by rfl) T.isi boot_isinstance (pa_cons (pv 1) (pa_cons (pe_glob (v := .ref CP) rfl TP.hm rfl) pa_nil)))
      (pe_and (pe_cmpR op_eq (pe_fld (pv 0) rfl) (pe_fld (pv 1) rfl) (nomark _)) (pe_and (pe_cmpR op_eq (pe_fld (pv 0) rfl) (pe_fld (pv 1) rfl) (nomark _)) (pe_one (pe_cmpR op_eq (pe_fld (pv 0) rfl) (pe_fld (pv 1) rfl) (nomark _))))))), ?_⟩
    rcases hc with ⟨b, h2, e2, q2, rfl, ⟨dy, hb⟩, rfl⟩ | ⟨rfl, tb, hty, hk⟩
    · refine s_ret (v := .bl (polC h e q h2 e2 q2)) (ev_is (ev_andV (a := true) (b := polC h e q h2 e2 q2) (ev_isC (ev_var rfl) (fun H1 e => TP.k.ty (e _ _ hb)) kit_self) fun _ => ?_) (congrArg V.bl (Bool.true_and _))) k
      refine ev_andV (ev_is (ev_op (ev_fld (ev_var rfl) ha TP.k.cl TP.nh rfl) (ev_fld (ev_var rfl) hb TP.k.cl TP.nh rfl) (rv_eq rfl)) (congrArg V.bl (decide_eq_decide.mpr ⟨fun z => by injection z, fun z => by rw [z]⟩))) fun _ => ?_
      refine ev_andV (ev_is (ev_op (ev_fld (ev_var rfl) ha TP.k.cl TP.ne rfl) (ev_fld (ev_var rfl) hb TP.k.cl TP.ne rfl) (rv_eq rfl)) (congrArg V.bl (decide_eq_decide.mpr ⟨fun z => by injection z, fun z => by rw [z]⟩))) fun _ => ?_
      exact ev_is (ev_op (ev_fld (ev_var rfl) ha TP.k.cl TP.nq rfl) (ev_fld (ev_var rfl) hb TP.k.cl TP.nq rfl) (rv_eq rfl)) (congrArg V.bl (decide_eq_decide.mpr ⟨fun z => by injection z, fun z => by rw [z]⟩))
    · exact s_ret (v := .bl false) (ev_andV (a := false) (b := false) (ev_isC (ev_var rfl) hty hk) fun z => nomatch z) k
theorem bP0 {f : Addr} {fd : FuncData} (F : FunD K "__init__" "Policy.__init__" (defArgs sPI) (defBody sPI) (defScope sPI) [.str "all"] [("every", .int 2), ("quick", .int 0)] f fd) : ∃ ds, Vals [.str "all", .int 2, .int 0] ds ∧ Binds K fd PIps ds := by
  refine F.binds (ps := PIps) 1 0 (by simp) rfl (fun T D doc pm an cdv ct us its ks h1 h2 h3 => ?_) (by simp)
  match us, its, ks, h1, h2, h3 with
  | [a], [b], [c, d], _, _, _ => exact ⟨_, rfl, _, _, _, _, _, _, rfl, rfl, _, _, _, _, _, _, rfl, rfl, rfl⟩
theorem bP3 {f : Addr} {fd : FuncData} (F : FunD K "__init__" "Policy.__init__" (defArgs sPI) (defBody sPI) (defScope sPI) [.str "all"] [("every", .int 2), ("quick", .int 0)] f fd) : ∃ g, KBn K fd PIps 2 ["every", "quick"] g (fun vs zs => vs ++ zs) := by
  obtain ⟨its, mv, h⟩ := F.kbinds (ps := PIps) 2 ["every", "quick"] [] (fun us _ _ ws => us ++ ws) (by simp) (by simp) (fun q hq => nomatch hq) (fun a _ _ b => a.append b) (fun T D doc pm an cdv ct us its mv ws h1 h2 h3 h4 => by
    match us, its, mv, ws, h1, h2, h3, h4 with
    | [a, b], [c], [], [d, e], _, _, _, _ => exact ⟨_, rfl, rfl⟩)
  exact ⟨_, h⟩
theorem bPq {f : Addr} {fd : FuncData} (F : FunD K "__init__" "Policy.__init__" (defArgs sPI) (defBody sPI) (defScope sPI) [.str "all"] [("every", .int 2), ("quick", .int 0)] f fd) : ∃ g, KBn K fd PIps 1 ["quick"] g (fun vs zs => vs ++ ([.str "all"] ++ ([.int 2] ++ zs))) := by
  obtain ⟨its, mv, h⟩ := F.kbinds (ps := PIps) 1 ["quick"] [("every", .int 2)] (fun us ds mz ws => us ++ (ds ++ (mz ++ ws))) (by simp) (by simp) (fun q hq => by simp at hq; simp [hq]) (fun a b c d => a.append (b.append (c.append d))) (fun T D doc pm an cdv ct us its mv ws h1 h2 h3 h4 => by
    match us, its, mv, ws, h1, h2, h3, h4 with
    | [a], [c], [m], [d], _, _, _, _ => exact ⟨_, rfl, _, _, _, _, _, _, rfl, rfl, rfl⟩)
  exact ⟨_, h⟩
theorem bPeh {f : Addr} {fd : FuncData} (F : FunD K "__init__" "Policy.__init__" (defArgs sPI) (defBody sPI) (defScope sPI) [.str "all"] [("every", .int 2), ("quick", .int 0)] f fd) : ∃ g, KBn K fd PIps 1 ["every", "hold"] g (fun vs zs => vs ++ (zs.reverse ++ [.int 0])) := by
  obtain ⟨its, mv, h⟩ := F.kbinds (ps := PIps) 1 ["every", "hold"] [("quick", .int 0)] (fun us ds mz ws => us ++ (ws.reverse ++ mz)) (by simp) (by simp) (fun q hq => by simp at hq; simp [hq]) (fun a _ c d => a.append (d.reverse.append c)) (fun T D doc pm an cdv ct us its mv ws h1 h2 h3 h4 => by
    match us, its, mv, ws, h1, h2, h3, h4 with
    | [a], [c], [m], [d, e], _, _, _, _ => exact ⟨_, rfl, _, _, _, _, _, _, rfl, rfl, rfl⟩)
  exact ⟨_, h⟩
end
end Lw

namespace L3
open PySem PySem.Spec PyProof.Rows L2 Evl ClX
section
variable {P : Program} {w : World} {K : PySem.W.Frag} {mg : Str → Option Value} {base : Heap}
/-- a def's promise, in other words -/
theorem fn_imp {CX : CXT} {k : Nat} {f : Addr} {fd : FuncData} {ps : List Str} {sp sp' : Sp} (F : FnOk P w K mg base CX k f fd ps sp) (h : ∀ vs H Q E, sp' vs H Q E → sp vs H Q E) : FnOk P w K mg base CX k f fd ps sp' :=
  ⟨fun vs H Q E z => F.len _ _ _ _ (h _ _ _ _ z), fun A outer s H args us vs Q E hr e0 b r z => F.run A outer s H args us vs Q E hr e0 b r (h _ _ _ _ z)⟩
variable {σ : L2.St} {H : Hp} {te : TE} {C a dx : Addr} {fs : List (Str × V)} {sp : Sp} {y : Str}
theorem ev_fmtO (h : Ev te σ H (.ref a)) (hi : H a = some (.ins C dx fs)) (hs : ∀ H1, Ex H H1 → ∀ Q : VK, (∀ H2, Ex H1 H2 → Q (.str y) H2) → sp [.ref a] H1 Q E0) : Ev (tFmtO C sp te) σ H (.str y) := fun H1 e Q q =>
  h H1 e _ fun H2 e2 => ⟨a, dx, fs, rfl, (e.trans e2) _ _ hi, hs H2 (e.trans e2) _ fun H3 e3 => ⟨⟨y, rfl⟩, q H3 (e2.trans e3)⟩⟩
end
end L3
namespace Lw
open PySem PySem.Spec PyProof.Rows L2 Evl L3 ClX
abbrev sPStr : Stmt := inClass (top 29) 3
/-- a policy's words -/
def okH (h : Str) : Prop := h = "off" ∨ h = "partial" ∨ h = "all"
structure okP (h : Str) (e q : Int) : Prop where
  h : okH h
  e0 : 0 ≤ e
  e1 : e ≤ 9
  q0 : 0 ≤ q
  q1 : q ≤ 4
section
variable {P : Program} {w : World} {K : PySem.W.Frag} {mg : Str → Option Value} {base : Heap}
def spCkSv : Sp := fun vs H Q _ => ∃ n : Int, vs = [.int n] ∧ 1 ≤ n ∧ n ≤ 1000000000000000000 ∧ RetV .non H Q
def spPIv (CP : Addr) : Sp := fun vs H Q _ => ∃ (x dx : Addr) (h : Str) (e q : Int), vs = [.ref x, .str h, .int e, .int q] ∧ H x = some (.ins CP dx []) ∧ okP h e q ∧
  ∀ H', Ex (del H x) (del H' x) → H' x = some (.ins CP dx (polF h e q)) → Q .non H'
theorem sz_ok {n : Int} (h1 : 1 ≤ n) (h2 : n ≤ 1000000000000000000) : sizeOk (.int n) = true := by
  show (decide (1 ≤ n) && decide (n ≤ 1000000000000000000)) = true
  rw [decide_eq_true h1, decide_eq_true h2] <;> rfl
theorem hold_ok {h : Str} (ho : okH h) : holdD (.str h) = true := by
  rcases ho with rfl | rfl | rfl <;> decide +kernel
theorem due_ok {h : Str} {e q : Int} (ok : okP h e q) : dueP (.str h) (.int e) (.int q) = none := by
  have b1 : betwD (.int e) 0 9 = true := by
    show (decide (0 ≤ e) && decide (e ≤ 9)) = true
    rw [decide_eq_true ok.e0, decide_eq_true ok.e1] <;> rfl
  have b2 : betwD (.int q) 0 4 = true := by
    show (decide (0 ≤ q) && decide (q ≤ 4)) = true
    rw [decide_eq_true ok.q0, decide_eq_true ok.q1] <;> rfl
  unfold dueP
  rw [if_pos (hold_ok ok.h), if_pos b1, if_pos b2]
theorem hold_shape {h : Str} (ho : okH h) : SeqAt.shaped (.str h) = true := by
  rcases ho with rfl | rfl | rfl <;> decide +kernel
theorem ck_v {CB : Addr} : ∀ vs H Q E, spCkSv vs H Q E → spCkS K CB vs H Q E := fun vs H Q E ⟨n, ev, h1, h2, k⟩ =>
  ⟨.int n, .int n, ev, .int n, fun _ => k, fun z => by rw [sz_ok h1 h2] at z; cases z⟩
theorem pi_v {CP CB : Addr} : ∀ vs H Q E, spPIv CP vs H Q E → spPI K CP CB vs H Q E := fun vs H Q E ⟨x, dx, h, e, q, ev, hx, ok, k⟩ =>
  ⟨x, dx, .str h, .int e, .int q, .str h, .int e, .int q, ev, hx, .str h, .int e, .int q, hold_shape ok.h, fun _ H' ex hh => k H' ex hh, fun nm z => by rw [due_ok ok] at z; cases z⟩
/-- the text of a policy, its writing -/
def polT (h : Str) (e q : Int) : Str := ((((Str.empty ++ h) ++ " ") ++ toString e) ++ " ") ++ toString q
def polR (h : Str) (e q : Int) : Str := ((((((Str.empty ++ "Policy(") ++ reprText h) ++ ", every=") ++ toString e) ++ ", quick=") ++ toString q) ++ ")"
theorem len_h {h : Str} (ho : okH h) : h.length ≤ 7 ∧ (reprText h).length ≤ 9 := by
  rcases ho with rfl | rfl | rfl <;> decide +kernel
def spPStr (CP : Addr) (t : Str → Int → Int → Str) : Sp := fun vs H Q _ => ∃ (a : Addr) (h : Str) (e q : Int), vs = [.ref a] ∧ PolAt CP H a h e q ∧ okP h e q ∧ RetV (.str (t h e q)) H Q
theorem scPStr : FnScope ["self"] ["self"] (defScope sPStr) := ⟨rfl, rfl, rfl, by decide +kernel, rfl, by decide +kernel, by decide +kernel⟩
theorem polT_len {h : Str} {e q : Int} (ok : okP h e q) : (polT h e q).length ≤ 200 ∧ (polR h e q).length ≤ 200 := by
  have a1 := len_h ok.h
  have a2 := sl_int (i := e) (by have := ok.e0; have := ok.e1; omega)
  have a3 := sl_int (i := q) (by have := ok.q0; have := ok.q1; omega)
  have c1 : (" " : Str).length = 1 := by decide +kernel
  have c2 : ("Policy(" : Str).length = 7 := by decide +kernel
  have c3 : (", every=" : Str).length = 8 := by decide +kernel
  have c4 : (", quick=" : Str).length = 8 := by decide +kernel
  have c5 : (")" : Str).length = 1 := by decide +kernel
  have c0 : Str.empty.length = 0 := rfl
  unfold polT polR
  simp only [sl_app, c0, c1, c2, c3, c4, c5]
  omega
theorem ok_PStr {f CP : Addr} {fd : FuncData} (F : Fun K "__str__" "Policy.__str__" sPStr f fd) (TP : Pol K mg CP) : FnOk P w K mg base CX0 1 f fd ["self"] (spPStr CP polT) := by
  refine F.ok scPStr (fun vs H Q E h => ?_) (fun cdv A outer s H vs Q E hr h => ?_)
  · obtain ⟨a, h, e, q, rfl, _⟩ := h
    rfl
  · obtain ⟨a, h, e, q, rfl, ⟨dx, ha⟩, ok, k⟩ := h
    have ln := (polT_len ok).1
    unfold polT at ln
    simp only [sl_app] at ln
    refine ⟨_, pss_one (ps_ret (pe_joined (.cons (pe_fmt (pe_fld (pv 0) rfl)) (.cons pe_str (.cons (pe_fmt (pe_fld (pv 0) rfl)) (.cons pe_str (.cons (pe_fmt (pe_fld (pv 0) rfl)) .nil))))))), ?_⟩
    have le := log_small (i := e) (by have := ok.e0; have := ok.e1; omega)
    have lq := log_small (i := q) (by have := ok.q0; have := ok.q1; omega)
    have l1 := (len_h ok.h).1
    refine js_cons (ev_fmtS (ev_fld (ev_var rfl) ha TP.k.cl TP.nh rfl) (by omega)) (by simp only [sl_app]; omega) fun H1 e1 => ?_
    refine js_cons ev_c (by simp only [sl_app]; omega) fun H2 e2 => ?_
    refine js_cons (ev_fmtI (ev_fld (ev_var rfl) ((e1.trans e2) _ _ ha) TP.k.cl TP.ne rfl) (by omega)) (by simp only [sl_app]; omega) fun H3 e3 => ?_
    refine js_cons ev_c (by simp only [sl_app]; omega) fun H4 e4 => ?_
    have ex := ((e1.trans e2).trans e3).trans e4
    refine js_cons (ev_fmtI (ev_fld (ev_var rfl) (ex _ _ ha) TP.k.cl TP.nq rfl) (by omega)) (by simp only [sl_app]; omega) fun H5 e5 => ?_
    exact k H5 (ex.trans e5)
end
section
variable {P : Program} {w : World} {K : PySem.W.Frag} {mg : Str → Option Value} {base : Heap}
/-! ### policy_pair -/
abbrev sPair : Stmt := top 32
def pairOf (CP : Addr) (H : Hp) (ps : List Addr) (p q : Addr) : Prop := match ps with
  | [] => PolAt CP H p "all" 2 0 ∧ PolAt CP H q "all" 2 0
  | [a] => p = a ∧ q = a
  | [a, b] => p = a ∧ q = b
  | _ => False
def spPair (K : PySem.W.Frag) (CP : Addr) : Sp := fun vs H Q _ => ∃ (t : Addr) (ps : List Addr), vs = [.ref t] ∧ SqT K H t (ps.map V.ref) ∧ ps.length ≤ 2 ∧ ∀ r p q H', Ex H H' → SqT K H' r [.ref p, .ref q] → pairOf CP H' ps p q → Q (.ref r) H'
theorem scPair : FnScope ["policies"] ["policies"] (defScope sPair) := ⟨rfl, rfl, rfl, by decide +kernel, rfl, by decide +kernel, by decide +kernel⟩
theorem okP_plain : okP "all" 2 0 := ⟨Or.inr (Or.inr rfl), by decide, by decide, by decide, by decide⟩
/-- a new policy -/
theorem made_pol {CP x dx : Addr} {H H' : Hp} {fs : List (Str × V)} (hx : H x = none) (hd : H dx = none) (n : dx ≠ x) (e : Ex (del (upd (upd H dx (.own x)) x (.ins CP dx fs)) x) (del H' x)) : Ex H H' := fun b o h => by
  have nb : b ≠ x := ne_of_none h hx
  have nd : b ≠ dx := ne_of_none h hd
  have z := e b o (by rw [del_ne nb, upd_ne nb, upd_ne nd]; exact h)
  rw [del_ne nb] at z
  exact z
theorem pol_go {CP : Addr} {σ : L2.St} {H : Hp} {Q : VK} (k : ∀ x H', H x = none → Ex H H' → PolAt CP H' x "all" 2 0 → Q (.ref x) H') : tMake CP (spPIv CP) [.str "all", .int 2, .int 0] E0 tNil σ H Q := fun x dx hx hd n =>
  ⟨x, dx, "all", 2, 0, rfl, upd_same, okP_plain, fun H' e h' => ⟨rfl, k x H' hx (made_pol hx hd n e) ⟨dx, h'⟩⟩⟩
theorem ok_pair {f fI CP : Addr} {fd fdI : FuncData} (F : Fun K "policy_pair" "policy_pair" sPair f fd) (T : Txt K mg) (TP : Pol K mg CP) (M : Mk K CP fI) (FI : FunD K "__init__" "Policy.__init__" (defArgs sPI) (defBody sPI) (defScope sPI) [.str "all"] [("every", .int 2), ("quick", .int 0)] fI fdI)
    (GI : FnOk P w K mg base (L2.CX P w) 3 fI fdI PIps (spPIv CP)) : FnOk P w K mg base CX0 5 f fd ["policies"] (spPair K CP) := by
  obtain ⟨ds, hd, bI⟩ := bP0 FI
  refine F.ok scPair (fun vs H Q E h => ?_) (fun cdv A outer s H vs Q E hr h => ?_)
  · obtain ⟨t, ps, rfl, _⟩ := h
    rfl
  · obtain ⟨t, ps, rfl, ht, hl, k⟩ := h
    refine ⟨_, pss_cons (ps_if (pt_cmpR op_eq (pe_callB call_len_seq (by rfl) T.len PySem.boot_len (pa_cons (pv 0) pa_nil)) pe_int (nomark _))
        (pss_one (ps_ret (pe_tup (pa_cons (pe_make0 M GI hr rfl TP.hm bI hd passE) (pa_cons (pe_make0 M GI hr rfl TP.hm bI hd passE) pa_nil))))) pss_nil)
      (pss_cons (ps_if (pt_cmpR op_eq (pe_callB call_len_seq (by rfl) T.len PySem.boot_len (pa_cons (pv 0) pa_nil)) pe_int (nomark _))
        (pss_one (ps_ret (pe_tup (pa_cons (pe_ix ix_tup (pv 0) pe_int (fun _ _ => rfl)) (pa_cons (pe_ix ix_tup (pv 0) pe_int (fun _ _ => rfl)) pa_nil))))) pss_nil)
      (pss_one (ps_ret (pv 0)))), ?_⟩
    have evl : ∀ {H1 : Hp} {n : Int}, Ex H H1 → EvT (tTest (tOp rEq (tCB (rLenS K) (tCons (tVar 0) tNil)) (tC (.int n)))) (start ["policies"] [V.ref t]) H1 (decide ((ps.length : Int) = n)) := fun {H1 n} e =>
      et_is (et_test (ev_op (ev_cb (ea_cons (ev_var rfl) ea_nil) (fun H2 e2 Q q => ⟨t, _, rfl, Or.inr (ex_t (e.trans e2) ht), q H2 (Ex.refl H2)⟩)) ev_c (rv_eq rfl))) (decide_eq_decide.mpr ⟨fun z => by injection z with z; rw [List.length_map] at z; exact z, fun z => by rw [← z, List.length_map]⟩)
    match ps, ht, hl, k, @evl with
    | [], ht, _, k, evl =>
      refine q_when (b := true) (evl (Ex.refl H)) (fun _ H1 e1 => ?_) (fun hb => nomatch hb)
      unfold tRet tTup tCons
      refine pol_go fun p H2 hp e2 p2 => ?_
      refine pol_go fun q H3 hq e3 q3 => ?_
      refine ⟨by show 2 ≤ sizeLine; decide, fun u hu => ?_⟩
      have en := Ex.new (o := .tup [.ref p, .ref q]) hu
      exact k u p q _ (((e1.trans e2).trans e3).trans en) (st_of upd_same) ⟨(p2.ex e3).ex en, q3.ex en⟩
    | [a], ht, _, k, evl =>
      refine q_when (b := false) (evl (Ex.refl H)) (fun hb => nomatch hb) fun _ H1 e1 => ?_
      refine q_when (b := true) (evl e1) (fun _ H2 e2 => ?_) (fun hb => nomatch hb)
      have e12 := e1.trans e2
      exact s_retU (eu_tup (ea_cons (ev_op (ev_var rfl) ev_c (rv_ixT (ex_t e12 ht) (atI_nat (j := 0) rfl))) (ea_cons (ev_op (ev_var rfl) ev_c (rv_ixT (ex_t e12 ht) (atI_nat (j := 0) rfl))) ea_nil)) (by show 2 ≤ 100000; decide)) fun u H3 hu e3 h3 => k u a a H3 (e12.trans e3) (st_of h3) ⟨rfl, rfl⟩
    | [a, b], ht, _, k, evl =>
      refine q_when (b := false) (evl (Ex.refl H)) (fun hb => nomatch hb) fun _ H1 e1 => ?_
      refine q_when (b := false) (evl e1) (fun hb => nomatch hb) fun _ H2 e2 => ?_
      exact s_ret (ev_var rfl) fun H3 e3 => k t a b H3 ((e1.trans e2).trans e3) (ex_t ((e1.trans e2).trans e3) ht) ⟨rfl, rfl⟩
    | _ :: _ :: _ :: _, _, hl, _, _ =>
      exfalso
      simp only [List.length_cons] at hl
      omega
end
end Lw
namespace Lw
open PySem PySem.Spec PyProof.Rows L2 Evl L3 ClX
abbrev sSI : Stmt := inClass (top 30) 0
abbrev sSEq : Stmt := inClass (top 30) 1
abbrev sSStr : Stmt := inClass (top 30) 2
abbrev sSRep : Stmt := inClass (top 30) 3
def setF (n : Int) (r : Addr) : List (Str × V) := [("size", .int n), ("policies", .ref r)]
/-- a setting of size n with the policies at p and q -/
def SetAt (K : PySem.W.Frag) (CS : Addr) (H : Hp) (a : Addr) (n : Int) (p q : Addr) : Prop := ∃ dx r, H a = some (.ins CS dx (setF n r)) ∧ SqT K H r [.ref p, .ref q]
theorem SetAt.ex {K : PySem.W.Frag} {CS a p q : Addr} {H H1 : Hp} {n : Int} (s : SetAt K CS H a n p q) (e : Ex H H1) : SetAt K CS H1 a n p q := by
  obtain ⟨dx, r, h1, h2⟩ := s
  exact ⟨dx, r, e _ _ h1, ex_t e h2⟩
/-- what is read of the class Setting -/
structure Stg (K : PySem.W.Frag) (mg : Str → Option Value) (CS : Addr) : Prop where
  hm : mg "Setting" = some (.ref CS)
  k : Kls K CS
  ns : NoAttr K CS "size"
  np : NoAttr K CS "policies"
section
variable {P : Program} {w : World} {K : PySem.W.Frag} {mg : Str → Option Value} {base : Heap}
/-- x is filled; t holds what is left over of the arguments -/
def spSI0 (K : PySem.W.Frag) (CS CP : Addr) : Sp := fun vs H Q _ => ∃ (x dx t : Addr) (n : Int) (ps : List Addr), vs = [.ref x, .int n, .ref t] ∧ H x = some (.ins CS dx []) ∧ SqT K (del H x) t (ps.map V.ref) ∧ ps.length ≤ 2 ∧ (∀ p ∈ ps, ∃ h e q, PolAt CP (del H x) p h e q) ∧ 1 ≤ n ∧ n ≤ 1000000000000000000 ∧
  ∀ H' r p q, Ex (del H x) (del H' x) → H' x = some (.ins CS dx (setF n r)) → SqT K (del H' x) r [.ref p, .ref q] → pairOf CP (del H' x) ps p q → Q .non H'
abbrev nSI : List Str := ["self", "size", "policies", "policy"]
theorem scSI : FnScope nSI ((["self", "size"] : List Str) ++ (["policies"] : List Str)) (defScope sSI) := ⟨rfl, rfl, rfl, by decide +kernel, rfl, by decide +kernel, by decide +kernel⟩
theorem sqt_del {H : Hp} {x r C dx : Addr} {fs : List (Str × V)} {xs : List V} (h : SqT K H r xs) (hx : H x = some (.ins C dx fs)) : SqT K (del H x) r xs := by
  rcases h with (h | ⟨o, h⟩) | h
  · have n : r ≠ x := fun z => by
      rw [z, hx] at h
      cases h
    exact Or.inl (Or.inl (by rw [del_ne n]; exact h))
  · have n : r ≠ x := fun z => by
      rw [z, hx] at h
      cases h
    exact Or.inl (Or.inr ⟨o, by rw [del_ne n]; exact h⟩)
  · exact Or.inr h
theorem pol_del {CP : Addr} {H : Hp} {x p C dx : Addr} {fs : List (Str × V)} {h : Str} {e q : Int} (d : PolAt CP H p h e q) (hx : H x = some (.ins C dx fs)) (hl : fs.length ≠ 3) : PolAt CP (del H x) p h e q := by
  obtain ⟨dy, hd⟩ := d
  have n : p ≠ x := fun z => by
    rw [z, hx] at hd
    injection hd with hd
    injection hd with _ _ hf
    exact hl (by rw [hf] <;> rfl)
  exact ⟨dy, by rw [del_ne n]; exact hd⟩
theorem pairOf_del {CP : Addr} {H : Hp} {x C dx : Addr} {fs : List (Str × V)} {ps : List Addr} {p q : Addr} (h : pairOf CP H ps p q) (hx : H x = some (.ins C dx fs)) (hl : fs.length ≠ 3) : pairOf CP (del H x) ps p q := by
  match ps, h with
  | [], h => exact ⟨pol_del h.1 hx hl, pol_del h.2 hx hl⟩
  | [_], h => exact h
  | [_, _], h => exact h
theorem pairOf_ex {CP : Addr} {H H1 : Hp} {ps : List Addr} {p q : Addr} (h : pairOf CP H ps p q) (e : Ex H H1) : pairOf CP H1 ps p q := by
  match ps, h with
  | [], h => exact ⟨h.1.ex e, h.2.ex e⟩
  | [_], h => exact h
  | [_, _], h => exact h
theorem given_allT {n : Nat} {v : Nat → V} : given n (fun _ => true) v = (List.range n).map v := by
  unfold given
  rw [List.filter_eq_self.mpr (fun _ _ => rfl)]
theorem ev_allB {σ : L2.St} {H : Hp} {tl : TE} {bs : List Bool} (h : EvL tl σ H (bs.map V.bl)) : Ev (tCB (rAll K) (tCons tl tNil)) σ H (.bl (bs.all id)) := fun H1 e Q q =>
  h H1 e _ fun p H2 _ e2 h2 => ⟨p, bs, rfl, sq_of h2, q H2 e2⟩
theorem body_SI {f fC fR CB CS CP fE : Addr} {fdC fdR fdE : FuncData} {cdv : Value} (T : Txt K mg) (TB : ErC P w K mg base "BadSetting" "name" CB fE fdE) (TP : Pol K mg CP) (TS : Stg K mg CS)
    (FC : Fun K "check_size" "check_size" sCkS fC fdC) (bC : Binds K fdC ["size"] []) (gC : mg "check_size" = some (.ref fC)) (GC : FnOk P w K mg base (L2.CX P w) 3 fC fdC ["size"] spCkSv)
    (FR : Fun K "policy_pair" "policy_pair" sPair fR fdR) (bR : Binds K fdR ["policies"] []) (gR : mg "policy_pair" = some (.ref fR)) (GR : FnOk P w K mg base CX0 5 fR fdR ["policies"] (spPair K CP)) (A : Around) (outer : List Env) (s : Shared) (H : Hp) (vs : List V) (Q : VK) (E : XK)
    (hr : Room 5 (A.deeper (envOfC "Setting.__init__" (defScope sSI) s.heap.objs.size f cdv))) (h : spSI0 K CS CP vs H Q E) :
    ∃ t, PSs (cxOf (L2.CX P w) P w K mg base nSI "Setting.__init__" (defScope sSI) f cdv A outer s H E) (defBody sSI) t ∧ t { nx := fun _ H' => Q .non H', rt := Q } (start nSI vs) H := by
  obtain ⟨x, dx, t, n, ps, rfl, hx, ht, hl, hp, n1, n2, k⟩ := h
  have hr3 : Room 3 _ := hr.mono (by decide)
  have hr2 : Room 2 _ := hr.mono (by decide)
  refine ⟨_, pss_cons (ps_expr (pe_call GC hr3 rfl gC FC.kp bC .nil passE (pa_cons (pv 1) pa_nil)))
    (pss_cons (ps_if (PW.pt (pw_or (pt_cmpR op_gt (pe_callB call_len_seq (by rfl) T.len PySem.boot_len (pa_cons (pv 2) pa_nil)) pe_int (nomark _))
        (pw_or1 (pt_not (pt_val (pe_callB (cr_all rfl) (by rfl) T.all PyProof.Rows.boot_all (pa_cons (pe_lc (own := [("policy", 3)]) (g := gName 3) (tt := tYes) (te := tCB (rIsi K) (tCons (tVar 3) (tCons (tC (.ref CP)) tNil))) rfl scSI.nd (pi_tup (pv 2))
          (blkOk_by (N := nSI) (sc := defScope sSI) (by decide +kernel)) (fun _ _ _ _ _ => pg_name (i := 3) scSI.nd rfl (Or.inl rfl)) (fun _ _ _ _ _ => pts_nil) (fun _ _ _ _ _ => pe_callB call_isi (by rfl) T.isi boot_isinstance (pa_cons (pv 3) (pa_cons (pe_glob (v := .ref CP) rfl TP.hm rfl) pa_nil)))) pa_nil)))))))
      (pss_one (ps_rz rfl TB hr2 (takes_of rfl rfl rfl rfl) (by exact pa_cons pe_str pa_nil))) pss_nil)
    (pss_cons (ps_fld (pv 0) (pv 1) rfl) (pss_one (ps_fld (pv 0) (pe_call GR hr rfl gR FR.kp bR .nil pass0 (pa_cons (pv 2) pa_nil)) rfl)))), ?_⟩
  refine ⟨_, rfl, n, rfl, n1, n2, fun H1 e1 => ?_⟩
  have ht1 : SqT K H1 t (ps.map V.ref) := ex_t (ex_del_self.trans e1) ht
  dsimp only
  refine q_when (b := false) (et_is (et_or (a := false) (b := false) ?_ fun _ => ?_) rfl) (fun hb => nomatch hb) fun _ H2 e2 => ?_
  · refine et_is (et_test (ev_op (ev_cb (ea_cons (ev_var rfl) ea_nil) (fun H2 e2 Q q => ⟨t, _, rfl, Or.inr (ex_t e2 ht1), q H2 (Ex.refl H2)⟩)) ev_c rv_I0)) ?_
    rw [List.length_map]
    exact decide_eq_false (by omega)
  · refine et_is (et_not (a := true) (et_B (ev_is (ev_allB (bs := List.replicate ps.length true) ?_) (congrArg V.bl (by simp))))) rfl
    have z := el_lcT (K := K) (σ := start nSI [.ref x, .int n, .ref t]) (H := H1) (xs := ps.map V.ref) (a := t) (tl := tVar 2) (j := 3) (vs := [3]) (t := tYes) (te := tCB (rIsi K) (tCons (tVar 3) (tCons (tC (.ref CP)) tNil)))
      (fun _ => true) (fun _ => .bl true) (ev_var rfl) ht1 (by rw [List.length_map]; omega) (fun _ => rfl) (fun _ _ _ _ _ => fun H1 e Q q => q H1 (Ex.refl H1)) (fun i v H3 e3 hv _ => by
        rw [List.getElem?_map] at hv
        cases hp' : ps[i]? with
        | none =>
          rw [hp'] at hv
          cases hv
        | some p =>
          rw [hp'] at hv
          have ev : V.ref p = v := Option.some.inj hv
          subst ev
          obtain ⟨h, e, q, dp, hd⟩ := hp p (List.mem_of_getElem? hp')
          exact ev_isC (ev_var rfl) (fun H4 e4 => TP.k.ty (((ex_del_self.trans e1).trans (e3.trans e4)) _ _ hd)) kit_self)
    rw [given_allT, List.length_map] at z
    rw [List.map_replicate]
    have e0 : (List.range ps.length).map (fun _ => V.bl true) = List.replicate ps.length (V.bl true) := by
      rw [List.map_const', List.length_range]
    rw [e0] at z
    exact z
  · have e12 := e1.trans e2
    refine ⟨_, rfl, _, rfl, x, CS, dx, _, rfl, e12 _ _ hx, TS.k.cl, TS.ns, by decide, ?_⟩
    have e3 : Ex (del H x) (del (upd H2 x (.ins CS dx (putF "size" (.int n) []))) x) := by
      rw [del_upd]
      exact ex_del e12
    refine ⟨_, rfl, t, ps, rfl, ex_t (e3.trans ex_del_self) ht, hl, fun r p q H4 e4 hr4 hpo => ?_⟩
    refine ⟨_, rfl, x, CS, dx, _, rfl, e4 _ _ upd_same, TS.k.cl, TS.np, Nat.lt_of_le_of_lt (putF_len _ _ _) (by decide), ?_⟩
    have hx4 : H4 x = some (.ins CS dx (putF "size" (.int n) [])) := e4 _ _ upd_same
    refine k _ r p q ?_ upd_same ?_ ?_
    · rw [del_upd]
      exact e3.trans (ex_del e4)
    · rw [del_upd]
      exact sqt_del hr4 hx4
    · rw [del_upd]
      exact pairOf_del hpo hx4 (by show ¬ 1 = 3; decide)
/-- Setting(size, ..) -/
theorem ok_SI {f fC fR CB CS CP fE : Addr} {fdC fdR fdE : FuncData} {oc kV dc pm cd ct : Value} {od an : Option Addr} {sl : Array (Option Value)} (lk : K.lookup f = some ⟨oc, od, .func (PySem.W.fnOf "__init__" "Setting.__init__" (defArgs sSI) (defBody sSI) (defScope sSI) .none kV dc pm an cd ct), sl⟩) (hcd : PySem.W.codeIn K cd "Setting.__init__" = true)
    (T : Txt K mg) (TB : ErC P w K mg base "BadSetting" "name" CB fE fdE) (TP : Pol K mg CP) (TS : Stg K mg CS)
    (FC : Fun K "check_size" "check_size" sCkS fC fdC) (bC : Binds K fdC ["size"] []) (gC : mg "check_size" = some (.ref fC)) (GC : FnOk P w K mg base (L2.CX P w) 3 fC fdC ["size"] spCkSv)
    (FR : Fun K "policy_pair" "policy_pair" sPair fR fdR) (bR : Binds K fdR ["policies"] []) (gR : mg "policy_pair" = some (.ref fR)) (GR : FnOk P w K mg base CX0 5 fR fdR ["policies"] (spPair K CP)) :
    FnR P w K mg base (L2.CX P w) 6 f (fun vs H Q E => ∃ ws rest, vs = ws ++ rest ∧ ws.length = 2 ∧ rest.length ≤ sizeLine ∧ ∀ p, H p = none → spSI0 K CS CP (ws ++ [V.ref p]) (upd H p (.tup rest)) Q E) := by
  refine StX.fn_star (ps := (["self", "size"] : List Str)) (pv := "policies") (N := nSI) lk hcd scSI StX.cxUp (StX.bind_star2 (B := fun us => bindArgs (PySem.W.fnOf "__init__" "Setting.__init__" (defArgs sSI) (defBody sSI) (defScope sSI) .none kV dc pm an cd ct) ⟨us, []⟩) (p1 := "self") (p2 := "size") (pv := "policies") (fun a b => rfl) (fun a b r rs => rfl)) fun A outer s H vs Q E hr h => ?_
  exact body_SI T TB TP TS FC bC gC GC FR bR gR GR A outer s H vs Q E hr h
/-- a new setting, of policies that stand -/
theorem set_go {CS CP : Addr} {n : Int} {ps : List Addr} {H : Hp} {Q : VK} (n1 : 1 ≤ n) (n2 : n ≤ 1000000000000000000) (hl : ps.length ≤ 2) (hp : ∀ p ∈ ps, ∃ h e q, PolAt CP H p h e q) (k : ∀ x p q H', H x = none → Ex H H' → SetAt K CS H' x n p q → pairOf CP H' ps p q → Q (.ref x) H') :
    ∀ x dx, H x = none → H dx = none → dx ≠ x → (fun vs H Q E => ∃ ws rest, vs = ws ++ rest ∧ ws.length = 2 ∧ rest.length ≤ sizeLine ∧ ∀ p, H p = none → spSI0 K CS CP (ws ++ [V.ref p]) (upd H p (.tup rest)) Q E) (V.ref x :: V.int n :: ps.map V.ref) (upd (upd H dx (.own x)) x (.ins CS dx [])) (fun v H2 => v = .non ∧ Q (.ref x) H2) E0 := fun x dx hx hd nd => by
  refine ⟨[.ref x, .int n], ps.map V.ref, rfl, rfl, by rw [List.length_map]; exact sz_of (by omega), fun t ht => ?_⟩
  have ntx : t ≠ x := fun z => by
    rw [z, upd_same] at ht
    cases ht
  have eH : Ex H (del (upd (upd (upd H dx (.own x)) x (.ins CS dx [])) t (.tup (ps.map V.ref))) x) := fun b o h => by
    have nb : b ≠ x := ne_of_none h hx
    have nb2 : b ≠ dx := ne_of_none h hd
    have nb3 : b ≠ t := fun z => by
      rw [← z, upd_ne nb, upd_ne nb2, h] at ht
      cases ht
    rw [del_ne nb, upd_ne nb3, upd_ne nb, upd_ne nb2]
    exact h
  refine ⟨x, dx, t, n, ps, rfl, by rw [upd_ne ntx.symm]; exact upd_same, st_of (by rw [del_ne ntx]; exact upd_same), hl, fun p hm => ?_, n1, n2, fun H' r p q e hH' hr hpo => ⟨rfl, ?_⟩⟩
  · obtain ⟨h, e, q, d⟩ := hp p hm
    exact ⟨h, e, q, d.ex eH⟩
  · exact k x p q H' hx ((eH.trans e).trans ex_del_self) ⟨dx, r, hH', ex_t ex_del_self hr⟩ (pairOf_ex hpo ex_del_self)
/-! ### == of settings -/
def RPol (CP : Addr) (p q : Addr) (c : Bool) (H : Hp) : Prop := ∃ h e u h2 e2 u2, PolAt CP H p h e u ∧ PolAt CP H q h2 e2 u2 ∧ c = polC h e u h2 e2 u2
theorem eq_RPol {K : PySem.W.Frag} {CP : Addr} : ∀ vs H Q E, spEqR (RPol CP) vs H Q E → spPEq K CP vs H Q E := fun vs H Q E h => by
  obtain ⟨a, b, c, rfl, ⟨h, e, q, h2, e2, q2, p1, p2, rfl⟩, k⟩ := h
  exact ⟨a, .ref b, h, e, q, _, rfl, p1, Or.inl ⟨b, h2, e2, q2, rfl, p2, rfl⟩, fun H' ex => k H' ex⟩
/-- a setting with its policies' values -/
structure SetV (K : PySem.W.Frag) (CS CP : Addr) (H : Hp) (a : Addr) (n : Int) (p q : Addr) (h : Str) (e u : Int) (h2 : Str) (e2 u2 : Int) : Prop where
  at_ : SetAt K CS H a n p q
  p : PolAt CP H p h e u
  q : PolAt CP H q h2 e2 u2
theorem SetV.ex {K : PySem.W.Frag} {CS CP a p q : Addr} {H H1 : Hp} {n e u e2 u2 : Int} {h h2 : Str} (s : SetV K CS CP H a n p q h e u h2 e2 u2) (x : Ex H H1) : SetV K CS CP H1 a n p q h e u h2 e2 u2 := ⟨s.at_.ex x, s.p.ex x, s.q.ex x⟩
def spSEq (K : PySem.W.Frag) (CS CP : Addr) : Sp := fun vs H Q _ => ∃ (a : Addr) (y : V) (n : Int) (p q : Addr) (h : Str) (e u : Int) (h2 : Str) (e2 u2 : Int) (c : Bool), vs = [.ref a, y] ∧ SetV K CS CP H a n p q h e u h2 e2 u2 ∧
  ((∃ b n' p' q' h' e' u' h2' e2' u2', y = .ref b ∧ SetV K CS CP H b n' p' q' h' e' u' h2' e2' u2' ∧ c = (decide (n = n') && (polC h e u h' e' u' && polC h2 e2 u2 h2' e2' u2'))) ∨ (c = false ∧ ∃ tb, (∀ H1, Ex H H1 → TyX K H1 y tb) ∧ PySem.W.kitOne K tb (.ref CS) = some false)) ∧ RetV (.bl c) H Q
theorem scSEq : FnScope ["self", "other"] ["self", "other"] (defScope sSEq) := ⟨rfl, rfl, rfl, by decide +kernel, rfl, by decide +kernel, by decide +kernel⟩
theorem polC_same {h : Str} {e q : Int} : polC h e q h e q = true := by
  unfold polC
  rw [decide_eq_true rfl, decide_eq_true rfl, decide_eq_true rfl] <;> rfl
theorem pol_one {CP p : Addr} {H : Hp} {h h2 : Str} {e q e2 q2 : Int} (a : PolAt CP H p h e q) (b : PolAt CP H p h2 e2 q2) : h = h2 ∧ e = e2 ∧ q = q2 := by
  obtain ⟨dx, h1⟩ := a
  obtain ⟨dy, h2⟩ := b
  rw [h1] at h2
  injection h2 with h2
  injection h2 with _ _ z
  injection z with z1 z
  injection z with z2 z
  injection z with z3 _
  injection z1 with _ z1
  injection z2 with _ z2
  injection z3 with _ z3
  injection z1 with z1
  injection z2 with z2
  injection z3 with z3
  exact ⟨z1, z2, z3⟩
theorem ok_SEq {f fE CS CP : Addr} {fd fdE : FuncData} (F : Fun K "__eq__" "Setting.__eq__" sSEq f fd) (T : Txt K mg) (TS : Stg K mg CS) (S : Spm K CP "__eq__" fE) (FE : Fun K "__eq__" "Policy.__eq__" sPEq fE fdE) (bE : Binds K fdE ["self", "other"] []) (GE : FnOk P w K mg base CX0 1 fE fdE ["self", "other"] (spPEq K CP)) :
    FnOk P w K mg base CX0 3 f fd ["self", "other"] (spSEq K CS CP) := by
  refine F.ok scSEq (fun vs H Q E h => ?_) (fun cdv A outer s H vs Q E hr h => ?_)
  · obtain ⟨a, y, n, p, q, h, e, u, h2, e2, u2, c, rfl, _⟩ := h
    rfl
  · obtain ⟨a, y, n, p, q, h, e, u, h2, e2, u2, c, rfl, ⟨⟨dx, r, ha, hr1⟩, pp, pq⟩, hc, k⟩ := h
    refine ⟨_, pss_one (ps_ret (pe_and (pe_callB call_isi (by rfl) T.isi boot_isinstance (pa_cons (pv 1) (pa_cons (pe_glob (v := .ref CS) rfl TS.hm rfl) pa_nil)))
      (pe_and (pe_cmpR op_eq (pe_fld (pv 0) rfl) (pe_fld (pv 1) rfl) (nomark _)) (pe_one (pe_cmpR (op_eqTO S (fn_imp GE eq_RPol) bE pass0 hr) (pe_fld (pv 0) rfl) (pe_fld (pv 1) rfl) (nomark _)))))), ?_⟩
    rcases hc with ⟨b, n', p', q', h', e', u', h2', e2', u2', rfl, ⟨⟨dy, r', hb, hr2⟩, pp', pq'⟩, rfl⟩ | ⟨rfl, tb, hty, hk⟩
    · refine s_ret (v := .bl (decide (n = n') && (polC h e u h' e' u' && polC h2 e2 u2 h2' e2' u2'))) (ev_is (ev_andV (a := true) (b := decide (n = n') && (polC h e u h' e' u' && polC h2 e2 u2 h2' e2' u2')) (ev_isC (ev_var rfl) (fun H1 e => TS.k.ty (e _ _ hb)) kit_self) fun _ => ?_) (congrArg V.bl (Bool.true_and _))) k
      refine ev_andV (ev_is (ev_op (ev_fld (ev_var rfl) ha TS.k.cl TS.ns rfl) (ev_fld (ev_var rfl) hb TS.k.cl TS.ns rfl) (rv_eq rfl)) (congrArg V.bl (decide_eq_decide.mpr ⟨fun z => by injection z, fun z => by rw [z]⟩))) fun _ => ?_
      refine ev_op (ev_fld (ev_var rfl) ha TS.k.cl TS.np rfl) (ev_fld (ev_var rfl) hb TS.k.cl TS.np rfl) fun H1 e1 Q' kq => ?_
      refine ⟨r, r', [p, q], [p', q'], fun i => if i = 0 then polC h e u h' e' u' else polC h2 e2 u2 h2' e2' u2', rfl, rfl, ex_t e1 hr1, ex_t e1 hr2, rfl, ?_, fun H2 x2 => ?_⟩
      · intro i a1 b1 g1 g2
        match i, g1, g2 with
        | 0, g1, g2 =>
          have z1 : p = a1 := by simpa using g1
          have z2 : p' = b1 := by simpa using g2
          subst z1 z2
          refine ⟨?_, ?_, fun H' e' => ⟨_, _, _, _, _, _, (pp.ex e1).ex e', (pp'.ex e1).ex e', if_pos rfl⟩, fun z => ?_⟩
          · obtain ⟨d, hd⟩ := pp.ex e1
            exact ⟨d, _, hd⟩
          · obtain ⟨d, hd⟩ := pp'.ex e1
            exact ⟨d, _, hd⟩
          · subst z
            obtain ⟨y1, y2, y3⟩ := pol_one pp pp'
            show polC h e u h' e' u' = true
            rw [y1, y2, y3]
            exact polC_same
        | 1, g1, g2 =>
          have z1 : q = a1 := by simpa using g1
          have z2 : q' = b1 := by simpa using g2
          subst z1 z2
          refine ⟨?_, ?_, fun H' e' => ⟨_, _, _, _, _, _, (pq.ex e1).ex e', (pq'.ex e1).ex e', if_neg (by decide)⟩, fun z => ?_⟩
          · obtain ⟨d, hd⟩ := pq.ex e1
            exact ⟨d, _, hd⟩
          · obtain ⟨d, hd⟩ := pq'.ex e1
            exact ⟨d, _, hd⟩
          · subst z
            obtain ⟨y1, y2, y3⟩ := pol_one pq pq'
            show polC h2 e2 u2 h2' e2' u2' = true
            rw [y1, y2, y3]
            exact polC_same
        | i + 2, g1, _ => exact absurd g1 (by simp)
      · have ec : decide (∀ i, i < [p, q].length → (if i = 0 then polC h e u h' e' u' else polC h2 e2 u2 h2' e2' u2') = true) = (polC h e u h' e' u' && polC h2 e2 u2 h2' e2' u2') := by
          cases c1 : polC h e u h' e' u' with
          | false =>
            refine decide_eq_false fun z => ?_
            have y := z 0 (by show 0 < 2; decide)
            rw [if_pos rfl] at y
            cases y
          | true =>
            cases c2 : polC h2 e2 u2 h2' e2' u2' with
            | false =>
              refine decide_eq_false fun z => ?_
              have y := z 1 (by show 1 < 2; decide)
              rw [if_neg (by decide)] at y
              cases y
            | true => exact decide_eq_true fun i _ => by split <;> rfl
        rw [ec]
        exact kq H2 x2
    · exact s_ret (v := .bl false) (ev_andV (a := false) (b := false) (ev_isC (ev_var rfl) hty hk) fun z => nomatch z) k
/-! ### texts of settings -/
end
end Lw

/-! ### a turn, as a pure model -/
namespace Tn
open PySem L3
structure Stc where
  kept : Bool
  blk : Bool
  stk : Bool
  pend : Int
  quick : Int
abbrev Stp := Stc × Bool × Int
/-- the speaker's hold, the listener's every -/
structure Cf where
  h : Str
  e : Int
structure RF where
  ack : Int
  last : Bool
  pend : Int
  quick : Int
/-- min(a, b), max(a, b) -/
def mn (a b : Int) : Int := if b < a then b else a
def mx (a b : Int) : Int := if b > a then b else a
def recv (e full pend quick : Int) : RF :=
  if e = 0 then ⟨mn full quick, decide (full - mn full quick = 0), 0, quick - mn full quick⟩
  else ⟨mn full quick + (pend + (full - mn full quick)) / e, decide ((pend + (full - mn full quick)) % e = 0), (pend + (full - mn full quick)) % e, quick - mn full quick⟩
def rest (h : Str) (pend quick ack : Int) : Stp := (⟨false, !decide (h = "off"), !decide (h = "off") && decide (quick = 0), pend, mx (quick - 1) 0⟩, true, ack + mn quick 1)
/-- behind the full segments: blocked, stuck, acknowledgments, pending, quick -/
structure Mid where
  blk : Bool
  stk : Bool
  ack : Int
  pend : Int
  quick : Int
def mid (c : Cf) (s : Stc) (full : Int) : Mid :=
  if full > 0 then
    (if c.h = "all" then ⟨true, !(recv c.e full s.pend s.quick).last, (recv c.e full s.pend s.quick).ack, (recv c.e full s.pend s.quick).pend, (recv c.e full s.pend s.quick).quick⟩
     else if (recv c.e full s.pend s.quick).ack > 0 then ⟨s.blk, false, (recv c.e full s.pend s.quick).ack, (recv c.e full s.pend s.quick).pend, (recv c.e full s.pend s.quick).quick⟩
     else ⟨s.blk, s.stk, (recv c.e full s.pend s.quick).ack, (recv c.e full s.pend s.quick).pend, (recv c.e full s.pend s.quick).quick⟩)
  else ⟨s.blk, s.stk, 0, s.pend, s.quick⟩
def write (c : Cf) (s : Stc) (full : Int) (has : Bool) (mode : Str) : Stp :=
  if (has && (decide (mode = "push") || (decide (mode = "plain") && !(mid c s full).blk))) = true then rest c.h (mid c s full).pend (mid c s full).quick (mid c s full).ack
  else (⟨has && decide (mode = "more"), (mid c s full).blk, (mid c s full).stk, (mid c s full).pend, (mid c s full).quick⟩, false, (mid c s full).ack)
def clear (c : Cf) (s : Stc) (has : Bool) : Stp :=
  if (has && (!s.kept && !s.stk)) = true then rest c.h s.pend s.quick 0 else (⟨s.kept, s.stk, s.stk, s.pend, s.quick⟩, false, 0)
def stD (s : Stc) : PyData := .tuple [.bool s.kept, .bool s.blk, .bool s.stk, .int s.pend, .int s.quick]
def stpD (p : Stp) : PyData := .tuple [stD p.1, .bool p.2.1, .int p.2.2]
/-- the keys of the caches -/
abbrev WK := Stc × Int × Bool × Str
abbrev CK := Stc × Bool
def wkD (k : WK) : PyData := .tuple [stD k.1, .int k.2.1, .bool k.2.2.1, .str k.2.2.2]
def ckD (k : CK) : PyData := .tuple [stD k.1, .bool k.2]
def wF (c : Cf) (k : WK) : PyData := stpD (write c k.1 k.2.1 k.2.2.1 k.2.2.2)
def cF (c : Cf) (k : CK) : PyData := stpD (clear c k.1 k.2)
theorem b_inj {a b : Bool} (h : (if a = true then (1 : Int) else 0) = if b = true then 1 else 0) : a = b := by
  cases a <;> cases b <;> first | rfl | (exfalso; revert h; decide)
theorem st_inj {a b : Stc} (h : nkD (stD a) = nkD (stD b)) : a = b := by
  obtain ⟨a1, a2, a3, a4, a5⟩ := a
  obtain ⟨b1, b2, b3, b4, b5⟩ := b
  simp only [stD, nkD, nkAll, NestedKey.tup.injEq, NestedKey.num.injEq, List.cons.injEq, and_true] at h
  obtain ⟨h1, h2, h3, h4, h5⟩ := h
  rw [b_inj h1, b_inj h2, b_inj h3, h4, h5]
theorem wkd (c : Cf) : Ckd wkD (wF c) where
  key := fun _ => rfl
  val := fun _ => rfl
  dep := fun _ => by simp [wkD, stD, nkD, nkAll, NestedKey.depth, NestedKey.depthAll]
  inj := fun a b h => by
    obtain ⟨a1, a2, a3, a4⟩ := a
    obtain ⟨b1, b2, b3, b4⟩ := b
    have h' : nkD (stD a1) = nkD (stD b1) ∧ a2 = b2 ∧ (if a3 = true then (1 : Int) else 0) = (if b3 = true then 1 else 0) ∧ a4 = b4 := by
      have z := h
      simp only [wkD, nkD, nkAll, NestedKey.tup.injEq, NestedKey.num.injEq, NestedKey.text.injEq, List.cons.injEq, and_true] at z
      exact z
    obtain ⟨h1, h2, h3, h4⟩ := h'
    rw [st_inj h1, h2, b_inj h3, h4]
theorem ckd (c : Cf) : Ckd ckD (cF c) where
  key := fun _ => rfl
  val := fun _ => rfl
  dep := fun _ => by simp [ckD, stD, nkD, nkAll, NestedKey.depth, NestedKey.depthAll]
  inj := fun a b h => by
    obtain ⟨a1, a2⟩ := a
    obtain ⟨b1, b2⟩ := b
    have h' : nkD (stD a1) = nkD (stD b1) ∧ (if a2 = true then (1 : Int) else 0) = (if b2 = true then 1 else 0) := by
      have z := h
      simp only [ckD, nkD, nkAll, NestedKey.tup.injEq, NestedKey.num.injEq, List.cons.injEq, and_true] at z
      exact z
    rw [st_inj h'.1, b_inj h'.2]
end Tn
namespace L3
open PySem PySem.Spec PyProof.Rows L2 Evl
/-! ### o.f as a target -/
def gFld (K : PySem.W.Frag) (to : TE) (f : Str) : TG := fun v σ H Q => to σ H fun x H1 => ∃ a C dx fs, x = .ref a ∧ H1 a = some (.ins C dx fs) ∧ Cls K C ∧ NoAttr K C f ∧ fs.length < 1000 ∧ Q σ (upd H1 a (.ins C dx (putF f v fs)))
theorem pg_fld {X : Cx} {o : Expr} {to : TE} {f : Str} {pos : Pos} (ho : PE X o to) : PG X (.Attribute o f pos) (gFld X.K to f) := by
  refine ⟨fun pins s σ H v u Q I r h => ?_⟩
  refine PySem.W.kas_attr (thn (ho.run pins s σ H _ I h) fun ov s1 ⟨x, H1, I1, rx, a, C, dx, fs, ex, ea, c, n, l, q⟩ => ?_)
  subst ex
  obtain rfl : ov = Value.ref a := rx
  exact setattr_ok I1 ea c n l r fun s3 I3 => ⟨σ, _, I3, q⟩
end L3
namespace Lw
open PySem PySem.Spec PyProof.Rows L2 Evl L3 ClX Tn
abbrev tIni : Stmt := inClass (top 19) 0
abbrev tAW : Stmt := inClass (top 19) 1
abbrev tAC : Stmt := inClass (top 19) 2
abbrev tWr : Stmt := inClass (top 19) 4
abbrev tCl : Stmt := inClass (top 19) 5
abbrev tRest : Stmt := inClass (top 19) 6
abbrev tRecv : Stmt := inClass (top 19) 7
/-- what is read of the class Stances -/
structure Tcs (K : PySem.W.Frag) (mg : Str → Option Value) (CT : Addr) : Prop where
  hm : mg "Stances" = some (.ref CT)
  k : Kls K CT
  nh : NoAttr K CT "_hold"
  ne : NoAttr K CT "_every"
  nw : NoAttr K CT "_known_writes"
  nc : NoAttr K CT "_known_clearings"
def tcF (c : Cf) (dw dc : Addr) : List (Str × V) := [("_hold", .str c.h), ("_every", .int c.e), ("_known_writes", .ref dw), ("_known_clearings", .ref dc)]
/-- the stances at st, their caches at dw and dc -/
def TcAt (CT : Addr) (H : Hp) (st dw dc : Addr) (c : Cf) : Prop := ∃ dx, H st = some (.ins CT dx (tcF c dw dc))
theorem TcAt.ex {CT st dw dc : Addr} {H H1 : Hp} {c : Cf} (t : TcAt CT H st dw dc c) (e : Ex H H1) : TcAt CT H1 st dw dc c := by
  obtain ⟨dx, h⟩ := t
  exact ⟨dx, e _ _ h⟩
def okE (e : Int) : Prop := 0 ≤ e ∧ e ≤ 9
theorem okE.div {e i : Int} (h : okE e) (n : e ≠ 0) : CDivP i e := ⟨by have := h.1; omega, PyProof.noPylong_small (by have := h.1; have := h.2; omega)⟩
section
variable {P : Program} {w : World} {K : PySem.W.Frag} {mg : Str → Option Value} {base : Heap} {CT : Addr}
theorem rc_min2 {H : Hp} {i j : Int} : RC (fun xs H Q => ∃ i j, xs = [V.int i, V.int j] ∧ Q (.int (if j < i then j else i)) H) [.int i, .int j] H (.int (mn i j)) := fun H1 e Q q => ⟨i, j, rfl, q H1 (Ex.refl H1)⟩
theorem rc_max2 {H : Hp} {i j : Int} : RC (fun xs H Q => ∃ i j, xs = [V.int i, V.int j] ∧ Q (.int (if j > i then j else i)) H) [.int i, .int j] H (.int (mx i j)) := fun H1 e Q q => ⟨i, j, rfl, q H1 (Ex.refl H1)⟩
theorem dI {i j : Int} : decide (V.int i = V.int j) = decide (i = j) := decide_eq_decide.mpr ⟨fun z => by injection z, fun z => by rw [z]⟩
theorem dS {i j : Str} : decide (V.str i = V.str j) = decide (i = j) := decide_eq_decide.mpr ⟨fun z => by injection z, fun z => by rw [z]⟩
/-! ### _receive_full -/
abbrev rcPs : List Str := ["self", "full", "pending", "quick"]
def spRecv (CT : Addr) : Sp := fun vs H Q _ => ∃ (st dw dc : Addr) (c : Cf) (full pend quick : Int), vs = [.ref st, .int full, .int pend, .int quick] ∧ TcAt CT H st dw dc c ∧ okE c.e ∧
  ∀ p H', H p = none → Ex H H' → H' p = some (.tup [.int (recv c.e full pend quick).ack, .bl (recv c.e full pend quick).last, .int (recv c.e full pend quick).pend, .int (recv c.e full pend quick).quick]) → Q (.ref p) H'
theorem scRecv : FnScope ["self", "full", "pending", "quick", "early", "late", "due"] rcPs (defScope tRecv) := ⟨rfl, rfl, rfl, by decide +kernel, rfl, by decide +kernel, by decide +kernel⟩
theorem ok_recv {f : Addr} {fd : FuncData} (F : Fun K "_receive_full" "Stances._receive_full" tRecv f fd) (T : Txt K mg) (hD : mg "divmod" = none) (TC : Tcs K mg CT) : FnOk P w K mg base CX0 1 f fd rcPs (spRecv CT) := by
  refine F.ok scRecv (fun vs H Q E h => ?_) (fun cdv A outer s H vs Q E hr h => ?_)
  · obtain ⟨st, dw, dc, c, full, pend, quick, rfl, _⟩ := h
    rfl
  · obtain ⟨st, dw, dc, c, full, pend, quick, rfl, ⟨dx, hs⟩, he, k⟩ := h
    refine ⟨_, pss_cons (ps_set (i := 4) scRecv.nd rfl (Or.inl rfl) (pe_callB (call_min2 rfl) (by rfl) T.min PyProof.Rows.boot_min (pa_cons (pv 1) (pa_cons (pv 3) pa_nil))))
      (pss_cons (ps_set (i := 5) scRecv.nd rfl (Or.inl rfl) (pe_op op_sub (pv 1) (pv 4)))
      (pss_cons (ps_if (pt_cmpR op_eq (pe_fld (pv 0) rfl) pe_int (nomark _)) (pss_one (ps_ret (pe_tup (pa_cons (pv 4) (pa_cons (pe_cmpR op_eq (pv 5) pe_int (nomark _)) (pa_cons pe_int (pa_cons (pe_op op_sub (pv 3) (pv 4)) pa_nil))))))) pss_nil)
      (pss_cons (ps_asg (pe_callB call_divmodW (by rfl) hD (by decide +kernel) (pa_cons (pe_op op_add (pv 2) (pv 5)) (pa_cons (pe_fld (pv 0) rfl) pa_nil))) (pg_tup rfl (pgs_cons (pg_name (i := 6) scRecv.nd rfl (Or.inl rfl)) (pgs_cons (pg_name (i := 2) scRecv.nd rfl (Or.inl rfl)) pgs_nil))))
      (pss_one (ps_ret (pe_tup (pa_cons (pe_op op_add (pv 4) (pv 6)) (pa_cons (pe_cmpR op_eq (pv 2) pe_int (nomark _)) (pa_cons (pv 2) (pa_cons (pe_op op_sub (pv 3) (pv 4)) pa_nil)))))))))), ?_⟩
    refine q_asg (ev_cb (ea_cons (ev_var rfl) (ea_cons (ev_var rfl) ea_nil)) rc_min2) fun H1 e1 => ?_
    refine q_asg (ev_op (ev_var rfl) (ev_var rfl) rv_I0) fun H2 e2 => ?_
    have e12 := e1.trans e2
    refine q_when (b := decide (c.e = 0)) (et_is (et_test (ev_op (ev_fld (ev_var rfl) (e12 _ _ hs) TC.k.cl TC.ne rfl) ev_c (rv_eq rfl))) dI) (fun hb H3 e3 => ?_) fun hb H3 e3 => ?_
    · have z : c.e = 0 := of_decide_eq_true hb
      refine s_retU (eu_tup (ea_cons (ev_var rfl) (ea_cons (ev_is (ev_op (ev_var rfl) ev_c (rv_eq rfl)) (congrArg V.bl dI)) (ea_cons ev_c (ea_cons (ev_op (ev_var rfl) (ev_var rfl) rv_I0) ea_nil)))) (by show 4 ≤ 100000; decide)) fun p H4 hp e4 h4 => ?_
      have eA := e12.trans e3
      refine k p H4 (fresh_back eA hp) (eA.trans e4) ?_
      rw [h4]
      unfold recv
      rw [if_pos z]
    · have z : c.e ≠ 0 := of_decide_eq_false hb
      have eA := e12.trans e3
      refine ev_op (ev_var rfl) (ev_var rfl) rv_I0 H3 (Ex.refl H3) _ fun H4 e4 => ?_
      refine ev_fld (ev_var rfl) ((eA.trans e4) _ _ hs) TC.k.cl TC.ne rfl H4 (Ex.refl H4) _ fun H5 e5 => ⟨_, _, rfl, he.div z, fun t ht => ?_⟩
      refine ⟨t, _, rfl, st_of upd_same, rfl, _, _, rfl, _, _, rfl, rfl, ?_⟩
      have eB : Ex H (upd H5 t (.tup [.int ((pend + (full - mn full quick)) / c.e), .int ((pend + (full - mn full quick)) % c.e)])) := ((eA.trans e4).trans e5).trans (Ex.new ht)
      refine s_retU (eu_tup (ea_cons (ev_op (ev_var rfl) (ev_var rfl) rv_I0) (ea_cons (ev_is (ev_op (ev_var rfl) ev_c (rv_eq rfl)) (congrArg V.bl dI)) (ea_cons (ev_var rfl) (ea_cons (ev_op (ev_var rfl) (ev_var rfl) rv_I0) ea_nil)))) (by show 4 ≤ 100000; decide)) fun p H6 hp e6 h6 => ?_
      refine k p H6 (fresh_back eB hp) (eB.trans e6) ?_
      rw [h6]
      unfold recv
      rw [if_neg z]
end
end Lw

namespace L3
open PySem PySem.Spec PyProof.Rows L2 Evl
/-! ### values told by their data -/
def DvX (K : PySem.W.Frag) (te : TE) (σ : L2.St) (H : Hp) (d : PyData) : Prop := ∀ H1, Ex H H1 → ∀ Q : VK, (∀ z H2, Ex H1 H2 → Dp K H2 z d → Q z H2) → te σ H1 Q
def DvsX (K : PySem.W.Frag) (ta : TA) (σ : L2.St) (H : Hp) (ds : List PyData) : Prop := ∀ H1, Ex H H1 → ∀ Q : List V → Hp → Prop, (∀ zs H2, Ex H1 H2 → DpAll K H2 zs ds → Q zs H2) → ta σ H1 Q
section
variable {K : PySem.W.Frag} {σ : L2.St} {H : Hp} {te : TE} {ta : TA} {d : PyData} {ds : List PyData} {v : V} {D : Ends} {tz : TS}
theorem dvx_ev (h : Ev te σ H v) (hd : Dp K H v d) : DvX K te σ H d := fun H1 e Q q => h H1 e _ fun H2 e2 => q v H2 e2 (dp_ex (e.trans e2) hd)
theorem dvx_b {b : Bool} (h : Ev te σ H (.bl b)) : DvX K te σ H (.bool b) := dvx_ev h (.bl b)
theorem dvx_i {i : Int} (h : Ev te σ H (.int i)) : DvX K te σ H (.int i) := dvx_ev h (.int i)
theorem dvsx_nil : DvsX K tNil σ H [] := fun H1 _ Q q => q [] H1 (Ex.refl H1) .nil
theorem dvsx_cons (h : DvX K te σ H d) (hr : DvsX K ta σ H ds) : DvsX K (tCons te ta) σ H (d :: ds) := fun H1 e Q q =>
  h H1 e _ fun z H2 e2 hz => hr H2 (e.trans e2) _ fun zs H3 e3 hzs => q (z :: zs) H3 (e2.trans e3) (.cons (dp_ex e3 hz) hzs)
theorem dvx_tup (h : DvsX K ta σ H ds) (hl : ds.length ≤ 100000) : DvX K (tTup ta) σ H (.tuple ds) := fun H1 e Q q =>
  h H1 e _ fun zs H2 e2 hzs => ⟨sz_of (by rw [dps_len' hzs]; exact hl), fun p hp => q _ _ (e2.trans (Ex.new hp)) (.tup (st_of upd_same) (dps_ex (Ex.new hp) hzs))⟩
theorem dvx_lst (h : DvsX K ta σ H ds) (hl : ds.length ≤ 100000) : DvX K (tLst ta) σ H (.list ds) := fun H1 e Q q =>
  h H1 e _ fun zs H2 e2 hzs => ⟨sz_of (by rw [dps_len' hzs]; exact hl), fun p hp => q _ _ (e2.trans (Ex.new hp)) (.lst (sq_of upd_same) (dps_ex (Ex.new hp) hzs))⟩
theorem s_retD (h : DvX K te σ H d) (k : ∀ z H1, Ex H H1 → Dp K H1 z d → D.rt z H1) : tRet te D σ H := h H (Ex.refl H) _ k
theorem q_asgX {i : Nat} (h : DvX K te σ H d) (k : ∀ z H1, Ex H H1 → Dp K H1 z d → tz D (σ.set i (some z)) H1) : tSeq (tAsg te (gName i)) tz D σ H := h H (Ex.refl H) _ k
theorem dvx_is {d' : PyData} (h : DvX K te σ H d) (e : d = d') : DvX K te σ H d' := by
  rw [← e]
  exact h
end
end L3
namespace Lw
open PySem PySem.Spec PyProof.Rows L2 Evl L3 ClX Tn
section
variable {P : Program} {w : World} {K : PySem.W.Frag} {mg : Str → Option Value} {base : Heap} {CT : Addr}
theorem dp_st {H : Hp} {v : V} {s : Stc} (h : Dp K H v (stD s)) : ∃ a, v = .ref a ∧ SqT K H a [.bl s.kept, .bl s.blk, .bl s.stk, .int s.pend, .int s.quick] := by
  cases h with
  | tup hs ha =>
    cases ha with
    | cons a1 r =>
    cases r with
    | cons a2 r =>
    cases r with
    | cons a3 r =>
    cases r with
    | cons a4 r =>
    cases r with
    | cons a5 r =>
    cases r
    cases a1
    cases a2
    cases a3
    cases a4
    cases a5
    exact ⟨_, rfl, hs⟩
theorem dp_stp {H : Hp} {v : V} {p : Stp} (h : Dp K H v (stpD p)) : ∃ a t, v = .ref a ∧ SqT K H a [t, .bl p.2.1, .int p.2.2] ∧ Dp K H t (stD p.1) := by
  cases h with
  | tup hs ha =>
    cases ha with
    | cons a1 r =>
    cases r with
    | cons a2 r =>
    cases r with
    | cons a3 r =>
    cases r
    cases a2
    cases a3
    exact ⟨_, _, rfl, hs, a1⟩
/-! ### _send_rest -/
abbrev rsPs : List Str := ["self", "pending", "quick", "acknowledgments"]
def spRest (K : PySem.W.Frag) (CT : Addr) : Sp := fun vs H Q _ => ∃ (st dw dc : Addr) (c : Cf) (pend quick ack : Int), vs = [.ref st, .int pend, .int quick, .int ack] ∧ TcAt CT H st dw dc c ∧ ∀ v H', Ex H H' → Dp K H' v (stpD (rest c.h pend quick ack)) → Q v H'
theorem scRest : FnScope ["self", "pending", "quick", "acknowledgments", "blocked", "stance"] rsPs (defScope tRest) := ⟨rfl, rfl, rfl, by decide +kernel, rfl, by decide +kernel, by decide +kernel⟩
theorem ok_rest {f : Addr} {fd : FuncData} (F : Fun K "_send_rest" "Stances._send_rest" tRest f fd) (T : Txt K mg) (TC : Tcs K mg CT) : FnOk P w K mg base CX0 1 f fd rsPs (spRest K CT) := by
  refine F.ok scRest (fun vs H Q E h => ?_) (fun cdv A outer s H vs Q E hr h => ?_)
  · obtain ⟨st, dw, dc, c, pend, quick, ack, rfl, _⟩ := h
    rfl
  · obtain ⟨st, dw, dc, c, pend, quick, ack, rfl, ⟨dx, hs⟩, k⟩ := h
    refine ⟨_, pss_cons (ps_set (i := 4) scRest.nd rfl (Or.inl rfl) (pe_cmpR op_ne (pe_fld (pv 0) rfl) pe_str (nomark _)))
      (pss_cons (ps_set (i := 5) scRest.nd rfl (Or.inl rfl) (pe_tup (pa_cons pe_bl (pa_cons (pv 4) (pa_cons (pe_and (pv 4) (pe_one (pe_cmpR op_eq (pv 2) pe_int (nomark _)))) (pa_cons (pv 1) (pa_cons (pe_callB (call_max2 rfl) (by rfl) T.max PyProof.Rows.boot_max (pa_cons (pe_op op_sub (pv 2) pe_int) (pa_cons pe_int pa_nil))) pa_nil)))))))
      (pss_one (ps_ret (pe_tup (pa_cons (pv 5) (pa_cons pe_bl (pa_cons (pe_op op_add (pv 3) (pe_callB (call_min2 rfl) (by rfl) T.min PyProof.Rows.boot_min (pa_cons (pv 2) (pa_cons pe_int pa_nil)))) pa_nil))))))), ?_⟩
    refine q_asg (v := .bl (!decide (c.h = "off"))) (ev_is (ev_op (ev_fld (ev_var rfl) hs TC.k.cl TC.nh rfl) ev_c (rv_ne rfl)) (by rw [dS])) fun H1 e1 => ?_
    refine q_asgX (K := K) (d := stD (rest c.h pend quick ack).1) (dvx_tup (dvsx_cons (dvx_b ev_c) (dvsx_cons (dvx_b (ev_var rfl)) (dvsx_cons (dvx_b (ev_andV (ev_var rfl) fun _ => ev_is (ev_op (ev_var rfl) ev_c (rv_eq rfl)) (congrArg V.bl dI))) (dvsx_cons (dvx_i (ev_var rfl)) (dvsx_cons (dvx_i (ev_cb (ea_cons (ev_op (ev_var rfl) ev_c rv_I0) (ea_cons ev_c ea_nil)) rc_max2)) dvsx_nil))))) (by show 5 ≤ 100000; decide)) fun z H2 e2 hz => ?_
    refine s_retD (K := K) (d := stpD (rest c.h pend quick ack)) (dvx_tup (dvsx_cons (dvx_ev (ev_var rfl) hz) (dvsx_cons (dvx_b ev_c) (dvsx_cons (dvx_i (ev_op (ev_var rfl) (ev_cb (ea_cons (ev_var rfl) (ea_cons ev_c ea_nil)) rc_min2) rv_I0)) dvsx_nil))) (by show 3 ≤ 100000; decide)) fun y H3 e3 hy => ?_
    exact k y H3 ((e1.trans e2).trans e3) hy
theorem dvx_rest {σ : L2.St} {H : Hp} {ta tb tc td : TE} {st dw dc : Addr} {c : Cf} {pend quick ack : Int} {E : XK} (t : TcAt CT H st dw dc c) (ha : Ev ta σ H (.ref st)) (hb : Ev tb σ H (.int pend)) (hc : Ev tc σ H (.int quick)) (hd : Ev td σ H (.int ack)) :
    DvX K (tMeth CT "_send_rest" (spRest K CT) [] E ta (tCons tb (tCons tc (tCons td tNil)))) σ H (stpD (rest c.h pend quick ack)) := fun H1 e Q q =>
  ha H1 e _ fun H2 e2 => by
    obtain ⟨dx, h2⟩ := t.ex (e.trans e2)
    refine ⟨st, dx, _, rfl, h2, rfl, (ea_cons hb (ea_cons hc (ea_cons hd ea_nil))) H2 (e.trans e2) _ fun H3 e3 => ?_⟩
    exact ⟨st, dw, dc, c, pend, quick, ack, rfl, t.ex ((e.trans e2).trans e3), fun v H4 e4 hv => q v H4 ((e2.trans e3).trans e4) hv⟩
/-! ### _clear_way -/
abbrev clPs : List Str := ["self", "stance", "has_rest"]
def spClW (K : PySem.W.Frag) (CT : Addr) : Sp := fun vs H Q _ => ∃ (st dw dc : Addr) (c : Cf) (x : V) (s : Stc) (has : Bool), vs = [.ref st, x, .bl has] ∧ TcAt CT H st dw dc c ∧ Dp K H x (stD s) ∧ ∀ v H', Ex H H' → Dp K H' v (stpD (clear c s has)) → Q v H'
abbrev clN : List Str := ["self", "stance", "has_rest", "kept", "blocked", "stuck", "pending", "quick"]
theorem scClW : FnScope clN clPs (defScope tCl) := ⟨rfl, rfl, rfl, by decide +kernel, rfl, by decide +kernel, by decide +kernel⟩
theorem ok_clw {f fR : Addr} {fd fdR : FuncData} (F : Fun K "_clear_way" "Stances._clear_way" tCl f fd) (T : Txt K mg) (TC : Tcs K mg CT) (MR : Meth K CT "_send_rest" fR) (bR : Binds K fdR rsPs []) (GR : FnOk P w K mg base CX0 1 fR fdR rsPs (spRest K CT)) : FnOk P w K mg base CX0 2 f fd clPs (spClW K CT) := by
  refine F.ok scClW (fun vs H Q E h => ?_) (fun cdv A outer s H vs Q E hr h => ?_)
  · obtain ⟨st, dw, dc, c, x, s, has, rfl, _⟩ := h
    rfl
  · obtain ⟨st, dw, dc, c, x, s, has, rfl, t, hx, k⟩ := h
    refine ⟨_, pss_cons (ps_asg (pv 1) (pg_tup rfl (pgs_cons (pg_name (i := 3) scClW.nd rfl (Or.inl rfl)) (pgs_cons (pg_name (i := 4) scClW.nd rfl (Or.inl rfl)) (pgs_cons (pg_name (i := 5) scClW.nd rfl (Or.inl rfl)) (pgs_cons (pg_name (i := 6) scClW.nd rfl (Or.inl rfl)) (pgs_cons (pg_name (i := 7) scClW.nd rfl (Or.inl rfl)) pgs_nil)))))))
      (pss_cons (ps_if (PW.pt (pw_and (pt_val (pv 2)) (pw_and (pt_not (pt_val (pv 3))) (pw_and1 (pt_not (pt_val (pv 5))))))) (pss_one (ps_ret (pe_meth (pv 0) TC.k.cl MR GR hr bR .nil pass0 (pa_cons (pv 6) (pa_cons (pv 7) (pa_cons pe_int pa_nil)))))) pss_nil)
      (pss_one (ps_ret (pe_tup (pa_cons (pe_tup (pa_cons (pv 3) (pa_cons (pv 5) (pa_cons (pv 5) (pa_cons (pv 6) (pa_cons (pv 7) pa_nil)))))) (pa_cons pe_bl (pa_cons pe_int pa_nil))))))), ?_⟩
    obtain ⟨a, rfl, hs⟩ := dp_st hx
    refine ⟨_, rfl, a, _, rfl, hs, rfl, _, _, rfl, _, _, rfl, _, _, rfl, _, _, rfl, _, _, rfl, rfl, ?_⟩
    refine q_when (b := has && (!s.kept && !s.stk)) (et_and (et_B (ev_var rfl)) fun _ => et_and (et_not (et_B (ev_var rfl))) fun _ => et_not (et_B (ev_var rfl))) (fun hb H1 e1 => ?_) fun hb H1 e1 => ?_
    · refine s_retD (K := K) (dvx_rest (c := c) (t.ex e1) (ev_var rfl) (ev_var rfl) (ev_var rfl) ev_c) fun v H2 e2 hv => k v H2 (e1.trans e2) ?_
      unfold clear
      rw [if_pos hb]
      exact hv
    · refine s_retD (K := K) (d := stpD (clear c s has)) ?_ fun v H2 e2 hv => k v H2 (e1.trans e2) hv
      unfold clear
      rw [if_neg (by rw [hb]; simp)]
      exact dvx_tup (dvsx_cons (dvx_tup (dvsx_cons (dvx_b (ev_var rfl)) (dvsx_cons (dvx_b (ev_var rfl)) (dvsx_cons (dvx_b (ev_var rfl)) (dvsx_cons (dvx_i (ev_var rfl)) (dvsx_cons (dvx_i (ev_var rfl)) dvsx_nil))))) (by show 5 ≤ 100000; decide)) (dvsx_cons (dvx_b ev_c) (dvsx_cons (dvx_i ev_c) dvsx_nil))) (by show 3 ≤ 100000; decide)
end
end Lw

namespace Lw
open PySem PySem.Spec PyProof.Rows L2 Evl L3 ClX Tn
section
variable {P : Program} {w : World} {K : PySem.W.Frag} {mg : Str → Option Value} {base : Heap} {CT : Addr}
theorem stw_recv {σ : L2.St} {H : Hp} {ta tb tc td : TE} {st dw dc : Addr} {c : Cf} {full pend quick : Int} {E : XK} (t : TcAt CT H st dw dc c) (he : okE c.e) (ha : Ev ta σ H (.ref st)) (hb : Ev tb σ H (.int full)) (hc : Ev tc σ H (.int pend)) (hd : Ev td σ H (.int quick)) :
    EvU (tMeth CT "_receive_full" (spRecv CT) [] E ta (tCons tb (tCons tc (tCons td tNil)))) σ H [.int (recv c.e full pend quick).ack, .bl (recv c.e full pend quick).last, .int (recv c.e full pend quick).pend, .int (recv c.e full pend quick).quick] := fun H1 e Q q =>
  ha H1 e _ fun H2 e2 => by
    obtain ⟨dx, h2⟩ := t.ex (e.trans e2)
    refine ⟨st, dx, _, rfl, h2, rfl, (ea_cons hb (ea_cons hc (ea_cons hd ea_nil))) H2 (e.trans e2) _ fun H3 e3 => ?_⟩
    exact ⟨st, dw, dc, c, full, pend, quick, rfl, t.ex ((e.trans e2).trans e3), he, fun p H4 hp e4 h4 => q p H4 (fresh_back (e2.trans e3) hp) ((e2.trans e3).trans e4) h4⟩
/-! ### _write -/
abbrev wrPs : List Str := ["self", "stance", "full", "has_rest", "mode"]
abbrev wrN : List Str := ["self", "stance", "full", "has_rest", "mode", "kept", "blocked", "stuck", "pending", "quick", "acknowledgments", "is_last_covered"]
def spWrW (K : PySem.W.Frag) (CT : Addr) : Sp := fun vs H Q _ => ∃ (st dw dc : Addr) (c : Cf) (x : V) (s : Stc) (full : Int) (has : Bool) (mode : Str), vs = [.ref st, x, .int full, .bl has, .str mode] ∧ TcAt CT H st dw dc c ∧ okE c.e ∧ Dp K H x (stD s) ∧ ∀ v H', Ex H H' → Dp K H' v (stpD (Tn.write c s full has mode)) → Q v H'
theorem scWrW : FnScope wrN wrPs (defScope tWr) := ⟨rfl, rfl, rfl, by decide +kernel, rfl, by decide +kernel, by decide +kernel⟩
theorem ok_wrw {f fR fV : Addr} {fd fdR fdV : FuncData} (F : Fun K "_write" "Stances._write" tWr f fd) (T : Txt K mg) (TC : Tcs K mg CT) (MR : Meth K CT "_send_rest" fR) (bR : Binds K fdR rsPs []) (GR : FnOk P w K mg base CX0 1 fR fdR rsPs (spRest K CT))
    (MV : Meth K CT "_receive_full" fV) (bV : Binds K fdV rcPs []) (GV : FnOk P w K mg base CX0 1 fV fdV rcPs (spRecv CT)) : FnOk P w K mg base CX0 2 f fd wrPs (spWrW K CT) := by
  refine F.ok scWrW (fun vs H Q E h => ?_) (fun cdv A outer s H vs Q E hr h => ?_)
  · obtain ⟨st, dw, dc, c, x, s, full, has, mode, rfl, _⟩ := h
    rfl
  · obtain ⟨st, dw, dc, c, x, s, full, has, mode, rfl, t, he, hx, k⟩ := h
    refine ⟨_, pss_cons (ps_asg (pv 1) (pg_tup rfl (pgs_cons (pg_name (i := 5) scWrW.nd rfl (Or.inl rfl)) (pgs_cons (pg_name (i := 6) scWrW.nd rfl (Or.inl rfl)) (pgs_cons (pg_name (i := 7) scWrW.nd rfl (Or.inl rfl)) (pgs_cons (pg_name (i := 8) scWrW.nd rfl (Or.inl rfl)) (pgs_cons (pg_name (i := 9) scWrW.nd rfl (Or.inl rfl)) pgs_nil)))))))
      (pss_cons (ps_set (i := 10) scWrW.nd rfl (Or.inl rfl) pe_int)
      (pss_cons (ps_if (pt_cmpR op_gt (pv 2) pe_int (nomark _))
        (pss_cons (ps_asg (pe_meth (pv 0) TC.k.cl MV GV hr bV .nil pass0 (pa_cons (pv 2) (pa_cons (pv 8) (pa_cons (pv 9) pa_nil)))) (pg_tup rfl (pgs_cons (pg_name (i := 10) scWrW.nd rfl (Or.inl rfl)) (pgs_cons (pg_name (i := 11) scWrW.nd rfl (Or.inl rfl)) (pgs_cons (pg_name (i := 8) scWrW.nd rfl (Or.inl rfl)) (pgs_cons (pg_name (i := 9) scWrW.nd rfl (Or.inl rfl)) pgs_nil))))))
          (pss_one (ps_if (pt_cmpR op_eq (pe_fld (pv 0) rfl) pe_str (nomark _))
            (pss_cons (ps_set (i := 6) scWrW.nd rfl (Or.inl rfl) pe_bl) (pss_one (ps_set (i := 7) scWrW.nd rfl (Or.inl rfl) (pe_not (pv 11)))))
            (pss_one (ps_if (pt_cmpR op_gt (pv 10) pe_int (nomark _)) (pss_one (ps_set (i := 7) scWrW.nd rfl (Or.inl rfl) pe_bl)) pss_nil))))) pss_nil)
      (pss_cons (ps_if (PW.pt (pw_and (pt_val (pv 3)) (pw_and1 (PW.pt (pw_or (pt_cmpR op_eq (pv 4) pe_str (nomark _)) (pw_or1 (PW.pt (pw_and (pt_cmpR op_eq (pv 4) pe_str (nomark _)) (pw_and1 (pt_not (pt_val (pv 6))))))))))))
        (pss_one (ps_ret (pe_meth (pv 0) TC.k.cl MR GR hr bR .nil pass0 (pa_cons (pv 8) (pa_cons (pv 9) (pa_cons (pv 10) pa_nil)))))) pss_nil)
      (pss_cons (ps_set (i := 5) scWrW.nd rfl (Or.inl rfl) (pe_and (pv 3) (pe_one (pe_cmpR op_eq (pv 4) pe_str (nomark _)))))
      (pss_one (ps_ret (pe_tup (pa_cons (pe_tup (pa_cons (pv 5) (pa_cons (pv 6) (pa_cons (pv 7) (pa_cons (pv 8) (pa_cons (pv 9) pa_nil)))))) (pa_cons pe_bl (pa_cons (pv 10) pa_nil)))))))))), ?_⟩
    obtain ⟨a, rfl, hs⟩ := dp_st hx
    refine ⟨_, rfl, a, _, rfl, hs, rfl, _, _, rfl, _, _, rfl, _, _, rfl, _, _, rfl, _, _, rfl, rfl, ?_⟩
    refine q_asg ev_c fun H1 e1 => ?_
    generalize ht : (tSeq (tIfS (tAnd _ _) _ tNext) _ : TS) = tz
    have fin : ∀ (o : Option V) (H2 : Hp), Ex H H2 → tz { nx := fun _ H' => Q .non H', rt := Q } [some (.ref st), some (.ref a), some (.int full), some (.bl has), some (.str mode), some (.bl s.kept), some (.bl (mid c s full).blk), some (.bl (mid c s full).stk), some (.int (mid c s full).pend), some (.int (mid c s full).quick), some (.int (mid c s full).ack), o] H2 := fun o H2 e2 => by
      rw [← ht]
      refine q_when (b := has && (decide (mode = "push") || (decide (mode = "plain") && !(mid c s full).blk))) (et_and (et_B (ev_var rfl)) fun _ => et_or (et_is (et_test (ev_op (ev_var rfl) ev_c (rv_eq rfl))) dS) fun _ => et_and (et_is (et_test (ev_op (ev_var rfl) ev_c (rv_eq rfl))) dS) fun _ => et_not (et_B (ev_var rfl))) (fun hb H3 e3 => ?_) fun hb H3 e3 => ?_
      · refine s_retD (K := K) (dvx_rest (c := c) (t.ex (e2.trans e3)) (ev_var rfl) (ev_var rfl) (ev_var rfl) (ev_var rfl)) fun v H4 e4 hv => k v H4 ((e2.trans e3).trans e4) ?_
        unfold Tn.write
        rw [if_pos hb]
        exact hv
      · refine q_asg (ev_andV (ev_var rfl) fun _ => ev_is (ev_op (ev_var rfl) ev_c (rv_eq rfl)) (congrArg V.bl dS)) fun H4 e4 => ?_
        refine s_retD (K := K) (d := stpD (Tn.write c s full has mode)) ?_ fun v H5 e5 hv => k v H5 (((e2.trans e3).trans e4).trans e5) hv
        unfold Tn.write
        rw [if_neg (by rw [hb]; simp)]
        exact dvx_tup (dvsx_cons (dvx_tup (dvsx_cons (dvx_b (ev_var rfl)) (dvsx_cons (dvx_b (ev_var rfl)) (dvsx_cons (dvx_b (ev_var rfl)) (dvsx_cons (dvx_i (ev_var rfl)) (dvsx_cons (dvx_i (ev_var rfl)) dvsx_nil))))) (by show 5 ≤ 100000; decide)) (dvsx_cons (dvx_b ev_c) (dvsx_cons (dvx_i (ev_var rfl)) dvsx_nil))) (by show 3 ≤ 100000; decide)
    refine q_when (b := decide (full > 0)) (et_test (ev_op (ev_var rfl) ev_c rv_I0)) (fun hb H2 e2 => ?_) fun hb H2 e2 => ?_
    · have hf : full > 0 := of_decide_eq_true hb
      refine stw_recv (c := c) (t.ex (e1.trans e2)) he (ev_var rfl) (ev_var rfl) (ev_var rfl) (ev_var rfl) H2 (Ex.refl H2) _ fun p H3 hp e3 h3 => ?_
      refine ⟨p, _, rfl, st_of h3, rfl, _, _, rfl, _, _, rfl, _, _, rfl, _, _, rfl, rfl, ?_⟩
      have eA := (e1.trans e2).trans e3
      obtain ⟨dx, hst⟩ := t.ex eA
      refine s_if (b := decide (c.h = "all")) (et_is (et_test (ev_op (ev_fld (ev_var rfl) hst TC.k.cl TC.nh rfl) ev_c (rv_eq rfl))) dS) (fun hb2 H4 e4 => ?_) fun hb2 H4 e4 => ?_
      · refine q_asg ev_c fun H5 e5 => s_asg (ev_notV (ev_var rfl)) fun H6 e6 => ?_
        have z := fin (some (.bl (recv c.e full s.pend s.quick).last)) H6 (((eA.trans e4).trans e5).trans e6)
        unfold mid at z
        rw [if_pos hf, if_pos (of_decide_eq_true hb2)] at z
        exact z
      · refine s_if (b := decide ((recv c.e full s.pend s.quick).ack > 0)) (et_test (ev_op (ev_var rfl) ev_c rv_I0)) (fun hb3 H5 e5 => ?_) fun hb3 H5 e5 => ?_
        · refine s_asg ev_c fun H6 e6 => ?_
          have z := fin (some (.bl (recv c.e full s.pend s.quick).last)) H6 (((eA.trans e4).trans e5).trans e6)
          unfold mid at z
          rw [if_pos hf, if_neg (of_decide_eq_false hb2), if_pos (of_decide_eq_true hb3)] at z
          exact z
        · have z := fin (some (.bl (recv c.e full s.pend s.quick).last)) H5 ((eA.trans e4).trans e5)
          unfold mid at z
          rw [if_pos hf, if_neg (of_decide_eq_false hb2), if_neg (of_decide_eq_false hb3)] at z
          exact z
    · have z := fin none H2 (e1.trans e2)
      unfold mid at z
      rw [if_neg (of_decide_eq_false hb)] at z
      exact z
end
end Lw

namespace L3
open PySem PySem.Spec PyProof.Rows L2 Evl
section
variable {P : Program} {w : World} {α : Type} {K : PySem.W.Frag} {H : Hp} {σ : L2.St} {te ta tv : TE} {D : Ends} {tz : TS} {v : V} {x CD dx d b : Addr} {fs : List (Str × V)} {f : Str} {kd F : α → PyData} {a : α} {xs : List NkE}
theorem s_fldR (hv : Ev tv σ H v) (ha : Ev ta σ H (.ref x)) (hx : H x = some (.ins CD dx fs)) (cl : Cls K CD) (no : NoAttr K CD f) (hl : fs.length < 1000) (k : ∀ H1, Ex H H1 → D.nx σ (upd H1 x (.ins CD dx (putF f v fs)))) : sFld K ta tv f D σ H :=
  hv H (Ex.refl H) _ fun H1 e1 => ha H1 e1 _ fun H2 e2 => ⟨x, CD, dx, fs, rfl, (e1.trans e2) _ _ hx, cl, no, hl, k H2 (e1.trans e2)⟩
theorem q_fldR (hv : Ev tv σ H v) (ha : Ev ta σ H (.ref x)) (hx : H x = some (.ins CD dx fs)) (cl : Cls K CD) (no : NoAttr K CD f) (hl : fs.length < 1000) (k : ∀ H1, Ex H H1 → tz D σ (upd H1 x (.ins CD dx (putF f v fs)))) : tSeq (sFld K ta tv f) tz D σ H :=
  s_fldR (D := { D with nx := tz D }) hv ha hx cl no hl k
theorem s_retOp {r : R2} {tb : TE} {y z : V} (ha : Ev ta σ H y) (hb : Ev tb σ H z) (k : ∀ H1, Ex H H1 → r y z H1 D.rt) : tRet (tOp r ta tb) D σ H := ha H (Ex.refl H) _ fun H1 e1 => hb H1 e1 _ fun H2 e2 => k H2 (e1.trans e2)
theorem rv_niC (k : Ckd kd F) (hb : Dp K H (.ref b) (kd a)) (c : Cch P w K H d xs kd F) : RV (rNiC P w K kd F) (.ref b) (.ref d) H (.bl (!(atKey xs (nkD (kd a))).isSome)) := fun H1 e Q q =>
  ⟨b, d, a, xs, rfl, rfl, dp_ex e hb, c.ex k e, q H1 (Ex.refl H1)⟩
theorem ex_delS {H1 H2 : Hp} (e : Ex H1 H2) {o : HO} : Ex (del H1 x) (del (upd H2 x o) x) := by
  rw [del_upd]
  exact ex_del e
end
end L3
namespace Lw
open PySem PySem.Spec PyProof.Rows L2 Evl L3 ClX Tn
section
variable {P : Program} {w : World} {K : PySem.W.Frag} {mg : Str → Option Value} {base : Heap} {CT : Addr}
theorem dp_tupR {H : Hp} {v : V} {ds : List PyData} (h : Dp K H v (.tuple ds)) : ∃ b, v = .ref b := by
  cases h with
  | tup _ _ => exact ⟨_, rfl⟩
theorem TcAt.dl {H H1 : Hp} {st dw dc d : Addr} {c : Cf} (t : TcAt CT H st dw dc c) (h : ∀ u, H d = some u → ∀ C dx fs, u ≠ .ins C dx fs) (e : Ex (del H d) (del H1 d)) : TcAt CT H1 st dw dc c := by
  obtain ⟨dx, hs⟩ := t
  have n : st ≠ d := fun z => h _ (by rw [← z]; exact hs) _ _ _ rfl
  have z := e st _ (by rw [del_ne n]; exact hs)
  rw [del_ne n] at z
  exact ⟨dx, z⟩
theorem cch_ni {α : Type} {H : Hp} {d : Addr} {xs : List NkE} {kd F : α → PyData} (c : Cch P w K H d xs kd F) : ∀ u, H d = some u → ∀ C dx fs, u ≠ .ins C dx fs := fun u h C dx fs z => by
  rw [c.at_, z] at h
  cases h
theorem dvx_wrw {σ : L2.St} {H : Hp} {ta tb tc td te : TE} {st dw dc : Addr} {c : Cf} {s : Stc} {full : Int} {has : Bool} {mode : Str} {x : V} {E : XK} (t : TcAt CT H st dw dc c) (he : okE c.e) (hx : Dp K H x (stD s)) (ha : Ev ta σ H (.ref st)) (hb : Ev tb σ H x) (hc : Ev tc σ H (.int full)) (hd : Ev td σ H (.bl has)) (hm : Ev te σ H (.str mode)) :
    DvX K (tMeth CT "_write" (spWrW K CT) [] E ta (tCons tb (tCons tc (tCons td (tCons te tNil))))) σ H (stpD (Tn.write c s full has mode)) := fun H1 e Q q =>
  ha H1 e _ fun H2 e2 => by
    obtain ⟨dx, h2⟩ := t.ex (e.trans e2)
    refine ⟨st, dx, _, rfl, h2, rfl, (ea_cons hb (ea_cons hc (ea_cons hd (ea_cons hm ea_nil)))) H2 (e.trans e2) _ fun H3 e3 => ?_⟩
    exact ⟨st, dw, dc, c, x, s, full, has, mode, rfl, t.ex ((e.trans e2).trans e3), he, dp_ex ((e.trans e2).trans e3) hx, fun v H4 e4 hv => q v H4 ((e2.trans e3).trans e4) hv⟩
theorem dvx_clw {σ : L2.St} {H : Hp} {ta tb td : TE} {st dw dc : Addr} {c : Cf} {s : Stc} {has : Bool} {x : V} {E : XK} (t : TcAt CT H st dw dc c) (hx : Dp K H x (stD s)) (ha : Ev ta σ H (.ref st)) (hb : Ev tb σ H x) (hd : Ev td σ H (.bl has)) :
    DvX K (tMeth CT "_clear_way" (spClW K CT) [] E ta (tCons tb (tCons td tNil))) σ H (stpD (clear c s has)) := fun H1 e Q q =>
  ha H1 e _ fun H2 e2 => by
    obtain ⟨dx, h2⟩ := t.ex (e.trans e2)
    refine ⟨st, dx, _, rfl, h2, rfl, (ea_cons hb (ea_cons hd ea_nil)) H2 (e.trans e2) _ fun H3 e3 => ?_⟩
    exact ⟨st, dw, dc, c, x, s, has, rfl, t.ex ((e.trans e2).trans e3), dp_ex ((e.trans e2).trans e3) hx, fun v H4 e4 hv => q v H4 ((e2.trans e3).trans e4) hv⟩
/-! ### after_write -/
def spAW (P : Program) (w : World) (K : PySem.W.Frag) (CT : Addr) : Sp := fun vs H Q _ => ∃ (st dw dc : Addr) (c : Cf) (x : V) (s : Stc) (full : Int) (has : Bool) (mode : Str) (xs : List NkE), vs = [.ref st, x, .int full, .bl has, .str mode] ∧ TcAt CT H st dw dc c ∧ okE c.e ∧ Dp K H x (stD s) ∧ Cch P w K H dw xs wkD (wF c) ∧ xs.length ≤ 900000 ∧
  ∀ v H' ys, ys.length ≤ xs.length + 1 → Ex (del H dw) (del H' dw) → Cch P w K H' dw ys wkD (wF c) → Dp K H' v (stpD (Tn.write c s full has mode)) → Q v H'
theorem scAW : FnScope ["self", "stance", "full", "has_rest", "mode", "key"] wrPs (defScope tAW) := ⟨rfl, rfl, rfl, by decide +kernel, rfl, by decide +kernel, by decide +kernel⟩
theorem ok_aw {f fW : Addr} {fd fdW : FuncData} (F : Fun K "after_write" "Stances.after_write" tAW f fd) (TC : Tcs K mg CT) (MW : Meth K CT "_write" fW) (bW : Binds K fdW wrPs []) (GW : FnOk P w K mg base CX0 2 fW fdW wrPs (spWrW K CT)) : FnOk P w K mg base CX0 3 f fd wrPs (spAW P w K CT) := by
  refine F.ok scAW (fun vs H Q E h => ?_) (fun cdv A outer s H vs Q E hr h => ?_)
  · obtain ⟨st, dw, dc, c, x, s, full, has, mode, xs, rfl, _⟩ := h
    rfl
  · obtain ⟨st, dw, dc, c, x, s, full, has, mode, xs, rfl, t, he, hx, cc, hl, k⟩ := h
    have hr2 : Room 2 _ := hr.mono (by decide)
    refine ⟨_, pss_cons (ps_set (i := 5) scAW.nd rfl (Or.inl rfl) (pe_tup (pa_cons (pv 1) (pa_cons (pv 2) (pa_cons (pv 3) (pa_cons (pv 4) pa_nil))))))
      (pss_cons (ps_if (pt_cmpR (op_niC (wkd c) hr.units) (pv 5) (pe_fld (pv 0) rfl) rfl) (pss_one (ps_asg (pe_meth (pv 0) TC.k.cl MW GW hr2 bW .nil pass0 (pa_cons (pv 1) (pa_cons (pv 2) (pa_cons (pv 3) (pa_cons (pv 4) pa_nil))))) (pg_sub (pe_fld (pv 0) rfl) (pv 5) (set_C (wkd c) hr.units)))) pss_nil)
      (pss_one (ps_ret (pe_ix (ix_C (wkd c) hr.units) (pe_fld (pv 0) rfl) (pv 5) (fun _ _ => rfl))))), ?_⟩
    obtain ⟨key, hkey⟩ : ∃ key : WK, key = (s, full, has, mode) := ⟨_, rfl⟩
    refine q_asgX (K := K) (d := wkD key) (by rw [hkey]; exact dvx_tup (dvsx_cons (dvx_ev (ev_var rfl) hx) (dvsx_cons (dvx_i (ev_var rfl)) (dvsx_cons (dvx_b (ev_var rfl)) (dvsx_cons (dvx_ev (ev_var rfl) (.str mode)) dvsx_nil)))) (by show 4 ≤ 100000; decide)) fun z H1 e1 hz => ?_
    obtain ⟨b, rfl⟩ := dp_tupR hz
    have hv : wF c key = stpD (Tn.write c s full has mode) := by rw [hkey] <;> rfl
    generalize ht : (tRet _ : TS) = tz
    have fin : ∀ (H2 : Hp) (ys : List NkE), ys.length ≤ xs.length + 1 → Cch P w K H2 dw ys wkD (wF c) → (atKey ys (nkD (wkD key))).isSome = true → Ex (del H1 dw) (del H2 dw) → tz { nx := fun _ H' => Q .non H', rt := Q } [some (.ref st), some x, some (.int full), some (.bl has), some (.str mode), some (.ref b)] H2 := fun H2 ys h1 h2 h3 h4 => by
      rw [← ht]
      have c1 := cc.ex (wkd c) e1
      have t2 := (t.ex e1).dl (cch_ni c1) h4
      obtain ⟨dx, hs⟩ := t2
      have hz2 : Dp K H2 (.ref b) (wkD key) := dp_ext (ext_del c1.nt h4) rfl hz
      refine s_retOp (ev_fld (ev_var rfl) hs TC.k.cl TC.nw rfl) (ev_var rfl) fun H3 e3 => ⟨b, dw, key, ys, rfl, rfl, dp_ex e3 hz2, h2.ex (wkd c) e3, h3, fun v hv2 => ?_⟩
      exact k v H3 ys h1 (((ex_del e1).trans h4).trans (ex_del e3)) (h2.ex (wkd c) e3) (by rw [← hv]; exact hv2)
    obtain ⟨dx, hs⟩ := t.ex e1
    refine q_when (b := !(atKey xs (nkD (wkD key))).isSome) (et_test (ev_op (ev_var rfl) (ev_fld (ev_var rfl) hs TC.k.cl TC.nw rfl) (rv_niC (wkd c) hz (cc.ex (wkd c) e1)))) (fun hb H2 e2 => ?_) fun hb H2 e2 => ?_
    · have e12 := e1.trans e2
      refine dvx_wrw (c := c) (t.ex e12) he (dp_ex e12 hx) (ev_var rfl) (ev_var rfl) (ev_var rfl) (ev_var rfl) (ev_var rfl) H2 (Ex.refl H2) _ fun v H3 e3 hv3 => ?_
      refine ev_fld (ev_var rfl) ((e2.trans e3) _ _ hs) TC.k.cl TC.nw rfl H3 (Ex.refl H3) _ fun H4 e4 => ⟨_, rfl, b, dw, key, xs, rfl, rfl, dp_ex ((e2.trans e3).trans e4) hz, by rw [hv]; exact dp_ex e4 hv3, cc.ex (wkd c) ((e12.trans e3).trans e4), by omega, fun H5 ys y1 y2 y3 y4 => ?_⟩
      exact fin H5 ys y1 y2 y3 ((ex_del ((e2.trans e3).trans e4)).trans y4)
    · exact fin H2 xs (Nat.le_succ _) (cc.ex (wkd c) (e1.trans e2)) (by simpa using hb) (ex_del e2)
/-! ### after_clearing -/
def spAC (P : Program) (w : World) (K : PySem.W.Frag) (CT : Addr) : Sp := fun vs H Q _ => ∃ (st dw dc : Addr) (c : Cf) (x : V) (s : Stc) (has : Bool) (xs : List NkE), vs = [.ref st, x, .bl has] ∧ TcAt CT H st dw dc c ∧ Dp K H x (stD s) ∧ Cch P w K H dc xs ckD (cF c) ∧ xs.length ≤ 900000 ∧
  ∀ v H' ys, ys.length ≤ xs.length + 1 → Ex (del H dc) (del H' dc) → Cch P w K H' dc ys ckD (cF c) → Dp K H' v (stpD (clear c s has)) → Q v H'
theorem scAC : FnScope ["self", "stance", "has_rest", "key"] clPs (defScope tAC) := ⟨rfl, rfl, rfl, by decide +kernel, rfl, by decide +kernel, by decide +kernel⟩
theorem ok_ac {f fW : Addr} {fd fdW : FuncData} (F : Fun K "after_clearing" "Stances.after_clearing" tAC f fd) (TC : Tcs K mg CT) (MW : Meth K CT "_clear_way" fW) (bW : Binds K fdW clPs []) (GW : FnOk P w K mg base CX0 2 fW fdW clPs (spClW K CT)) : FnOk P w K mg base CX0 3 f fd clPs (spAC P w K CT) := by
  refine F.ok scAC (fun vs H Q E h => ?_) (fun cdv A outer s H vs Q E hr h => ?_)
  · obtain ⟨st, dw, dc, c, x, s, has, xs, rfl, _⟩ := h
    rfl
  · obtain ⟨st, dw, dc, c, x, s, has, xs, rfl, t, hx, cc, hl, k⟩ := h
    have hr2 : Room 2 _ := hr.mono (by decide)
    refine ⟨_, pss_cons (ps_set (i := 3) scAC.nd rfl (Or.inl rfl) (pe_tup (pa_cons (pv 1) (pa_cons (pv 2) pa_nil))))
      (pss_cons (ps_if (pt_cmpR (op_niC (ckd c) hr.units) (pv 3) (pe_fld (pv 0) rfl) rfl) (pss_one (ps_asg (pe_meth (pv 0) TC.k.cl MW GW hr2 bW .nil pass0 (pa_cons (pv 1) (pa_cons (pv 2) pa_nil))) (pg_sub (pe_fld (pv 0) rfl) (pv 3) (set_C (ckd c) hr.units)))) pss_nil)
      (pss_one (ps_ret (pe_ix (ix_C (ckd c) hr.units) (pe_fld (pv 0) rfl) (pv 3) (fun _ _ => rfl))))), ?_⟩
    obtain ⟨key, hkey⟩ : ∃ key : CK, key = (s, has) := ⟨_, rfl⟩
    refine q_asgX (K := K) (d := ckD key) (by rw [hkey]; exact dvx_tup (dvsx_cons (dvx_ev (ev_var rfl) hx) (dvsx_cons (dvx_b (ev_var rfl)) dvsx_nil)) (by show 2 ≤ 100000; decide)) fun z H1 e1 hz => ?_
    obtain ⟨b, rfl⟩ := dp_tupR hz
    have hv : cF c key = stpD (clear c s has) := by rw [hkey] <;> rfl
    generalize ht : (tRet _ : TS) = tz
    have fin : ∀ (H2 : Hp) (ys : List NkE), ys.length ≤ xs.length + 1 → Cch P w K H2 dc ys ckD (cF c) → (atKey ys (nkD (ckD key))).isSome = true → Ex (del H1 dc) (del H2 dc) → tz { nx := fun _ H' => Q .non H', rt := Q } [some (.ref st), some x, some (.bl has), some (.ref b)] H2 := fun H2 ys h1 h2 h3 h4 => by
      rw [← ht]
      have c1 := cc.ex (ckd c) e1
      have t2 := (t.ex e1).dl (cch_ni c1) h4
      obtain ⟨dx, hs⟩ := t2
      have hz2 : Dp K H2 (.ref b) (ckD key) := dp_ext (ext_del c1.nt h4) rfl hz
      refine s_retOp (ev_fld (ev_var rfl) hs TC.k.cl TC.nc rfl) (ev_var rfl) fun H3 e3 => ⟨b, dc, key, ys, rfl, rfl, dp_ex e3 hz2, h2.ex (ckd c) e3, h3, fun v hv2 => ?_⟩
      exact k v H3 ys h1 (((ex_del e1).trans h4).trans (ex_del e3)) (h2.ex (ckd c) e3) (by rw [← hv]; exact hv2)
    obtain ⟨dx, hs⟩ := t.ex e1
    refine q_when (b := !(atKey xs (nkD (ckD key))).isSome) (et_test (ev_op (ev_var rfl) (ev_fld (ev_var rfl) hs TC.k.cl TC.nc rfl) (rv_niC (ckd c) hz (cc.ex (ckd c) e1)))) (fun hb H2 e2 => ?_) fun hb H2 e2 => ?_
    · have e12 := e1.trans e2
      refine dvx_clw (c := c) (t.ex e12) (dp_ex e12 hx) (ev_var rfl) (ev_var rfl) (ev_var rfl) H2 (Ex.refl H2) _ fun v H3 e3 hv3 => ?_
      refine ev_fld (ev_var rfl) ((e2.trans e3) _ _ hs) TC.k.cl TC.nc rfl H3 (Ex.refl H3) _ fun H4 e4 => ⟨_, rfl, b, dc, key, xs, rfl, rfl, dp_ex ((e2.trans e3).trans e4) hz, by rw [hv]; exact dp_ex e4 hv3, cc.ex (ckd c) ((e12.trans e3).trans e4), by omega, fun H5 ys y1 y2 y3 y4 => ?_⟩
      exact fin H5 ys y1 y2 y3 ((ex_del ((e2.trans e3).trans e4)).trans y4)
    · exact fin H2 xs (Nat.le_succ _) (cc.ex (ckd c) (e1.trans e2)) (by simpa using hb) (ex_del e2)
/-! ### Stances(setting, speaker) -/
abbrev tiPs : List Str := ["self", "setting", "speaker"]
/-- the hold of the one, the every of the other -/
def cfOf (sp : Int) (h : Str) (e : Int) (h2 : Str) (e2 : Int) : Cf := if sp = 0 then ⟨h, e2⟩ else ⟨h2, e⟩
def spTIni (P : Program) (w : World) (K : PySem.W.Frag) (CT CS CP : Addr) : Sp := fun vs H Q _ => ∃ (x dx m : Addr) (sp n : Int) (p q : Addr) (h : Str) (e u : Int) (h2 : Str) (e2 u2 : Int), vs = [.ref x, .ref m, .int sp] ∧ H x = some (.ins CT dx []) ∧ SetV K CS CP (del H x) m n p q h e u h2 e2 u2 ∧ (sp = 0 ∨ sp = 1) ∧
  ∀ H' dw dc, dw ≠ dc → H dw = none → H dc = none → Ex (del H x) (del H' x) → H' x = some (.ins CT dx (tcF (cfOf sp h e h2 e2) dw dc)) → H' dw = some (dicE P w dw []) → H' dc = some (dicE P w dc []) → Q .non H'
theorem scTIni : FnScope tiPs tiPs (defScope tIni) := ⟨rfl, rfl, rfl, by decide +kernel, rfl, by decide +kernel, by decide +kernel⟩
theorem ev_pol {σ : L2.St} {H : Hp} {CS CP m : Addr} {ta tb : TE} {sp n : Int} {p q : Addr} {h : Str} {e u : Int} {h2 : Str} {e2 u2 : Int} (TS : Stg K mg CS) (s : SetV K CS CP H m n p q h e u h2 e2 u2) (ha : Ev ta σ H (.ref m)) (hb : Ev tb σ H (.int sp)) (hs : sp = 0 ∨ sp = 1) :
    Ev (tOp (rIxT K) (tFld K ta "policies") tb) σ H (.ref (if sp = 0 then p else q)) := by
  obtain ⟨⟨dx, r, h1, h3⟩, _, _⟩ := s
  refine ev_op (ev_fld ha h1 TS.k.cl TS.np rfl) hb (rv_ixT h3 ?_)
  rcases hs with rfl | rfl
  · exact atI_nat (j := 0) rfl
  · exact atI_nat (j := 1) rfl
theorem pol_sel {H : Hp} {CS CP m : Addr} {sp n : Int} {p q : Addr} {h : Str} {e u : Int} {h2 : Str} {e2 u2 : Int} (s : SetV K CS CP H m n p q h e u h2 e2 u2) (sp : Int) : PolAt CP H (if sp = 0 then p else q) (if sp = 0 then h else h2) (if sp = 0 then e else e2) (if sp = 0 then u else u2) := by
  by_cases c : sp = 0
  · rw [if_pos c, if_pos c, if_pos c, if_pos c]
    exact s.p
  · rw [if_neg c, if_neg c, if_neg c, if_neg c]
    exact s.q
theorem ok_tini {f CS CP : Addr} {fd : FuncData} (F : Fun K "__init__" "Stances.__init__" tIni f fd) (TC : Tcs K mg CT) (TS : Stg K mg CS) (TP : Pol K mg CP) : FnOk P w K mg base CX0 1 f fd tiPs (spTIni P w K CT CS CP) := by
  refine F.ok scTIni (fun vs H Q E h => ?_) (fun cdv A outer s H vs Q E hr h => ?_)
  · obtain ⟨x, dx, m, sp, n, p, q, h, e, u, h2, e2, u2, rfl, _⟩ := h
    rfl
  · obtain ⟨x, dx, m, sp, n, p, q, h, e, u, h2, e2, u2, rfl, hx, sv, hsp, k⟩ := h
    refine ⟨_, pss_cons (ps_fld (pv 0) (pe_fld (pe_ix ix_tup (pe_fld (pv 1) rfl) (pv 2) (fun _ _ => rfl)) rfl) rfl)
      (pss_cons (ps_fld (pv 0) (pe_fld (pe_ix ix_tup (pe_fld (pv 1) rfl) (pe_op op_sub pe_int (pv 2)) (fun _ _ => rfl)) rfl) rfl)
      (pss_cons (ps_fld (pv 0) pe_newC rfl) (pss_one (ps_fld (pv 0) pe_newC rfl)))), ?_⟩
    have s0 : SetV K CS CP H m n p q h e u h2 e2 u2 := sv.ex ex_del_self
    obtain ⟨d1, hp1⟩ := pol_sel (sp := sp) s0 sp
    refine q_fldR (v := .str (cfOf sp h e h2 e2).h) (ev_is (ev_fld (ev_pol TS s0 (ev_var rfl) (ev_var rfl) hsp) hp1 TP.k.cl TP.nh rfl) ?_) (ev_var rfl) hx TC.k.cl TC.nh (by show 0 < 1000; decide) fun H1 e1 => ?_
    · unfold cfOf
      rcases hsp with rfl | rfl <;> rfl
    have E1 : Ex (del H x) (del (upd H1 x (.ins CT dx (putF "_hold" (.str (cfOf sp h e h2 e2).h) []))) x) := ex_delS e1
    have s1 := sv.ex (E1.trans ex_del_self)
    obtain ⟨d2, hp2⟩ := pol_sel (sp := sp) s1 (1 - sp)
    refine q_fldR (v := .int (cfOf sp h e h2 e2).e) (ev_is (ev_fld (ev_pol TS s1 (ev_var rfl) (ev_op ev_c (ev_var rfl) rv_I0) (by rcases hsp with rfl | rfl; exact Or.inr rfl; exact Or.inl rfl)) hp2 TP.k.cl TP.ne rfl) ?_) (ev_var rfl) upd_same TC.k.cl TC.ne (by show 1 < 1000; decide) fun H2 e2' => ?_
    · unfold cfOf
      rcases hsp with rfl | rfl <;> rfl
    have E2 := E1.trans (ex_delS (x := x) e2' (o := .ins CT dx (putF "_every" (.int (cfOf sp h e h2 e2).e) (putF "_hold" (.str (cfOf sp h e h2 e2).h) []))))
    intro dw hdw
    have nwx : dw ≠ x := fun z => by
      rw [z, upd_same] at hdw
      cases hdw
    refine ⟨_, rfl, x, CT, dx, _, rfl, by rw [upd_ne nwx.symm]; exact upd_same, TC.k.cl, TC.nw, by show 2 < 1000; decide, ?_⟩
    intro dc hdc
    have ncx : dc ≠ x := fun z => by
      rw [z, upd_same] at hdc
      cases hdc
    have ncw : dc ≠ dw := fun z => by
      rw [z, upd_ne nwx, upd_same] at hdc
      cases hdc
    have fb : ∀ {b : Addr}, b ≠ x → (upd H2 x (.ins CT dx (putF "_every" (.int (cfOf sp h e h2 e2).e) (putF "_hold" (.str (cfOf sp h e h2 e2).h) [])))) b = none → H b = none := fun {b} nb hb => by
      cases z : H b with
      | none => rfl
      | some o =>
        have y := E2 b o (by rw [del_ne nb]; exact z)
        rw [del_ne nb, hb] at y
        cases y
    refine ⟨_, rfl, x, CT, dx, _, rfl, by rw [upd_ne ncx.symm]; exact upd_same, TC.k.cl, TC.nc, by show 3 < 1000; decide, ?_⟩
    have hdc0 : (upd H2 x (.ins CT dx (putF "_every" (.int (cfOf sp h e h2 e2).e) (putF "_hold" (.str (cfOf sp h e h2 e2).h) [])))) dc = none := by
      rw [upd_ne ncx, upd_ne ncw] at hdc
      exact hdc
    refine k _ dw dc ncw.symm (fb nwx hdw) (fb ncx hdc0) ?_ upd_same (by rw [upd_ne nwx, upd_ne ncw.symm, upd_ne nwx, upd_same] <;> rfl) (by rw [upd_ne ncx, upd_same] <;> rfl)
    refine E2.trans fun b o hb => ?_
    have nb : b ≠ x := fun z => by
      rw [z, del_same] at hb
      cases hb
    rw [del_ne nb] at hb ⊢
    have n1 : b ≠ dw := ne_of_none hb hdw
    have n2 : b ≠ dc := ne_of_none hb hdc0
    rw [upd_ne nb, upd_ne n2, upd_ne nb, upd_ne n1]
    exact hb
end
end Lw

namespace L3
open PySem PySem.Spec PyProof.Rows L2 Evl
/-! ### two objects that change -/
def off2 (H : Hp) (a b : Addr) : Hp := del (del H a) b
section
variable {H H1 : Hp} {a b x : Addr} {o : HO}
theorem off_ex (e : Ex H H1) : Ex (off2 H a b) (off2 H1 a b) := ex_del (ex_del e)
theorem off_self : Ex (off2 H a b) H := ex_del_self.trans ex_del_self
theorem off_L (e : Ex (del H a) (del H1 a)) : Ex (off2 H a b) (off2 H1 a b) := ex_del e
theorem off_at (h : H x = some o) (n1 : x ≠ a) (n2 : x ≠ b) : (off2 H a b) x = some o := by
  unfold off2
  rw [del_ne n2, del_ne n1]
  exact h
theorem off_of (h : (off2 H a b) x = some o) : x ≠ a ∧ x ≠ b ∧ H x = some o := by
  unfold off2 at h
  by_cases c : x = b
  · rw [c, del_same] at h
    cases h
  · rw [del_ne c] at h
    by_cases c2 : x = a
    · rw [c2, del_same] at h
      cases h
    · rw [del_ne c2] at h
      exact ⟨c2, c, h⟩
theorem off_R (e : Ex (del H b) (del H1 b)) : Ex (off2 H a b) (off2 H1 a b) := fun y u h => by
  obtain ⟨n1, n2, h1⟩ := off_of h
  have z := e y u (by rw [del_ne n2]; exact h1)
  rw [del_ne n2] at z
  exact off_at z n1 n2
theorem off_up (e : Ex H H1) : Ex (off2 H a b) (off2 (upd H1 a o) a b) := off_L (ex_delS e)
theorem off_go (e : Ex (off2 H a b) (off2 H1 a b)) (h : H x = some o) (n1 : x ≠ a) (n2 : x ≠ b) : H1 x = some o := (off_of (e _ _ (off_at h n1 n2))).2.2
theorem off_none (e : Ex (off2 H a b) (off2 H1 a b)) (h : H1 x = none) (n1 : x ≠ a) (n2 : x ≠ b) : H x = none := by
  cases q : H x with
  | none => rfl
  | some o =>
    rw [off_go e q n1 n2] at h
    cases h
theorem off_t (e : Ex (off2 H a b) (off2 H1 a b)) (ha : ∀ u, H a = some u → ¬ isT u) (hb : ∀ u, H b = some u → ¬ isT u) : ExT H H1 := fun y u t h =>
  off_go e h (fun z => ha u (by rw [← z]; exact h) t) fun z => hb u (by rw [← z]; exact h) t
end
section
variable {K : PySem.W.Frag} {H : Hp} {σ : L2.St} {ta tv : TE} {t : TA} {D : Ends} {tz : TS} {v : V} {x C dx : Addr} {fs : List (Str × V)} {f m : Str} {vs : List V} {sp : Sp} {E : XK} {Q : VK} {rd : V → V → Hp → VK → Prop}
theorem tm_go (ha : Ev ta σ H (.ref x)) (hx : H x = some (.ins C dx fs)) (hl : fs.lookup m = none) (ht : EvA t σ H vs) (k : ∀ H1, Ex H H1 → sp (.ref x :: (vs ++ [])) H1 Q E) : tMeth C m sp [] E ta t σ H Q :=
  ha H (Ex.refl H) _ fun H1 e1 => ⟨x, dx, fs, rfl, e1 _ _ hx, hl, ht H1 e1 _ fun H2 e2 => k H2 (e1.trans e2)⟩
/-- x.f op= v, ints -/
theorem s_fldA {op : Int → Int → Int} (hrd : ∀ {i j : Int} {H : Hp} {Q : VK}, Q (.int (op i j)) H → rd (.int i) (.int j) H Q) {i j : Int} (hv : Ev tv σ H (.int j)) (ha : Ev ta σ H (.ref x)) (hx : H x = some (.ins C dx fs)) (cl : Cls K C) (no : NoAttr K C f) (l : fs.lookup f = some (.int i)) (hl : fs.length < 1000)
    (k : ∀ H1, Ex H H1 → D.nx σ (upd H1 x (.ins C dx (putF f (.int (op i j)) fs)))) : sFldAug K ta tv rd f D σ H :=
  ha H (Ex.refl H) _ fun H1 e1 => ⟨x, C, dx, fs, .int i, rfl, e1 _ _ hx, cl, no, l, hv H1 e1 _ fun H2 e2 => hrd ⟨dx, fs, (e1.trans e2) _ _ hx, hl, k H2 (e1.trans e2)⟩⟩
theorem q_fldA {op : Int → Int → Int} (hrd : ∀ {i j : Int} {H : Hp} {Q : VK}, Q (.int (op i j)) H → rd (.int i) (.int j) H Q) {i j : Int} (hv : Ev tv σ H (.int j)) (ha : Ev ta σ H (.ref x)) (hx : H x = some (.ins C dx fs)) (cl : Cls K C) (no : NoAttr K C f) (l : fs.lookup f = some (.int i)) (hl : fs.length < 1000)
    (k : ∀ H1, Ex H H1 → tz D σ (upd H1 x (.ins C dx (putF f (.int (op i j)) fs)))) : tSeq (sFldAug K ta tv rd f) tz D σ H := s_fldA (D := { D with nx := tz D }) hrd hv ha hx cl no l hl k
theorem rd_add {i j : Int} {H : Hp} {Q : VK} (q : Q (.int (i + j)) H) : rAdd (.int i) (.int j) H Q := ⟨i, j, rfl, rfl, q⟩
end
end L3
namespace Tn
open PySem L3
/-- a course: its size, rest, stance, segments, acknowledgments -/
structure CrM where
  n : Int
  r : Int
  s : Stc
  g : Int
  k : Int
def takeM (m : CrM) (p : Stp) : CrM := ⟨m.n, if p.2.1 = true then 0 else m.r, p.1, if p.2.1 = true then m.g + 1 else m.g, m.k + p.2.2⟩
def wrM (c : Cf) (m : CrM) (len : Int) (mode : Str) : CrM := takeM ⟨m.n, (m.r + len) % m.n, m.s, m.g + (m.r + len) / m.n, m.k⟩ (write c m.s ((m.r + len) / m.n) (decide ((m.r + len) % m.n > 0)) mode)
def clM (c : Cf) (m : CrM) : CrM := takeM m (clear c m.s (decide (m.r > 0)))
end Tn
namespace Lw
open PySem PySem.Spec PyProof.Rows L2 Evl L3 ClX Tn
abbrev cIni : Stmt := inClass (top 21) 0
abbrev cWr : Stmt := inClass (top 21) 1
abbrev cCl : Stmt := inClass (top 21) 2
abbrev cTake : Stmt := inClass (top 21) 4
structure Ccs (K : PySem.W.Frag) (mg : Str → Option Value) (CC : Addr) : Prop where
  hm : mg "Course" = some (.ref CC)
  k : Kls K CC
  nz : NoAttr K CC "_size"
  nt : NoAttr K CC "_stances"
  nr : NoAttr K CC "rest"
  ns : NoAttr K CC "stance"
  ng : NoAttr K CC "segments"
  nk : NoAttr K CC "acknowledgments"
def crF (n : Int) (st : Addr) (r : Int) (v : V) (g k : Int) : List (Str × V) := [("_size", .int n), ("_stances", .ref st), ("rest", .int r), ("stance", v), ("segments", .int g), ("acknowledgments", .int k)]
structure CrAt (K : PySem.W.Frag) (CC CT : Addr) (H : Hp) (x st dw dc : Addr) (c : Cf) (m : CrM) : Prop where
  at_ : ∃ dx v, H x = some (.ins CC dx (crF m.n st m.r v m.g m.k)) ∧ Dp K H v (stD m.s)
  tc : TcAt CT H st dw dc c
section
variable {K : PySem.W.Frag} {CC CT x st dw dc : Addr} {H H1 : Hp} {c : Cf} {m : CrM}
theorem CrAt.ex (C : CrAt K CC CT H x st dw dc c m) (e : Ex H H1) : CrAt K CC CT H1 x st dw dc c m := by
  obtain ⟨⟨dx, v, h1, h2⟩, t⟩ := C
  exact ⟨⟨dx, v, e _ _ h1, dp_ex e h2⟩, t.ex e⟩
theorem ne_st {dx : Addr} {n r g k : Int} {v : V} (h : H x = some (.ins CC dx (crF n st r v g k))) (t : TcAt CT H st dw dc c) : st ≠ x := fun z => by
  obtain ⟨dy, h2⟩ := t
  rw [z, h] at h2
  injection h2 with h2
  injection h2 with _ _ h3
  have z2 := congrArg List.length h3
  revert z2
  show ¬ 6 = 4
  decide
theorem ins_nt {dx : Addr} {fs : List (Str × V)} (h : H x = some (.ins CC dx fs)) : ∀ u, H x = some u → ¬ isT u := fun u q z => by
  rw [h] at q
  cases q
  exact z
end
section
variable {P : Program} {w : World} {K : PySem.W.Frag} {mg : Str → Option Value} {base : Heap} {CC CT : Addr}
/-! ### _take -/
def spCTake (K : PySem.W.Frag) (CC : Addr) : Sp := fun vs H Q _ => ∃ (x dx st : Addr) (y v : V) (m : CrM) (p : Stp), vs = [.ref x, y] ∧ H x = some (.ins CC dx (crF m.n st m.r v m.g m.k)) ∧ Dp K H y (stpD p) ∧
  ∀ H' v', Ex (del H x) (del H' x) → H' x = some (.ins CC dx (crF (takeM m p).n st (takeM m p).r v' (takeM m p).g (takeM m p).k)) → Dp K H' v' (stD (takeM m p).s) → Q .non H'
theorem scCTake : FnScope ["self", "step", "is_sent", "acknowledgments"] ["self", "step"] (defScope cTake) := ⟨rfl, rfl, rfl, by decide +kernel, rfl, by decide +kernel, by decide +kernel⟩
theorem ok_ctake {f : Addr} {fd : FuncData} (F : Fun K "_take" "Course._take" cTake f fd) (TK : Ccs K mg CC) : FnOk P w K mg base CX0 1 f fd ["self", "step"] (spCTake K CC) := by
  refine F.ok scCTake (fun vs H Q E h => ?_) (fun cdv A outer s H vs Q E hr h => ?_)
  · obtain ⟨x, dx, st, y, v, m, p, rfl, _⟩ := h
    rfl
  · obtain ⟨x, dx, st, y, v, m, p, rfl, hx, hy, k⟩ := h
    refine ⟨_, pss_cons (ps_asg (pv 1) (pg_tup rfl (pgs_cons (pg_fld (pv 0)) (pgs_cons (pg_name (i := 2) scCTake.nd rfl (Or.inl rfl)) (pgs_cons (pg_name (i := 3) scCTake.nd rfl (Or.inl rfl)) pgs_nil)))))
      (pss_cons (ps_fldaug (pv 0) (pv 3) in_add)
      (pss_one (ps_if (pt_val (pv 2)) (pss_cons (ps_fld (pv 0) pe_int rfl) (pss_one (ps_fldaug (pv 0) pe_int in_add))) pss_nil))), ?_⟩
    obtain ⟨a, t, rfl, hs, ht⟩ := dp_stp hy
    refine ⟨_, rfl, a, _, rfl, hs, rfl, _, _, rfl, ?_⟩
    refine ⟨_, rfl, x, CC, dx, _, rfl, hx, TK.k.cl, TK.ns, by show 6 < 1000; decide, _, _, rfl, _, _, rfl, rfl, ?_⟩
    show tSeq _ _ _ _ _
    have E1 : Ex (del H x) (del (upd H x (.ins CC dx (crF m.n st m.r t m.g m.k))) x) := ex_delS (Ex.refl H)
    refine q_fldA rd_add (fs := crF m.n st m.r t m.g m.k) (ev_var rfl) (ev_var rfl) upd_same TK.k.cl TK.nk rfl (by show 6 < 1000; decide) fun H2 e2 => ?_
    have E2 := E1.trans (ex_delS (x := x) e2 (o := .ins CC dx (crF m.n st m.r t m.g (m.k + p.2.2))))
    have tt : ∀ {H3 : Hp}, Ex (del H x) (del H3 x) → Dp K H3 t (stD p.1) := fun e => dp_ext (ext_del (ins_nt hx) e) rfl ht
    show tIfS _ _ tNext _ _ (upd H2 x (.ins CC dx (crF m.n st m.r t m.g (m.k + p.2.2))))
    refine s_when (b := p.2.1) (et_B (ev_var rfl)) (fun hb H3 e3 => ?_) fun hb H3 e3 => ?_
    · refine q_fldR ev_c (ev_var rfl) (e3 _ _ upd_same) TK.k.cl TK.nr (by show 6 < 1000; decide) fun H4 e4 => ?_
      refine s_fldA rd_add (fs := crF m.n st 0 t m.g (m.k + p.2.2)) ev_c (ev_var rfl) upd_same TK.k.cl TK.ng rfl (by show 6 < 1000; decide) fun H5 e5 => ?_
      have E5 := (E2.trans (ex_del e3)).trans ((ex_delS (x := x) e4 (o := .ins CC dx (crF m.n st 0 t m.g (m.k + p.2.2)))).trans (ex_delS (x := x) e5 (o := .ins CC dx (crF m.n st 0 t (m.g + 1) (m.k + p.2.2)))))
      refine k _ t E5 ?_ (tt E5)
      unfold takeM
      rw [if_pos hb, if_pos hb]
      exact upd_same
    · have E3 := E2.trans (ex_del e3)
      refine k H3 t E3 ?_ (tt E3)
      unfold takeM
      rw [if_neg (by rw [hb]; simp), if_neg (by rw [hb]; simp)]
      exact e3 _ _ upd_same
end
end Lw

namespace Lw
open PySem PySem.Spec PyProof.Rows L2 Evl L3 ClX Tn
section
variable {P : Program} {w : World} {K : PySem.W.Frag} {mg : Str → Option Value} {base : Heap} {CC CT : Addr}
theorem div_ok {i n : Int} (h1 : 1 ≤ n) (h2 : n ≤ 1000000000000000000) : CDivP i n := by
  refine ⟨by omega, PyProof.noPylong_of_log2 ?_⟩
  have z : n.natAbs ≠ 0 := by omega
  refine (Nat.log2_lt z).mpr (Nat.lt_of_lt_of_le (m := 2 ^ 60) (by omega) (Nat.pow_le_pow_right (by decide) (by decide)))
theorem s_mthT {σ : L2.St} {H : Hp} {D : Ends} {ta te : TE} {x C dx : Addr} {fs : List (Str × V)} {m : Str} {sp : Sp} {E : XK} (ha : Ev ta σ H (.ref x)) (hx : H x = some (.ins C dx fs)) (hl : fs.lookup m = none) (k : ∀ H1, Ex H H1 → te σ H1 fun v H2 => sp [.ref x, v] H2 (fun _ H3 => D.nx σ H3) E) : tDrop (tMeth C m sp [] E ta (tCons te tNil)) D σ H :=
  ha H (Ex.refl H) _ fun H1 e1 => ⟨x, dx, fs, rfl, e1 _ _ hx, hl, k H1 e1⟩
/-! ### make_write -/
def spMW (P : Program) (w : World) (K : PySem.W.Frag) (CC CT : Addr) : Sp := fun vs H Q _ => ∃ (x st dw dc : Addr) (c : Cf) (m : CrM) (len : Int) (mode : Str) (xs : List NkE), vs = [.ref x, .int len, .str mode] ∧ CrAt K CC CT H x st dw dc c m ∧ okE c.e ∧ 1 ≤ m.n ∧ m.n ≤ 1000000000000000000 ∧ Cch P w K H dw xs wkD (wF c) ∧ xs.length ≤ 900000 ∧
  ∀ H' ys, ys.length ≤ xs.length + 1 → Ex (off2 H x dw) (off2 H' x dw) → Cch P w K H' dw ys wkD (wF c) → CrAt K CC CT H' x st dw dc c (wrM c m len mode) → Q .non H'
theorem scMW : FnScope ["self", "length", "mode", "full"] ["self", "length", "mode"] (defScope cWr) := ⟨rfl, rfl, rfl, by decide +kernel, rfl, by decide +kernel, by decide +kernel⟩
theorem ok_mw {f fT fA : Addr} {fd fdT fdA : FuncData} (F : Fun K "make_write" "Course.make_write" cWr f fd) (hD : mg "divmod" = none) (TK : Ccs K mg CC) (TC : Tcs K mg CT) (MT : Meth K CC "_take" fT) (bT : Binds K fdT ["self", "step"] []) (GT : FnOk P w K mg base CX0 1 fT fdT ["self", "step"] (spCTake K CC))
    (MA : Meth K CT "after_write" fA) (bA : Binds K fdA wrPs []) (GA : FnOk P w K mg base CX0 3 fA fdA wrPs (spAW P w K CT)) : FnOk P w K mg base CX0 4 f fd ["self", "length", "mode"] (spMW P w K CC CT) := by
  refine F.ok scMW (fun vs H Q E h => ?_) (fun cdv A outer s H vs Q E hr h => ?_)
  · obtain ⟨x, st, dw, dc, c, m, len, mode, xs, rfl, _⟩ := h
    rfl
  · obtain ⟨x, st, dw, dc, c, m, len, mode, xs, rfl, ⟨⟨dx, v, hx, hv⟩, t⟩, he, n1, n2, cc, hl, k⟩ := h
    have hr1 : Room 1 _ := hr.mono (by decide)
    refine ⟨_, pss_cons (ps_asg (pe_callB call_divmodW (by rfl) hD (by decide +kernel) (pa_cons (pe_op op_add (pe_fld (pv 0) rfl) (pv 1)) (pa_cons (pe_fld (pv 0) rfl) pa_nil))) (pg_tup rfl (pgs_cons (pg_name (i := 3) scMW.nd rfl (Or.inl rfl)) (pgs_cons (pg_fld (pv 0)) pgs_nil))))
      (pss_cons (ps_fldaug (pv 0) (pv 3) in_add)
      (pss_one (ps_expr (pe_meth (pv 0) TK.k.cl MT GT hr1 bT .nil pass0 (pa_cons (pe_meth (pe_fld (pv 0) rfl) TC.k.cl MA GA hr bA .nil pass0 (pa_cons (pe_fld (pv 0) rfl) (pa_cons (pv 3) (pa_cons (pe_cmpR op_gt (pe_fld (pv 0) rfl) pe_int (nomark _)) (pa_cons (pv 2) pa_nil))))) pa_nil))))), ?_⟩
    have nsx : st ≠ x := ne_st hx t
    have ndx : dw ≠ x := fun z => cch_ni cc _ (by rw [z]; exact hx) _ _ _ rfl
    refine ev_op (ev_fld (ev_var rfl) hx TK.k.cl TK.nr rfl) (ev_var rfl) rv_I0 H (Ex.refl H) _ fun H1 e1 => ?_
    refine ev_fld (ev_var rfl) (e1 _ _ hx) TK.k.cl TK.nz rfl H1 (Ex.refl H1) _ fun H2 e2 => ⟨_, _, rfl, div_ok n1 n2, fun a ha => ?_⟩
    have e12 := (e1.trans e2).trans (Ex.new (o := .tup [.int ((m.r + len) / m.n), .int ((m.r + len) % m.n)]) ha)
    refine ⟨a, _, rfl, st_of upd_same, rfl, _, _, rfl, _, _, rfl, ?_⟩
    refine ⟨_, rfl, x, CC, dx, _, rfl, e12 _ _ hx, TK.k.cl, TK.nr, by show 6 < 1000; decide, rfl, ?_⟩
    have E1 : Ex (del H x) (del (upd (upd H2 a (.tup [.int ((m.r + len) / m.n), .int ((m.r + len) % m.n)])) x (.ins CC dx (crF m.n st ((m.r + len) % m.n) v m.g m.k))) x) := ex_delS e12
    show tSeq _ _ _ _ (upd (upd H2 a (.tup [.int ((m.r + len) / m.n), .int ((m.r + len) % m.n)])) x (.ins CC dx (crF m.n st ((m.r + len) % m.n) v m.g m.k)))
    refine q_fldA rd_add (fs := crF m.n st ((m.r + len) % m.n) v m.g m.k) (ev_var rfl) (ev_var rfl) upd_same TK.k.cl TK.ng rfl (by show 6 < 1000; decide) fun H3 e3 => ?_
    have E3 := E1.trans (ex_delS (x := x) e3 (o := .ins CC dx (crF m.n st ((m.r + len) % m.n) v (m.g + (m.r + len) / m.n) m.k)))
    generalize hH4 : upd H3 x (.ins CC dx (crF m.n st ((m.r + len) % m.n) v (m.g + (m.r + len) / m.n) m.k)) = H4 at E3
    have hx4 : H4 x = some (.ins CC dx (crF m.n st ((m.r + len) % m.n) v (m.g + (m.r + len) / m.n) m.k)) := by rw [← hH4, upd_same]
    show tDrop _ _ _ (upd H3 x (.ins CC dx (crF m.n st ((m.r + len) % m.n) v (m.g + (m.r + len) / m.n) m.k)))
    rw [hH4]
    have eT4 : ExT H H4 := ext_del (ins_nt hx) E3
    have t4 : TcAt CT H4 st dw dc c := by
      obtain ⟨dy, hs⟩ := t
      have z := E3 st _ (by rw [del_ne nsx]; exact hs)
      rw [del_ne nsx] at z
      exact ⟨dy, z⟩
    have c4 : Cch P w K H4 dw xs wkD (wF c) := cc.up (wkd c) eT4 (by
      have z := E3 dw _ (by rw [del_ne ndx]; exact cc.at_)
      rw [del_ne ndx] at z
      exact z.trans cc.at_.symm)
    have hv4 : Dp K H4 v (stD m.s) := dp_ext eT4 rfl hv
    refine s_mthT (ev_var (v := .ref x) rfl) hx4 rfl fun H5 e5 => ?_
    obtain ⟨dy, hs5⟩ := t4.ex e5
    refine tm_go (ev_fld (ev_var rfl) (e5 _ _ hx4) TK.k.cl TK.nt rfl) hs5 rfl (ea_cons (ev_fld (ev_var rfl) (e5 _ _ hx4) TK.k.cl TK.ns rfl) (ea_cons (ev_var rfl) (ea_cons (ev_op (ev_fld (ev_var rfl) (e5 _ _ hx4) TK.k.cl TK.nr rfl) ev_c rv_I0) (ea_cons (ev_var rfl) ea_nil)))) fun H6 e6 => ?_
    have e56 := e5.trans e6
    refine ⟨st, dw, dc, c, v, m.s, (m.r + len) / m.n, decide ((m.r + len) % m.n > 0), mode, xs, rfl, t4.ex e56, he, dp_ex e56 hv4, c4.ex (wkd c) e56, hl, fun y H7 ys y1 y2 y3 y4 => ?_⟩
    have hx7 : H7 x = some (.ins CC dx (crF m.n st ((m.r + len) % m.n) v (m.g + (m.r + len) / m.n) m.k)) := by
      have z := y2 x _ (by rw [del_ne ndx.symm]; exact e56 _ _ hx4)
      rw [del_ne ndx.symm] at z
      exact z
    refine ⟨x, dx, st, y, v, ⟨m.n, (m.r + len) % m.n, m.s, m.g + (m.r + len) / m.n, m.k⟩, Tn.write c m.s ((m.r + len) / m.n) (decide ((m.r + len) % m.n > 0)) mode, rfl, hx7, y4, fun H8 v' z1 z2 z3 => ?_⟩
    have t7 : TcAt CT H7 st dw dc c := (t4.ex e56).dl (cch_ni (c4.ex (wkd c) e56)) y2
    refine k H8 ys y1 ((((off_L E3).trans (off_ex e56)).trans (off_R y2)).trans (off_L z1)) (y3.up (wkd c) (ext_del (ins_nt hx7) z1) ?_) ⟨⟨dx, v', z2, z3⟩, ?_⟩
    · have z := z1 dw _ (by rw [del_ne ndx]; exact y3.at_)
      rw [del_ne ndx] at z
      exact z.trans y3.at_.symm
    · obtain ⟨dz, hs7⟩ := t7
      have z := z1 st _ (by rw [del_ne nsx]; exact hs7)
      rw [del_ne nsx] at z
      exact ⟨dz, z⟩
/-! ### make_clearing -/
def spMC (P : Program) (w : World) (K : PySem.W.Frag) (CC CT : Addr) : Sp := fun vs H Q _ => ∃ (x st dw dc : Addr) (c : Cf) (m : CrM) (xs : List NkE), vs = [.ref x] ∧ CrAt K CC CT H x st dw dc c m ∧ Cch P w K H dc xs ckD (cF c) ∧ xs.length ≤ 900000 ∧
  ∀ H' ys, ys.length ≤ xs.length + 1 → Ex (off2 H x dc) (off2 H' x dc) → Cch P w K H' dc ys ckD (cF c) → CrAt K CC CT H' x st dw dc c (clM c m) → Q .non H'
theorem scMC : FnScope ["self"] ["self"] (defScope cCl) := ⟨rfl, rfl, rfl, by decide +kernel, rfl, by decide +kernel, by decide +kernel⟩
theorem ok_mc {f fT fA : Addr} {fd fdT fdA : FuncData} (F : Fun K "make_clearing" "Course.make_clearing" cCl f fd) (TK : Ccs K mg CC) (TC : Tcs K mg CT) (MT : Meth K CC "_take" fT) (bT : Binds K fdT ["self", "step"] []) (GT : FnOk P w K mg base CX0 1 fT fdT ["self", "step"] (spCTake K CC))
    (MA : Meth K CT "after_clearing" fA) (bA : Binds K fdA clPs []) (GA : FnOk P w K mg base CX0 3 fA fdA clPs (spAC P w K CT)) : FnOk P w K mg base CX0 4 f fd ["self"] (spMC P w K CC CT) := by
  refine F.ok scMC (fun vs H Q E h => ?_) (fun cdv A outer s H vs Q E hr h => ?_)
  · obtain ⟨x, st, dw, dc, c, m, xs, rfl, _⟩ := h
    rfl
  · obtain ⟨x, st, dw, dc, c, m, xs, rfl, ⟨⟨dx, v, hx4, hv4⟩, t4⟩, c4, hl, k⟩ := h
    have hr1 : Room 1 _ := hr.mono (by decide)
    refine ⟨_, pss_one (ps_expr (pe_meth (pv 0) TK.k.cl MT GT hr1 bT .nil pass0 (pa_cons (pe_meth (pe_fld (pv 0) rfl) TC.k.cl MA GA hr bA .nil pass0 (pa_cons (pe_fld (pv 0) rfl) (pa_cons (pe_cmpR op_gt (pe_fld (pv 0) rfl) pe_int (nomark _)) pa_nil))) pa_nil))), ?_⟩
    have nsx : st ≠ x := ne_st hx4 t4
    have ndx : dc ≠ x := fun z => cch_ni c4 _ (by rw [z]; exact hx4) _ _ _ rfl
    refine s_mthT (ev_var (v := .ref x) rfl) hx4 rfl fun H5 e5 => ?_
    obtain ⟨dy, hs5⟩ := t4.ex e5
    refine tm_go (ev_fld (ev_var rfl) (e5 _ _ hx4) TK.k.cl TK.nt rfl) hs5 rfl (ea_cons (ev_fld (ev_var rfl) (e5 _ _ hx4) TK.k.cl TK.ns rfl) (ea_cons (ev_op (ev_fld (ev_var rfl) (e5 _ _ hx4) TK.k.cl TK.nr rfl) ev_c rv_I0) ea_nil)) fun H6 e6 => ?_
    have e56 := e5.trans e6
    refine ⟨st, dw, dc, c, v, m.s, decide (m.r > 0), xs, rfl, t4.ex e56, dp_ex e56 hv4, c4.ex (ckd c) e56, hl, fun y H7 ys y1 y2 y3 y4 => ?_⟩
    have hx7 : H7 x = some (.ins CC dx (crF m.n st m.r v m.g m.k)) := by
      have z := y2 x _ (by rw [del_ne ndx.symm]; exact e56 _ _ hx4)
      rw [del_ne ndx.symm] at z
      exact z
    refine ⟨x, dx, st, y, v, m, clear c m.s (decide (m.r > 0)), rfl, hx7, y4, fun H8 v' z1 z2 z3 => ?_⟩
    have t7 : TcAt CT H7 st dw dc c := (t4.ex e56).dl (cch_ni (c4.ex (ckd c) e56)) y2
    refine k H8 ys y1 (((off_ex e56).trans (off_R y2)).trans (off_L z1)) (y3.up (ckd c) (ext_del (ins_nt hx7) z1) ?_) ⟨⟨dx, v', z2, z3⟩, ?_⟩
    · have z := z1 dc _ (by rw [del_ne ndx]; exact y3.at_)
      rw [del_ne ndx] at z
      exact z.trans y3.at_.symm
    · obtain ⟨dz, hs7⟩ := t7
      have z := z1 st _ (by rw [del_ne nsx]; exact hs7)
      rw [del_ne nsx] at z
      exact ⟨dz, z⟩
end
end Lw

namespace Lo
open PySem PySem.Spec PyProof.Rows L2 Evl L3
def top (i : Nat) : Stmt := PySem.Challenge.pw_latewords_k20_whole_segments_between_two.main.body.getD i (.Pass ⟨0, 0, 0, 0⟩)
abbrev sIsInt : Stmt := top 6
abbrev sBetw : Stmt := top 7
abbrev sIsW : Stmt := top 14
/-- what is read of the top -/
structure Txt (K : PySem.W.Frag) (mg : Str → Option Value) : Prop where
  isi : mg "isinstance" = none
  isint : ∃ (f : Addr) (fd : FuncData), Fun K "is_integer" "is_integer" sIsInt f fd ∧ Binds K fd ["value"] [] ∧ mg "is_integer" = some (.ref f)
  int : mg "int" = none
  bool : mg "bool" = none
  tuple : mg "tuple" = none
  list : mg "list" = none
  len : mg "len" = none
  enumerate : mg "enumerate" = none
  range : mg "range" = none
  mlen : ∃ t, mg "MOST_LENGTH" = some (.int 1000000000000000000 t)
  modes : ∃ a, mg "MODES" = some (.ref a) ∧ ∀ H, SqT K H a [.str "plain", .str "push", .str "more"]
/-! ### is_integer -/
def isInD (d : PyData) : Bool := match d with
  | .int _ => true
  | _ => false
def spIsInt (K : PySem.W.Frag) : Sp := fun vs H Q _ => ∃ (x : V) (d : PyData), vs = [x] ∧ Dp K H x d ∧ RetV (.bl (isInD d)) H Q
theorem scIsInt : FnScope ["value"] ["value"] (defScope sIsInt) := ⟨rfl, rfl, rfl, by decide +kernel, rfl, by decide +kernel, by decide +kernel⟩
theorem ok_isInt {P : Program} {w : World} {K : PySem.W.Frag} {mg : Str → Option Value} {base : Heap} {f : Addr} {fd : FuncData} (F : Fun K "is_integer" "is_integer" sIsInt f fd) (T : Txt K mg) : FnOk P w K mg base CX0 0 f fd ["value"] (spIsInt K) := by
  refine ok0 F scIsInt (fun vs H Q E h => ?_) (fun cdv A outer s H vs Q E h => ?_)
  · obtain ⟨x, d, rfl, _⟩ := h
    rfl
  · obtain ⟨x, d, rfl, hd, k⟩ := h
    refine ⟨_, pss_one (ps_ret (pe_and (pe_callB call_isi (by rfl) T.isi (by decide +kernel) (pa_cons (pv 0) (pa_cons (pe_ty "int" T.int) pa_nil)))
      (pe_one (pe_not (pe_callB call_isi (by rfl) T.isi (by decide +kernel) (pa_cons (pv 0) (pa_cons (pe_ty "bool" T.bool) pa_nil))))))), ?_⟩
    refine s_ret (v := .bl (isInD d)) ?_ k
    cases d with
    | int i =>
      cases hd
      exact ev_is (ev_andV (ev_isi (ev_var rfl) (.int i) (kit_int _)) fun _ => ev_notV (ev_isi (ev_var rfl) (.int i) (kit_bool _))) rfl
    | bool b => exact ev_is (ev_andV (b := false) (ev_isi (ev_var rfl) hd (kit_int _)) fun _ => ev_notV (ev_isi (ev_var rfl) hd (kit_bool _))) rfl
    | none => exact ev_is (ev_andV (b := false) (ev_isi (ev_var rfl) hd (kit_int _)) fun z => nomatch z) rfl
    | str b => exact ev_is (ev_andV (b := false) (ev_isi (ev_var rfl) hd (kit_int _)) fun z => nomatch z) rfl
    | list b => exact ev_is (ev_andV (b := false) (ev_isi (ev_var rfl) hd (kit_int _)) fun z => nomatch z) rfl
    | tuple b => exact ev_is (ev_andV (b := false) (ev_isi (ev_var rfl) hd (kit_int _)) fun z => nomatch z) rfl
    | dict b => exact ev_is (ev_andV (b := false) (ev_isi (ev_var rfl) hd (kit_int _)) fun z => nomatch z) rfl
theorem sp_isInt {K : PySem.W.Frag} {x : V} {d : PyData} {H : Hp} (hd : Dp K H x d) : SpV (spIsInt K) [x] H (.bl (isInD d)) :=
  fun H1 e Q q E => ⟨x, d, rfl, dp_ex e hd, fun H2 e2 => q H2 e2⟩
/-! ### between -/
def betwD (d : PyData) (lo hi : Int) : Bool := match d with
  | .int i => decide (lo ≤ i) && decide (i ≤ hi)
  | _ => false
def spBetw (K : PySem.W.Frag) : Sp := fun vs H Q _ => ∃ (x : V) (d : PyData) (lo hi : Int), vs = [x, .int lo, .int hi] ∧ Dp K H x d ∧ RetV (.bl (betwD d lo hi)) H Q
section
variable {P : Program} {w : World} {K : PySem.W.Frag} {mg : Str → Option Value} {base : Heap}
theorem scB : FnScope ["value", "low", "high"] ["value", "low", "high"] (defScope sBetw) := ⟨rfl, rfl, rfl, by decide +kernel, rfl, by decide +kernel, by decide +kernel⟩
theorem ok_betw {f : Addr} {fd : FuncData} (F : Fun K "between" "between" sBetw f fd) (T : Txt K mg) : FnOk P w K mg base CX0 1 f fd ["value", "low", "high"] (spBetw K) := by
  refine F.ok scB (fun vs H Q E h => ?_) (fun cdv A outer s H vs Q E hr h => ?_)
  · obtain ⟨x, d, lo, hi, rfl, _⟩ := h
    rfl
  · obtain ⟨x, d, lo, hi, rfl, hd, k⟩ := h
    obtain ⟨fI, fdI, FI, bI, gI⟩ := T.isint
    have GI : FnOk P w K mg base CX0 0 fI fdI ["value"] (spIsInt K) := ok_isInt FI T
    refine ⟨_, pss_one (ps_ret (pe_and (pe_call GI hr rfl gI FI.kp bI .nil pass0 (pa_cons (pv 0) pa_nil)) (pe_one (pe_chain op_le op_le (pv 1) (pv 0) (pv 2))))), ?_⟩
    refine s_ret (v := .bl (betwD d lo hi)) ?_ k
    cases d with
    | int i =>
      cases hd
      exact ev_is (ev_andV (a := true) (ev_call (ea_cons (ev_var rfl) ea_nil) (sp_isInt (.int i))) fun _ => ev_chain (ev_var rfl) (ev_var rfl) (ev_var rfl)) rfl
    | bool b => exact ev_is (ev_andV (a := false) (b := false) (ev_call (ea_cons (ev_var rfl) ea_nil) (sp_isInt hd)) fun z => nomatch z) rfl
    | none => exact ev_is (ev_andV (a := false) (b := false) (ev_call (ea_cons (ev_var rfl) ea_nil) (sp_isInt hd)) fun z => nomatch z) rfl
    | str b => exact ev_is (ev_andV (a := false) (b := false) (ev_call (ea_cons (ev_var rfl) ea_nil) (sp_isInt hd)) fun z => nomatch z) rfl
    | list b => exact ev_is (ev_andV (a := false) (b := false) (ev_call (ea_cons (ev_var rfl) ea_nil) (sp_isInt hd)) fun z => nomatch z) rfl
    | tuple b => exact ev_is (ev_andV (a := false) (b := false) (ev_call (ea_cons (ev_var rfl) ea_nil) (sp_isInt hd)) fun z => nomatch z) rfl
    | dict b => exact ev_is (ev_andV (a := false) (b := false) (ev_call (ea_cons (ev_var rfl) ea_nil) (sp_isInt hd)) fun z => nomatch z) rfl
theorem sp_betw {x : V} {d : PyData} {lo hi : Int} {H : Hp} (hd : Dp K H x d) : SpV (spBetw K) [x, .int lo, .int hi] H (.bl (betwD d lo hi)) :=
  fun H1 e Q q E => ⟨x, d, lo, hi, rfl, dp_ex e hd, fun H2 e2 => q H2 e2⟩
/-! ### is_write -/
def flatD : PyData → Bool
  | .none => true
  | .bool _ => true
  | .int _ => true
  | .str _ => true
  | _ => false
def modeD : PyData → Bool
  | .str s => decide (s = "plain") || decide (s = "push") || decide (s = "more")
  | _ => false
def isWD : PyData → Bool
  | .tuple [e, l, m] => betwD e 0 1 && (betwD l 1 1000000000000000000 && modeD m)
  | _ => false
/-- where a third item stands, it is flat -/
def third : PyData → Bool
  | .tuple [_, _, m] => flatD m
  | _ => true
theorem dps_len {H : Hp} {xs : List V} {ds : List PyData} (h : DpAll K H xs ds) : xs.length = ds.length := by
  induction ds generalizing xs with
  | nil => cases h; rfl
  | cons d ds ih =>
    cases h with
    | cons _ r => rw [List.length_cons, List.length_cons, ih r]
theorem dp_flat {H : Hp} {x : V} {d : PyData} (h : Dp K H x d) (f : flatD d = true) : flatV x = true := by
  cases h with
  | lst _ _ => exact absurd (show false = true from f) Bool.false_ne_true
  | tup _ _ => exact absurd (show false = true from f) Bool.false_ne_true
  | _ => rfl
theorem in_modes {H : Hp} {x : V} {d : PyData} (h : Dp K H x d) (f : flatD d = true) : inV x [.str "plain", .str "push", .str "more"] = modeD d := by
  cases h with
  | lst _ _ => exact absurd (show false = true from f) Bool.false_ne_true
  | tup _ _ => exact absurd (show false = true from f) Bool.false_ne_true
  | str s =>
    show (("plain" : Str) == s || (("push" : Str) == s || (("more" : Str) == s || false))) = (decide (s = "plain") || decide (s = "push") || decide (s = "more"))
    have e : ∀ a : Str, (a == s) = decide (s = a) := fun a => by
      by_cases q : s = a
      · rw [q, decide_eq_true rfl, beq_self_eq_true]
      · rw [decide_eq_false q]
        exact beq_eq_false_iff_ne.mpr fun z => q z.symm
    rw [e, e, e, Bool.or_false, Bool.or_assoc]
  | _ => rfl
def spIsW (K : PySem.W.Frag) : Sp := fun vs H Q _ => ∃ (x : V) (d : PyData), vs = [x] ∧ Dp K H x d ∧ third d = true ∧ RetV (.bl (isWD d)) H Q
theorem sp_isW {x : V} {d : PyData} {H : Hp} (hd : Dp K H x d) (ht : third d = true) : SpV (spIsW K) [x] H (.bl (isWD d)) :=
  fun H1 e Q q E => ⟨x, d, rfl, dp_ex e hd, ht, fun H2 e2 => q H2 e2⟩
theorem scI : FnScope ["value", "endpoint", "length", "mode"] ["value"] (defScope sIsW) := ⟨rfl, rfl, rfl, by decide +kernel, rfl, by decide +kernel, by decide +kernel⟩
theorem ok_isW {f fB : Addr} {fd fdB : FuncData} (F : Fun K "is_write" "is_write" sIsW f fd) (T : Txt K mg) (FB : Fun K "between" "between" sBetw fB fdB) (bB : Binds K fdB ["value", "low", "high"] []) (gB : mg "between" = some (.ref fB)) :
    FnOk P w K mg base CX0 2 f fd ["value"] (spIsW K) := by
  have GB : FnOk P w K mg base CX0 1 fB fdB ["value", "low", "high"] (spBetw K) := ok_betw FB T
  obtain ⟨tL, hL⟩ := T.mlen
  obtain ⟨aM, hM, sM⟩ := T.modes
  refine F.ok scI (fun vs H Q E h => ?_) (fun cdv A outer s H vs Q E hr h => ?_)
  · obtain ⟨x, d, rfl, _⟩ := h
    rfl
  · obtain ⟨x, d, rfl, hd, ht, k⟩ := h
    refine ⟨_, pss_cons (ps_if (PW.pt (pw_or (pt_not (pt_val (pe_callB call_isi (by rfl) T.isi boot_isinstance (pa_cons (pv 0) (pa_cons (pe_ty "tuple" T.tuple) pa_nil)))))
        (pw_or1 (pt_cmpR op_ne (pe_callB call_len_seq (by rfl) T.len PySem.boot_len (pa_cons (pv 0) pa_nil)) pe_int (nomark _)))))
        (pss_one (ps_ret pe_bl)) pss_nil)
      (pss_cons (ps_asg (pv 0) (pg_tup rfl (pgs_cons (pg_name (i := 1) scI.nd rfl (Or.inl rfl)) (pgs_cons (pg_name (i := 2) scI.nd rfl (Or.inl rfl)) (pgs_cons (pg_name (i := 3) scI.nd rfl (Or.inl rfl)) pgs_nil)))))
      (pss_one (ps_ret (pe_and (pe_call GB hr rfl gB FB.kp bB .nil pass0 (pa_cons (pv 1) (pa_cons pe_int (pa_cons pe_int pa_nil))))
        (pe_and (pe_call GB hr rfl gB FB.kp bB .nil pass0 (pa_cons (pv 2) (pa_cons pe_int (pa_cons (pe_glob (v := .int 1000000000000000000) rfl hL ⟨_, rfl⟩) pa_nil))))
          (pe_one (pe_cmpR op_in_seq (pv 3) (pe_glob (v := .ref aM) rfl hM rfl) rfl))))))), ?_⟩
    have no : isTupD d = false → isWD d = false := fun z => by cases d <;> first | rfl | exact absurd (show true = false from z) (by decide)
    cases hT : isTupD d with
    | false =>
      have e0 : isWD d = false := no hT
      rw [e0] at k
      refine q_when (b := true) (et_is (et_or (a := true) (b := false) (et_not (a := false) (et_B (ev_is (ev_isi (ev_var rfl) hd (kit_tuple _)) (by rw [hT])))) fun z => nomatch z) rfl) (fun _ H1 e1 => ?_) (fun hb => nomatch hb)
      exact s_ret ev_c fun H2 e2 => k H2 (e1.trans e2)
    | true =>
      obtain ⟨a, xs, ds, rfl, rfl, hs, ha⟩ : ∃ a xs ds, d = .tuple ds ∧ x = .ref a ∧ SqT K H a xs ∧ DpAll K H xs ds := by
        cases hd with
        | tup hs ha => exact ⟨_, _, _, rfl, rfl, hs, ha⟩
        | _ => exact absurd (show false = true from hT) Bool.false_ne_true
      have hl := dps_len ha
      refine q_when (b := decide (ds.length ≠ 3)) ?_ (fun hb H1 e1 => ?_) (fun hb H1 e1 => ?_)
      · refine et_is (et_or (a := false) (b := decide (ds.length ≠ 3)) (et_not (a := true) (et_B (ev_isi (ev_var rfl) (.tup hs ha) (kit_tuple _)))) fun _ => ?_) (Bool.false_or _)
        refine et_is (et_test (ev_op (ev_cb (ea_cons (ev_var rfl) ea_nil) (fun H1 e Q q => ⟨a, xs, rfl, Or.inr (ex_t e hs), q H1 (Ex.refl H1)⟩)) ev_c (rv_ne rfl))) ?_
        rw [hl]
        by_cases c : ds.length = 3
        · rw [c] <;> rfl
        · rw [decide_eq_true c]
          have c2 : ¬ V.int (ds.length : Int) = V.int 3 := fun z => c (by injection z with z; omega)
          rw [decide_eq_false c2] <;> rfl
      · have c : ds.length ≠ 3 := of_decide_eq_true hb
        have e0 : isWD (.tuple ds) = false := by
          match ds, c with
          | [], _ => rfl
          | [_], _ => rfl
          | [_, _], _ => rfl
          | [_, _, _], c => exact absurd rfl c
          | _ :: _ :: _ :: _ :: _, _ => rfl
        rw [e0] at k
        exact s_ret ev_c fun H2 e2 => k H2 (e1.trans e2)
      · have c : ds.length = 3 := by
          have z := of_decide_eq_false hb
          omega
        match ds, c, ha with
        | [de, dl, dm], _, ha =>
          cases ha with
          | @cons xe xs1 _ _ he ha1 =>
          cases ha1 with
          | @cons xl xs2 _ _ hl2 ha2 =>
          cases ha2 with
          | @cons xm xs3 _ _ hm ha3 =>
          cases ha3
          refine ⟨_, rfl, a, _, rfl, ex_t e1 hs, rfl, ?_⟩
          refine ⟨_, _, rfl, _, _, rfl, _, _, rfl, rfl, ?_⟩
          have fm : flatD dm = true := ht
          dsimp only
          refine s_ret (v := .bl (isWD (.tuple [de, dl, dm]))) ?_ (fun H2 e2 => ?_)
          case refine_2 => exact k H2 (e1.trans e2)
          refine ev_andV (ev_call (ea_cons (ev_var rfl) (ea_cons ev_c (ea_cons ev_c ea_nil))) (sp_betw (dp_ex e1 he))) fun _ =>
            ev_andV (ev_call (ea_cons (ev_var rfl) (ea_cons ev_c (ea_cons ev_c ea_nil))) (sp_betw (dp_ex e1 hl2))) fun _ =>
              ev_is (ev_op (ev_var rfl) ev_c (rv_isT (sM _) (dp_flat hm fm) rfl)) (congrArg V.bl (in_modes hm fm))
end
end Lo

namespace Lo
open PySem PySem.Spec PyProof.Rows L2 Evl L3
abbrev sIniW : Stmt := inClass (top 3) 0
abbrev sIniO : Stmt := inClass (top 4) 0
abbrev sChk : Stmt := top 13
abbrev sTurns : Stmt := top 15
abbrev sNorm : Stmt := top 16
abbrev sMost : Stmt := top 17
section
variable {P : Program} {w : World} {K : PySem.W.Frag} {mg : Str → Option Value} {base : Heap}
theorem scIni : FnScope ["self", "index"] ["self", "index"] (defScope sIniW) := ⟨rfl, rfl, rfl, by decide +kernel, rfl, by decide +kernel, by decide +kernel⟩
theorem scIniO : FnScope ["self", "index"] ["self", "index"] (defScope sIniO) := ⟨rfl, rfl, rfl, by decide +kernel, rfl, by decide +kernel, by decide +kernel⟩
theorem ok_iniW {f C : Addr} {fd : FuncData} (F : Fun K "__init__" "BadWrite.__init__" sIniW f fd) : FnOk P w K mg base CX0 1 f fd ["self", "index"] (spErr K C "index") := by
  refine F.ok scIni (fun vs H Q E h => ?_) (fun cdv A outer s H vs Q E hr h => ⟨_, pss_one (ps_ost (pv 0) (pv 1)), ?_⟩)
  · obtain ⟨a, v, rfl, _⟩ := h
    rfl
  · exact s_ini h (by obtain ⟨a, v, rfl, _⟩ := h; rfl)
theorem ok_iniO {f C : Addr} {fd : FuncData} (F : Fun K "__init__" "BadOrder.__init__" sIniO f fd) : FnOk P w K mg base CX0 1 f fd ["self", "index"] (spErr K C "index") := by
  refine F.ok scIniO (fun vs H Q E h => ?_) (fun cdv A outer s H vs Q E hr h => ⟨_, pss_one (ps_ost (pv 0) (pv 1)), ?_⟩)
  · obtain ⟨a, v, rfl, _⟩ := h
    rfl
  · exact s_ini h (by obtain ⟨a, v, rfl, _⟩ := h; rfl)
/-! ### check -/
def thirds : PyData → Bool
  | .list ds => ds.all third
  | _ => true
def fbad : List PyData → Nat → Option Nat
  | [], _ => none
  | d :: r, i => if isWD d = true then fbad r (i + 1) else some i
/-- what check tells of a value: none, or what BadWrite bears -/
def chkD : PyData → Option V
  | .list ds => if 200 < ds.length then some .non else (fbad ds 0).map fun i => V.int (i : Int)
  | _ => some .non
theorem fbad_step {ds : List PyData} {i : Nat} {d : PyData} (h : ds[i]? = some d) : fbad (ds.drop i) i = if isWD d = true then fbad (ds.drop (i + 1)) (i + 1) else some i := by
  have hi := (List.getElem?_eq_some_iff.mp h).1
  rw [List.drop_eq_getElem_cons hi, (List.getElem?_eq_some_iff.mp h).2]
  rfl
theorem dps_get {H : Hp} : ∀ {xs : List V} {ds : List PyData} {i : Nat} {x : V}, DpAll K H xs ds → xs[i]? = some x → ∃ d, ds[i]? = some d ∧ Dp K H x d
  | _, _, 0, x, .cons a _, e => by
    simp at e
    exact ⟨_, by simp, e ▸ a⟩
  | _, _, i + 1, x, .cons _ r, e => by
    obtain ⟨d, h1, h2⟩ := dps_get (i := i) r (by simpa using e)
    exact ⟨d, by simpa using h1, h2⟩
  | _, _, _, _, .nil, e => by simp at e
def spChk (K : PySem.W.Frag) (CW : Addr) : Sp := fun vs H Q E => ∃ (x : V) (d : PyData), vs = [x] ∧ Dp K H x d ∧ thirds d = true ∧ (chkD d = none → RetV .non H Q) ∧ ∀ v, chkD d = some v → ErrV CW "index" v H E
theorem scC : FnScope ["conversation", "index", "write"] ["conversation"] (defScope sChk) := ⟨rfl, rfl, rfl, by decide +kernel, rfl, by decide +kernel, by decide +kernel⟩
theorem ok_chk {f fI CW fN : Addr} {fd fdI fdN : FuncData} (F : Fun K "check" "check" sChk f fd) (T : Txt K mg) (hW : ∃ t, mg "MOST_WRITES" = some (.int 200 t)) (TW : ErC P w K mg base "BadWrite" "index" CW fN fdN)
    (FI : Fun K "is_write" "is_write" sIsW fI fdI) (bI : Binds K fdI ["value"] []) (gI : mg "is_write" = some (.ref fI)) (GI : FnOk P w K mg base CX0 2 fI fdI ["value"] (spIsW K)) :
    FnOk P w K mg base (L2.CX P w) 3 f fd ["conversation"] (spChk K CW) := by
  obtain ⟨tW, hW⟩ := hW
  refine F.okX scC (fun vs H Q E h => ?_) (fun cdv A outer s H vs Q E hr h => ?_)
  · obtain ⟨x, d, rfl, _⟩ := h
    rfl
  · obtain ⟨x, d, rfl, hd, ht, k0, k1⟩ := h
    refine ⟨_, pss_cons (ps_if (PW.pt (pw_or (pt_not (pt_val (pe_callB call_isi (by rfl) T.isi boot_isinstance (pa_cons (pv 0) (pa_cons (pe_ty "list" T.list) pa_nil)))))
        (pw_or1 (pt_cmpR op_gt (pe_callB call_len_seq (by rfl) T.len PySem.boot_len (pa_cons (pv 0) pa_nil)) (pe_glob (v := .int 200) rfl hW ⟨_, rfl⟩) (nomark _)))))
        (pss_one (ps_rz rfl TW hr (takes_of rfl rfl rfl rfl) (by exact pa_cons pe_non pa_nil))) pss_nil)
      (pss_one (ps_for (passes_of rfl) rfl (pi_enum (by rfl) T.enumerate (pa_cons (pv 0) pa_nil)) (pg_tup rfl (pgs_cons (pg_name (i := 1) scC.nd rfl (Or.inl rfl)) (pgs_cons (pg_name (i := 2) scC.nd rfl (Or.inl rfl)) pgs_nil)))
        (pss_one (ps_if (pt_not (pt_val (pe_call GI hr rfl gI FI.kp bI .nil pass0 (pa_cons (pv 2) pa_nil)))) (pss_one (ps_rz rfl TW hr (takes_of rfl rfl rfl rfl) (by exact pa_cons (pv 1) pa_nil))) pss_nil)))), ?_⟩
    cases hT : isListD d with
    | false =>
      have e0 : chkD d = some .non := by cases d <;> first | rfl | exact absurd (show true = false from hT) (by decide)
      refine q_when (b := true) (et_is (et_or (a := true) (b := false) (et_not (a := false) (et_B (ev_is (ev_isi (ev_var rfl) hd (kit_list _)) (by rw [hT])))) fun z => nomatch z) rfl) (fun _ H1 e1 => ?_) (fun hb => nomatch hb)
      exact s_rz ev_c TW.oex TW.no ((k1 _ e0).go e1)
    | true =>
      obtain ⟨a, xs, ds, rfl, rfl, hs, ha⟩ : ∃ a xs ds, d = .list ds ∧ x = .ref a ∧ SqL K H a xs ∧ DpAll K H xs ds := by
        cases hd with
        | lst hs ha => exact ⟨_, _, _, rfl, rfl, hs, ha⟩
        | _ => exact absurd (show false = true from hT) Bool.false_ne_true
      have hl := dps_len ha
      refine q_when (b := decide (200 < ds.length)) ?_ (fun hb H1 e1 => ?_) (fun hb H1 e1 => ?_)
      · refine et_is (et_or (a := false) (b := decide (200 < ds.length)) (et_not (a := true) (et_B (ev_isi (ev_var rfl) (.lst hs ha) (kit_list _)))) fun _ => ?_) (Bool.false_or _)
        refine et_is (et_test (ev_op (ev_cb (ea_cons (ev_var rfl) ea_nil) (fun H1 e Q q => ⟨a, xs, rfl, Or.inl (ex_l e hs), q H1 (Ex.refl H1)⟩)) ev_c rv_I0)) ?_
        rw [hl]
        exact decide_eq_decide.mpr (by omega)
      · have c : 200 < ds.length := of_decide_eq_true hb
        have e0 : chkD (.list ds) = some .non := if_pos c
        exact s_rz ev_c TW.oex TW.no ((k1 _ e0).go e1)
      · have c : ¬ 200 < ds.length := of_decide_eq_false hb
        have e0 : chkD (.list ds) = (fbad ds 0).map fun i => V.int (i : Int) := if_neg c
        refine s_forEn (ea_cons (ev_var rfl) ea_nil) (ex_l e1 hs) (fun i σ' H' => Ex H H' ∧ (∃ o1 o2, σ' = [some (.ref a), o1, o2]) ∧ fbad ds 0 = fbad (ds.drop i) i) (fun H2 e2 => ⟨e1.trans e2, ⟨none, none, rfl⟩, rfl⟩) (fun i σ' H' _ p => ex_l p.1 hs) ?_ ?_
        · rintro i y σ' H' hy ⟨e3, ⟨o1, o2, rfl⟩, hf⟩ H2 e2
          obtain ⟨dy, h1, h2⟩ := dps_get ha hy
          have t3 : third dy = true := by
            have z : ds.all third = true := ht
            exact List.all_eq_true.mp z _ (List.mem_of_getElem? h1)
          rw [fbad_step h1] at hf
          refine s_when (b := !isWD dy) (et_not (et_B (ev_call (ea_cons (ev_var rfl) ea_nil) (sp_isW (dp_ex (e3.trans e2) h2) t3)))) (fun hb H3 e4 => ?_) (fun hb H3 e4 => ?_)
          · have c2 : isWD dy = false := by simpa using hb
            rw [c2, if_neg Bool.false_ne_true] at hf
            rw [hf] at e0
            exact s_rz (ev_var rfl) TW.oex TW.no ((k1 _ e0).go ((e3.trans e2).trans e4))
          · have c2 : isWD dy = true := by simpa using hb
            rw [c2, if_pos rfl] at hf
            exact ⟨(e3.trans e2).trans e4, ⟨_, _, rfl⟩, hf⟩
        · rintro σ' H' ⟨e3, _, hf⟩
          rw [hl, List.drop_length] at hf
          rw [hf] at e0
          exact k0 e0 _ e3
end
end Lo

namespace Lo
open PySem PySem.Spec PyProof.Rows L2 Evl L3
/-! ### what check lets by -/
def okW (w : Wr) : Bool := betwD (.int w.1) 0 1 && (betwD (.int w.2.1) 1 1000000000000000000 && modeD (.str w.2.2))
theorem isWD_wD (w : Wr) : isWD (wD w) = okW w := rfl
theorem isWD_some {d : PyData} (h : isWD d = true) : ∃ w, d = wD w ∧ okW w = true := by
  match d, h with
  | .tuple [e, l, m], h =>
    have h' : (betwD e 0 1 && (betwD l 1 1000000000000000000 && modeD m)) = true := h
    simp only [Bool.and_eq_true] at h'
    obtain ⟨h1, h2, h3⟩ := h'
    match e, h1 with
    | .int i, h1 =>
    match l, h2 with
    | .int j, h2 =>
    match m, h3 with
    | .str s, h3 =>
      refine ⟨(i, j, s), rfl, ?_⟩
      unfold okW
      simp only [Bool.and_eq_true]
      exact ⟨h1, h2, h3⟩
theorem fbad_good : ∀ {ds : List PyData} {i : Nat}, fbad ds i = none → ∃ ws : List Wr, ds = ws.map wD ∧ ∀ w ∈ ws, okW w = true
  | [], _, _ => ⟨[], rfl, fun _ h => nomatch h⟩
  | d :: r, i, h => by
    have h' : (if isWD d = true then fbad r (i + 1) else some i) = none := h
    by_cases c : isWD d = true
    · rw [if_pos c] at h'
      obtain ⟨ws, e, a⟩ := fbad_good h'
      obtain ⟨w, e1, a1⟩ := isWD_some c
      refine ⟨w :: ws, by rw [e1, e]; rfl, fun v hv => ?_⟩
      rcases List.mem_cons.mp hv with q | q
      · rw [q]; exact a1
      · exact a v q
    · rw [if_neg c] at h'
      cases h'
theorem good_fbad : ∀ {ws : List Wr} {i : Nat}, (∀ w ∈ ws, okW w = true) → fbad (ws.map wD) i = none
  | [], _, _ => rfl
  | w :: r, i, h => by
    show (if isWD (wD w) = true then fbad (r.map wD) (i + 1) else some i) = none
    rw [isWD_wD, h w List.mem_cons_self, if_pos rfl]
    exact good_fbad fun v hv => h v (List.mem_cons_of_mem _ hv)
theorem chk_good {d : PyData} (h : chkD d = none) : ∃ ws : List Wr, d = cD ws ∧ ws.length ≤ 200 ∧ ∀ w ∈ ws, okW w = true := by
  match d, h with
  | .list ds, h =>
    have h' : (if 200 < ds.length then some V.non else (fbad ds 0).map fun i => V.int (i : Int)) = none := h
    by_cases c : 200 < ds.length
    · rw [if_pos c] at h'
      cases h'
    · rw [if_neg c] at h'
      cases e : fbad ds 0 with
      | some i =>
        rw [e] at h'
        cases h'
      | none =>
        obtain ⟨ws, e1, a⟩ := fbad_good e
        exact ⟨ws, by rw [e1] <;> rfl, by rw [e1, List.length_map] at c; omega, a⟩
theorem good_chk {ws : List Wr} (hl : ws.length ≤ 200) (h : ∀ w ∈ ws, okW w = true) : chkD (cD ws) = none := by
  show (if 200 < (ws.map wD).length then some V.non else (fbad (ws.map wD) 0).map fun i => V.int (i : Int)) = none
  rw [if_neg (by rw [List.length_map]; omega), good_fbad h] <;> rfl
theorem third_wD (ws : List Wr) : thirds (cD ws) = true := by
  show (ws.map wD).all third = true
  rw [List.all_eq_true]
  intro d hd
  obtain ⟨w, _, e⟩ := List.mem_map.mp hd
  rw [← e] <;> rfl
section
variable {P : Program} {w : World} {K : PySem.W.Frag} {mg : Str → Option Value} {base : Heap}
def spTurns (K : PySem.W.Frag) (CW : Addr) : Sp := fun vs H Q E => ∃ (x : V) (d : PyData), vs = [x] ∧ Dp K H x d ∧ thirds d = true ∧
  (∀ ws : List Wr, d = cD ws → chkD d = none → RetLD K ((turnsM ws).map tD) H Q) ∧ ∀ v, chkD d = some v → ErrV CW "index" v H E
theorem scTu : FnScope ["conversation", "found", "start", "stop", "speaker"] ["conversation"] (defScope sTurns) := ⟨rfl, rfl, rfl, by decide +kernel, rfl, by decide +kernel, by decide +kernel⟩
theorem ok_turns {f fC CW : Addr} {fd fdC : FuncData} (F : Fun K "turns" "turns" sTurns f fd) (T : Txt K mg)
    (FC : Fun K "check" "check" sChk fC fdC) (bC : Binds K fdC ["conversation"] []) (gC : mg "check" = some (.ref fC)) (GC : FnOk P w K mg base (L2.CX P w) 3 fC fdC ["conversation"] (spChk K CW)) :
    FnOk P w K mg base (L2.CX P w) 4 f fd ["conversation"] (spTurns K CW) := by
  refine F.okX scTu (fun vs H Q E h => ?_) (fun cdv A outer s H vs Q E hr h => ?_)
  · obtain ⟨x, d, rfl, _⟩ := h
    rfl
  · obtain ⟨x, d, rfl, hd, ht, k0, k1⟩ := h
    refine ⟨_, pss_cons (ps_expr (pe_call GC hr rfl gC FC.kp bC .nil (passes_call (takes_of rfl rfl rfl rfl) fun _ _ _ _ z => z) (by exact pa_cons (pv 0) pa_nil)))
      (pss_cons (ps_set (i := 1) scTu.nd rfl (Or.inl rfl) (pe_lst pa_nil)) (pss_cons (ps_set (i := 2) scTu.nd rfl (Or.inl rfl) pe_int)
      (pss_cons (ps_for (passes_of rfl) rfl (pi_range2 rfl T.range (pa_cons pe_int (pa_cons (pe_op op_add (pe_callB call_len_seq (by rfl) T.len PySem.boot_len (pa_cons (pv 0) pa_nil)) pe_int) pa_nil))) (pg_name (i := 3) scTu.nd rfl (Or.inl rfl))
        (pss_cons (ps_set (i := 4) scTu.nd rfl (Or.inl rfl) (pe_ix ix_tup (pe_ix ix_list (pv 0) (pv 2) (fun _ _ => rfl)) pe_int (fun _ _ => rfl)))
        (pss_one (ps_if (PW.pt (pw_or (pt_cmpR op_eq (pv 3) (pe_callB call_len_seq (by rfl) T.len PySem.boot_len (pa_cons (pv 0) pa_nil)) (nomark _))
            (pw_or1 (pt_cmpR op_ne (pe_ix ix_tup (pe_ix ix_list (pv 0) (pv 3) (fun _ _ => rfl)) pe_int (fun _ _ => rfl)) (pv 4) (nomark _)))))
          (pss_cons (ps_expr (pe_bm PySem.F.plainAttrs_list PySem.F.slot_list_append PySem.F.type_list_append mt_append (pv 1) (pa_cons (pe_tup (pa_cons (pv 4) (pa_cons (pv 2) (pa_cons (pv 3) pa_nil)))) pa_nil)))
            (pss_one (ps_set (i := 2) scTu.nd rfl (Or.inl rfl) (pv 3)))) pss_nil))))
      (pss_one (ps_ret (pv 1)))))), ?_⟩
    refine ⟨_, rfl, x, d, rfl, hd, ht, fun c0 H1 e1 => ?_, k1⟩
    obtain ⟨ws, rfl, hlen, _⟩ := chk_good c0
    have kk := k0 ws rfl c0
    cases hd with
    | @lst a xs _ hs ha =>
    have hl : xs.length = ws.length := by rw [dps_len' ha, List.length_map]
    refine q_asgL (el_lst ea_nil (by show 0 ≤ 100000; decide)) fun p H2 hp2 e2 h2 => ?_
    refine q_asg ev_c fun H3 e3 => ?_
    have evlen : ∀ {σ : L2.St} {H' : Hp}, σ[0]? = some (some (V.ref a)) → Ex H H' → Ev (tCB (rLenS K) (tCons (tVar 0) tNil)) σ H' (.int (ws.length : Int)) := fun hσ e => by
      rw [← hl]
      exact ev_len (ev_var hσ) (ex_l e hs)
    have hp0 : H p = none := fresh_back e1 hp2
    refine q_forR2 (ea_cons ev_c (ea_cons (ev_op (evlen rfl ((e1.trans e2).trans e3)) ev_c rv_I0) ea_nil)) (by omega)
      (fun i σ' H' => ∃ o3 o4 ys, σ' = [some (.ref a), some (.ref p), some (.int ((tN ws i).2 : Int)), o3, o4] ∧ Ex H (del H' p) ∧ H' p = some (.lst ys) ∧ DpAll K (del H' p) ys ((tN ws i).1.map tD))
      (fun H4 e4 => ⟨none, none, [], rfl, ex_beside (((e1.trans e2).trans e3).trans e4) hp0, e4 p _ (e3 p _ h2), .nil⟩) ?_ ?_
    · rintro i σ' H' hi ⟨o3, o4, ys, rfl, ex, hys, hda⟩
      have hi2 : i < ws.length := by omega
      have eH : Ex H H' := ex.trans ex_del_self
      have hst := tN_le ws i
      obtain ⟨t1, w1, q1, x1, s1⟩ := wr_at ha (j := (tN ws i).2) (by omega)
      have sp1 : w1.1 = spk ws (tN ws i).2 := (spk_of q1).symm
      refine q_asg (v := .int (spk ws (tN ws i).2)) ?_ fun H4 e4 => ?_
      · rw [← sp1]
        exact ev_op (ev_op (ev_var rfl) (ev_var rfl) (rv_ixL (ex_l eH hs) (atI_nat x1))) ev_c (rv_ixT (ex_t eH s1) (atI_nat (j := 0) rfl))
      have e14 : ((1 : Int) + (i : Int)) = ((i + 1 : Nat) : Int) := by omega
      refine s_when (b := decide (i + 1 = ws.length ∨ spk ws (i + 1) ≠ spk ws (tN ws i).2)) ?_ (fun hb H5 e5 => ?_) (fun hb H5 e5 => ?_)
      · by_cases c : i + 1 = ws.length
        · refine et_is (et_or (a := true) (b := true) (et_is (et_test (ev_op (ev_var rfl) (evlen rfl (eH.trans e4)) (rv_eq rfl))) (decide_eq_true (by rw [← c, e14]))) fun z => nomatch z) ?_
          rw [decide_eq_true (Or.inl c)] <;> rfl
        · obtain ⟨t2, w2, q2, x2, s2⟩ := wr_at ha (j := i + 1) (by omega)
          have sp2 : w2.1 = spk ws (i + 1) := (spk_of q2).symm
          refine et_is (et_or (a := false) (b := decide (spk ws (i + 1) ≠ spk ws (tN ws i).2)) (et_is (et_test (ev_op (ev_var rfl) (evlen rfl (eH.trans e4)) (rv_eq rfl))) (decide_eq_false (fun z => c (by injection z with z; omega)))) fun _ => ?_) ?_
          · refine et_is (et_test (ev_op (x := .int (spk ws (i + 1))) ?_ (ev_var rfl) (rv_ne rfl))) ?_
            · rw [← sp2]
              refine ev_op (ev_op (ev_var rfl) (ev_var (v := .int ((i + 1 : Nat) : Int)) (by rw [← e14]; rfl)) (rv_ixL (ex_l (eH.trans e4) hs) (atI_nat x2))) ev_c (rv_ixT (ex_t (eH.trans e4) s2) (atI_nat (j := 0) rfl))
            · by_cases c2 : spk ws (i + 1) = spk ws (tN ws i).2
              · rw [c2, decide_eq_true rfl, decide_eq_false (fun z => z rfl)] <;> rfl
              · rw [decide_eq_true c2, decide_eq_false (fun z => c2 (by injection z))] <;> rfl
          · rw [Bool.false_or]
            exact decide_eq_decide.mpr ⟨Or.inr, fun z => z.resolve_left c⟩
      · have c := of_decide_eq_true hb
        have eN : tN ws (i + 1) = ((tN ws i).1 ++ [(spk ws (tN ws i).2, (tN ws i).2, i + 1)], i + 1) := if_pos c
        have hys5 : H5 p = some (.lst ys) := e5 p _ (e4 p _ hys)
        refine q_appU hys5 (ev_var rfl) (eu_tup (ea_cons (ev_var rfl) (ea_cons (ev_var rfl) (ea_cons (ev_var rfl) ea_nil))) (by show 3 ≤ 100000; decide)) ?_ fun u H6 hu e6 h6 => ?_
        · have z1 := dps_len' hda
          have z2 := tN_len ws i
          rw [List.length_map] at z1
          omega
        have nup : u ≠ p := fun z => by
          rw [z, hys5] at hu
          cases hu
        refine s_asg (ev_var rfl) fun H7 e7 => ?_
        refine ⟨some (.int (1 + (i : Int))), some (.int (spk ws (tN ws i).2)), ys ++ [.ref u], ?_, ?_, e7 p _ upd_same, ?_⟩
        · rw [eN, ← e14] <;> rfl
        · refine (ex.trans (ex_del ((e4.trans e5).trans e6))).trans ?_
          rw [← del_upd (H := H6) (l := p) (o := .lst (ys ++ [.ref u]))]
          exact ex_del e7
        · rw [eN, List.map_append]
          have k7 : Ex (del H6 p) (del H7 p) := by
            rw [← del_upd (H := H6) (l := p) (o := .lst (ys ++ [.ref u]))]
            exact ex_del e7
          refine dps_snoc (dps_ex (((ex_del ((e4.trans e5).trans e6))).trans k7) hda) ?_
          have hu6 : (del H6 p) u = some (.tup [.int (spk ws (tN ws i).2), .int ((tN ws i).2 : Int), .int ((i + 1 : Nat) : Int)]) := by
            rw [del_ne nup, h6, e14]
          exact .tup (st_of (k7 u _ hu6)) (.cons (.int _) (.cons (.int _) (.cons (.int _) .nil)))
      · have c := of_decide_eq_false hb
        have eN : tN ws (i + 1) = tN ws i := if_neg c
        have k5 : Ex (del H' p) (del H5 p) := ex_del (e4.trans e5)
        refine ⟨some (.int (1 + (i : Int))), some (.int (spk ws (tN ws i).2)), ys, ?_, ex.trans k5, e5 p _ (e4 p _ hys), ?_⟩
        · rw [eN] <;> rfl
        · rw [eN]
          exact dps_ex k5 hda
    · rintro σ' H' ⟨o3, o4, ys, rfl, ex, hys, hda⟩
      have e0 : (((ws.length : Nat) : Int) + 1 - 1).toNat = ws.length := by omega
      rw [e0] at hda
      exact s_ret (ev_var rfl) fun H4 e4 => kk p ys H4 hp0 (ex.trans (ex_del e4)) (e4 p _ hys) (dps_ex (ex_del e4) hda)
end
end Lo

namespace Lo
open PySem PySem.Spec PyProof.Rows L2 Evl L3
section
variable {P : Program} {w : World} {K : PySem.W.Frag} {mg : Str → Option Value} {base : Heap}
/-- a new list of values is handed back -/
def RetLV (xs : List V) (H : Hp) (Q : VK) : Prop := ∀ p H2, H p = none → Ex H (del H2 p) → H2 p = some (.lst xs) → Q (.ref p) H2
theorem RetLV.go {xs : List V} {H H1 : Hp} {Q : VK} (k : RetLV xs H Q) (e : Ex H H1) : RetLV xs H1 Q := fun p H2 h1 h2 h3 => k p H2 (fresh_back e h1) (e.trans h2) h3
def spMost (K : PySem.W.Frag) (CW : Addr) : Sp := fun vs H Q E => ∃ (x : V) (d : PyData), vs = [x] ∧ Dp K H x d ∧ thirds d = true ∧
  (∀ ws : List Wr, d = cD ws → chkD d = none → RetLV ((limM ws).map V.int) H Q) ∧ ∀ v, chkD d = some v → ErrV CW "index" v H E
theorem scMo : FnScope ["conversation", "start", "starts", "highest", "endpoint", "stop"] ["conversation"] (defScope sMost) := ⟨rfl, rfl, rfl, by decide +kernel, rfl, by decide +kernel, by decide +kernel⟩
theorem ok_most {f fT CW : Addr} {fd fdT : FuncData} (F : Fun K "most_clearings" "most_clearings" sMost f fd) (T : Txt K mg) (hC : ∃ t, mg "MOST_CLEARINGS" = some (.int 2 t))
    (FT : Fun K "turns" "turns" sTurns fT fdT) (bT : Binds K fdT ["conversation"] []) (gT : mg "turns" = some (.ref fT)) (GT : FnOk P w K mg base (L2.CX P w) 4 fT fdT ["conversation"] (spTurns K CW)) :
    FnOk P w K mg base (L2.CX P w) 5 f fd ["conversation"] (spMost K CW) := by
  obtain ⟨tC, hC⟩ := hC
  refine F.okX scMo (fun vs H Q E h => ?_) (fun cdv A outer s H vs Q E hr h => ?_)
  · obtain ⟨x, d, rfl, _⟩ := h
    rfl
  · obtain ⟨x, d, rfl, hd, ht, k0, k1⟩ := h
    refine ⟨_, pss_cons (ps_setLc (i := 2) (own := [("endpoint", 4), ("start", 1), ("stop", 5)]) (g := gTup K 3 (gCons (gName 4) (gCons (gName 1) (gCons (gName 5) gNil)))) (tt := tYes) (te := tVar 1) rfl scMo.nd rfl rfl (sw_true rfl rfl rfl (by decide +kernel))
        (pi_list (pe_call GT hr rfl gT FT.kp bT .nil (passes_call (takes_of rfl rfl rfl rfl) fun _ _ _ _ z => z) (by exact pa_cons (pv 0) pa_nil)))
        (blkOk_by (N := ["conversation", "start", "starts", "highest", "endpoint", "stop"]) (sc := defScope sMost) (by decide +kernel))
        (fun _ _ _ _ _ => pg_tup rfl (pgs_cons (pg_name (i := 4) scMo.nd rfl (Or.inl rfl)) (pgs_cons (pg_name (i := 1) scMo.nd rfl (Or.inl rfl)) (pgs_cons (pg_name (i := 5) scMo.nd rfl (Or.inl rfl)) pgs_nil))))
        (fun _ _ _ _ _ => pts_nil) (fun _ _ _ _ _ => pv 1))
      (pss_cons (ps_set (i := 3) scMo.nd rfl (Or.inl rfl) (pe_op op_rep (pe_lst (pa_cons (pe_glob (v := .int 2) rfl hC ⟨_, rfl⟩) pa_nil)) (pe_callB call_len_seq (by rfl) T.len PySem.boot_len (pa_cons (pv 0) pa_nil))))
      (pss_cons (ps_for (passes_of rfl) rfl (pi_list (pv 2)) (pg_name (i := 1) scMo.nd rfl (Or.inl rfl)) (pss_one (ps_asg pe_int (pg_sub (pv 3) (pv 1) set_list))))
      (pss_one (ps_ret (pv 3))))), ?_⟩
    refine ⟨_, rfl, x, d, rfl, hd, ht, fun ws e0 c0 => ?_, k1⟩
    subst e0
    have kk := k0 ws rfl c0
    have hlen : ws.length ≤ 200 := by
      obtain ⟨ws', e, hl, _⟩ := chk_good c0
      have z : (PyData.list (ws.map wD)) = .list (ws'.map wD) := e
      injection z with z
      have z2 := congrArg List.length z
      rw [List.length_map, List.length_map] at z2
      omega
    obtain ⟨a, xs0, rfl, hs, ha⟩ : ∃ a xs, x = .ref a ∧ SqL K H a xs ∧ DpAll K H xs (ws.map wD) := by
      cases hd with
      | lst hs ha => exact ⟨_, _, rfl, hs, ha⟩
    have hl0 : xs0.length = ws.length := by rw [dps_len' ha, List.length_map]
    intro p xs H2 hp2 e2 h2 hda
    have hlx : xs.length = (turnsM ws).length := by rw [dps_len' hda, List.length_map]
    have hlt : (turnsM ws).length ≤ ws.length := tN_len ws _
    have e02 : Ex H H2 := e2.trans ex_del_self
    refine ⟨p, rfl, ⟨xs, sq_of h2⟩, fun Dl hD => lc_list (xs := xs) (fun i H' => Ex H2 (del H' Dl) ∧ H' Dl = some (.lst (((starts (turnsM ws)).take i).map fun (j : Nat) => V.int (j : Int)))) ⟨ex_beside (Ex.new hD) hD, upd_same⟩
      (fun i H' _ q => sq_of (ex_del_self p _ (q.1 p _ h2))) ?_ ?_⟩
    · rintro i y H' hy ⟨q1, q2⟩
      obtain ⟨dy, h3, h4⟩ := dps_get hda hy
      rw [List.getElem?_map] at h3
      cases ht2 : (turnsM ws)[i]? with
      | none =>
        rw [ht2] at h3
        cases h3
      | some tu =>
        rw [ht2] at h3
        have e3 : tD tu = dy := Option.some.inj h3
        subst e3
        have h5 : Dp K H' y (tD tu) := dp_ex ((ex_del_self.trans q1).trans ex_del_self) h4
        cases h5 with
        | @tup t ys _ ts ta =>
        cases ta with
        | cons a1 r1 =>
        cases r1 with
        | cons a2 r2 =>
        cases r2 with
        | cons a3 r3 =>
        cases r3
        cases a1
        cases a2
        cases a3
        refine ⟨t, _, rfl, ts, rfl, ?_⟩
        refine ⟨_, _, rfl, _, _, rfl, _, _, rfl, rfl, rfl, ?_⟩
        refine yes_then ⟨.int (tu.2.1 : Int), rfl, _, q2, ?_, ?_⟩
        · rw [List.length_map, List.length_take]
          have z := Nat.min_le_left i (starts (turnsM ws)).length
          have z2 : i < xs.length := (List.getElem?_eq_some_iff.mp hy).1
          exact sz_lt (by omega)
        · refine ⟨?_, ?_⟩
          · rw [del_upd]
            exact q1
          · rw [upd_same]
            have e4 : (starts (turnsM ws)).take (i + 1) = (starts (turnsM ws)).take i ++ [tu.2.1] := by
              have z : (starts (turnsM ws))[i]? = some tu.2.1 := by
                unfold starts
                rw [List.getElem?_map, ht2] <;> rfl
              rw [List.take_add_one, z] <;> rfl
            rw [e4, List.map_append] <;> rfl
    · rintro H3 ⟨q1, q2⟩
      have eS : (starts (turnsM ws)).take xs.length = starts (turnsM ws) := by
        refine List.take_of_length_le ?_
        unfold starts
        rw [List.length_map]
        omega
      rw [eS] at q2
      have e03 : Ex H H3 := e02.trans (q1.trans ex_del_self)
      have evlen : ∀ {σ : L2.St} {H' : Hp}, σ[0]? = some (some (V.ref a)) → Ex H H' → Ev (tCB (rLenS K) (tCons (tVar 0) tNil)) σ H' (.int (ws.length : Int)) := fun hσ e => by
        rw [← hl0]
        exact ev_len (ev_var hσ) (ex_l e hs)
      refine q_asgL (el_rep ev_c (evlen rfl e03) (by omega)) fun hp H4 hn4 e4 h4 => ?_
      have hD4 : H4 Dl = some (.lst ((starts (turnsM ws)).map fun (j : Nat) => V.int (j : Int))) := e4 Dl _ q2
      have nDh : Dl ≠ hp := ne_of_none q2 hn4
      have hp0 : H hp = none := fresh_back e03 hn4
      refine q_forLn (ev_var rfl) (sq_of hD4) (fun i σ' H' => ∃ o1 o4 o5, σ' = [some (.ref a), o1, some (.ref Dl), some (.ref hp), o4, o5] ∧ Ex (del H4 hp) (del H' hp) ∧
          H' hp = some (.lst ((((starts (turnsM ws)).take i).foldl (fun L s => L.set s (0 : Int)) (List.replicate ws.length 2)).map V.int)))
        (fun H5 e5 => ⟨_, _, _, rfl, ex_del e5, ?_⟩) (fun i σ' H' _ ⟨_, _, _, _, q, _⟩ => sq_of (ex_del_self Dl _ (q Dl _ (by rw [del_ne nDh]; exact hD4)))) ?_ ?_
      · rw [List.take_zero, e5 hp _ h4]
        show some (HO.lst (List.replicate ws.length (V.int 2))) = some (HO.lst ((List.replicate ws.length (2 : Int)).map V.int))
        rw [List.map_replicate]
      · rintro i y σ' H' hy ⟨o1, o4, o5, rfl, q3, q4⟩
        rw [List.getElem?_map] at hy
        cases hst : (starts (turnsM ws))[i]? with
        | none =>
          rw [hst] at hy
          cases hy
        | some sj =>
          rw [hst] at hy
          have ey : V.int (sj : Int) = y := Option.some.inj hy
          subst ey
          have hsj : sj < ws.length := ((starts_turns ws sj).mp (List.mem_of_getElem? hst)).1
          have hfl : ∀ (ss : List Nat) (L : List Int), (ss.foldl (fun L s => L.set s (0 : Int)) L).length = L.length := fun ss => by
            induction ss with
            | nil => intro L; rfl
            | cons s r ih => intro L; rw [List.foldl_cons, ih, List.length_set]
          refine s_setL (j := sj) q4 ev_c (ev_var rfl) (ev_var rfl) (by rw [List.length_map, hfl, List.length_replicate]; exact hsj) fun H5 e5 => ?_
          refine ⟨_, _, _, rfl, ?_, ?_⟩
          · rw [del_upd]
            exact q3.trans (ex_del e5)
          · have e4 : (starts (turnsM ws)).take (i + 1) = (starts (turnsM ws)).take i ++ [sj] := by
              rw [List.take_add_one, hst] <;> rfl
            rw [upd_same, e4, List.foldl_append]
            show some (HO.lst (List.set (List.map V.int _) sj (V.int 0))) = some (HO.lst (List.map V.int (List.set _ sj 0)))
            rw [List.map_set]
      · rintro σ' H' ⟨o1, o4, o5, rfl, q3, q4⟩
        have eS2 : (starts (turnsM ws)).take ((starts (turnsM ws)).map fun (j : Nat) => V.int (j : Int)).length = starts (turnsM ws) := by
          rw [List.length_map, List.take_length]
        rw [eS2, lim_set] at q4
        exact s_ret (ev_var rfl) fun H5 e5 => kk hp H5 hp0 ((ex_beside (e03.trans e4) hp0).trans (q3.trans (ex_del e5))) (e5 hp _ q4)
end
end Lo

namespace Lo
open PySem PySem.Spec PyProof.Rows L2 Evl L3
/-! ### normal_order -/
def obad : List PyData → List Int → Nat → Option Nat
  | d :: r, l :: ls, i => if betwD d 0 l = true then obad r ls (i + 1) else some i
  | _, _, _ => none
/-- the order as a list, or what BadOrder bears -/
inductive NO where
  | ok (xs : List PyData)
  | bad (v : V)
def normO (ws : List Wr) : PyData → NO
  | .str s => if s = "quick" then .ok ((limM ws).map .int) else if s = "slow" then .ok (List.replicate ws.length (.int 0)) else .bad .non
  | .list ds => if ds.length = ws.length then (match obad ds (limM ws) 0 with | none => .ok ds | some i => .bad (.int (i : Int))) else .bad .non
  | _ => .bad .non
theorem lim_len (ws : List Wr) : (limM ws).length = ws.length := by
  unfold limM
  rw [List.length_map, List.length_range]
theorem obad_step {ds : List PyData} {ls : List Int} {i : Nat} {d : PyData} {l : Int} (h : ds[i]? = some d) (h2 : ls[i]? = some l) :
    obad (ds.drop i) (ls.drop i) i = if betwD d 0 l = true then obad (ds.drop (i + 1)) (ls.drop (i + 1)) (i + 1) else some i := by
  have hi := (List.getElem?_eq_some_iff.mp h).1
  have hj := (List.getElem?_eq_some_iff.mp h2).1
  rw [List.drop_eq_getElem_cons hi, (List.getElem?_eq_some_iff.mp h).2, List.drop_eq_getElem_cons hj, (List.getElem?_eq_some_iff.mp h2).2]
  rfl
section
variable {P : Program} {w : World} {K : PySem.W.Frag} {mg : Str → Option Value} {base : Heap}
theorem dps_ints {H : Hp} : ∀ ns : List Int, DpAll K H (ns.map V.int) (ns.map PyData.int)
  | [] => .nil
  | n :: r => .cons (.int n) (dps_ints r)
theorem dps_rep {H : Hp} : ∀ n : Nat, DpAll K H (List.replicate n (V.int 0)) (List.replicate n (PyData.int 0))
  | 0 => .nil
  | n + 1 => .cons (.int 0) (dps_rep n)
/-- conversation x, order y -/
def spNorm (K : PySem.W.Frag) (CW CO : Addr) : Sp := fun vs H Q E => ∃ (x y : V) (d o : PyData), vs = [x, y] ∧ Dp K H x d ∧ thirds d = true ∧ Dp K H y o ∧ SeqAt.shaped o = true ∧
  (∀ ws : List Wr, d = cD ws → chkD d = none → (∀ xs, normO ws o = .ok xs → RetLD K xs H Q) ∧ ∀ v, normO ws o = .bad v → ErrV CO "index" v H E) ∧ ∀ v, chkD d = some v → ErrV CW "index" v H E
theorem scNo : FnScope ["conversation", "order", "highest", "index", "clearings"] ["conversation", "order"] (defScope sNorm) := ⟨rfl, rfl, rfl, by decide +kernel, rfl, by decide +kernel, by decide +kernel⟩
theorem ok_norm {f fM fB CW CO fN : Addr} {fd fdM fdB fdN : FuncData} (F : Fun K "normal_order" "normal_order" sNorm f fd) (T : Txt K mg) (TO : ErC P w K mg base "BadOrder" "index" CO fN fdN)
    (FM : Fun K "most_clearings" "most_clearings" sMost fM fdM) (bM : Binds K fdM ["conversation"] []) (gM : mg "most_clearings" = some (.ref fM)) (GM : FnOk P w K mg base (L2.CX P w) 5 fM fdM ["conversation"] (spMost K CW))
    (FB : Fun K "between" "between" sBetw fB fdB) (bB : Binds K fdB ["value", "low", "high"] []) (gB : mg "between" = some (.ref fB)) :
    FnOk P w K mg base (L2.CX P w) 6 f fd ["conversation", "order"] (spNorm K CW CO) := by
  have GB : FnOk P w K mg base CX0 1 fB fdB ["value", "low", "high"] (spBetw K) := ok_betw FB T
  refine F.okX scNo (fun vs H Q E h => ?_) (fun cdv A outer s H vs Q E hr h => ?_)
  · obtain ⟨x, y, d, o, rfl, _⟩ := h
    rfl
  · obtain ⟨x, y, d, o, rfl, hd, ht, ho, hso, k0, k1⟩ := h
    have hr1 : Room 1 _ := hr.mono (by decide)
    have hr2 : Room 2 _ := hr.mono (by decide)
    refine ⟨_, pss_cons (ps_set (i := 2) scNo.nd rfl (Or.inl rfl) (pe_call GM hr rfl gM FM.kp bM .nil (passes_call (takes_of rfl rfl rfl rfl) fun _ _ _ _ z => z) (by exact pa_cons (pv 0) pa_nil)))
      (pss_cons (ps_if (pt_cmpR (op_eqD hr.units) (pv 1) pe_str (nomark _)) (pss_one (ps_ret (pv 2))) pss_nil)
      (pss_cons (ps_if (pt_cmpR (op_eqD hr.units) (pv 1) pe_str (nomark _)) (pss_one (ps_ret (pe_op op_rep (pe_lst (pa_cons pe_int pa_nil)) (pe_callB call_len_seq (by rfl) T.len PySem.boot_len (pa_cons (pv 0) pa_nil))))) pss_nil)
      (pss_cons (ps_if (PW.pt (pw_or (pt_not (pt_val (pe_callB call_isi (by rfl) T.isi boot_isinstance (pa_cons (pv 1) (pa_cons (pe_ty "list" T.list) pa_nil)))))
          (pw_or1 (pt_cmpR op_ne (pe_callB call_len_seq (by rfl) T.len PySem.boot_len (pa_cons (pv 1) pa_nil)) (pe_callB call_len_seq (by rfl) T.len PySem.boot_len (pa_cons (pv 0) pa_nil)) (nomark _)))))
        (pss_one (ps_rz rfl TO hr2 (takes_of rfl rfl rfl rfl) (by exact pa_cons pe_non pa_nil))) pss_nil)
      (pss_cons (ps_for (passes_of rfl) rfl (pi_enum (by rfl) T.enumerate (pa_cons (pv 1) pa_nil)) (pg_tup rfl (pgs_cons (pg_name (i := 3) scNo.nd rfl (Or.inl rfl)) (pgs_cons (pg_name (i := 4) scNo.nd rfl (Or.inl rfl)) pgs_nil)))
        (pss_one (ps_if (pt_not (pt_val (pe_call GB hr1 rfl gB FB.kp bB .nil pass0 (pa_cons (pv 4) (pa_cons pe_int (pa_cons (pe_ix ix_list (pv 2) (pv 3) (fun _ _ => rfl)) pa_nil))))))
          (pss_one (ps_rz rfl TO hr2 (takes_of rfl rfl rfl rfl) (by exact pa_cons (pv 3) pa_nil))) pss_nil)))
      (pss_one (ps_ret (pe_callTy call_list_of (by rfl) T.list (by decide +kernel) (pa_cons (pv 1) pa_nil)))))))), ?_⟩
    refine ⟨_, rfl, x, d, rfl, hd, ht, fun ws e0 c0 => ?_, k1⟩
    subst e0
    obtain ⟨kok, kbad⟩ := k0 ws rfl c0
    have hlen : ws.length ≤ 200 := by
      obtain ⟨ws', e, hl, _⟩ := chk_good c0
      have z : (PyData.list (ws.map wD)) = .list (ws'.map wD) := e
      injection z with z
      have z2 := congrArg List.length z
      rw [List.length_map, List.length_map] at z2
      omega
    obtain ⟨a, xs0, rfl, hs, ha⟩ : ∃ a xs, x = .ref a ∧ SqL K H a xs ∧ DpAll K H xs (ws.map wD) := by
      cases hd with
      | lst hs ha => exact ⟨_, _, rfl, hs, ha⟩
    have hl0 : xs0.length = ws.length := by rw [dps_len' ha, List.length_map]
    intro hp H1 hp0 e1 h1
    have e01 : Ex H H1 := e1.trans ex_del_self
    have evlen : ∀ {σ : L2.St} {H' : Hp}, σ[0]? = some (some (V.ref a)) → Ex H H' → Ev (tCB (rLenS K) (tCons (tVar 0) tNil)) σ H' (.int (ws.length : Int)) := fun hσ e => by
      rw [← hl0]
      exact ev_len (ev_var hσ) (ex_l e hs)
    refine q_when (et_test (ev_op (ev_var rfl) ev_c (rv_eqD (dp_ex e01 ho) (.str "quick") hso (by decide +kernel)))) (fun hb H2 e2 => ?_) (fun hb H2 e2 => ?_)
    · rw [eqv_str] at hb
      cases o with
      | str z =>
        have ez : z = "quick" := of_decide_eq_true hb
        have en : normO ws (.str z) = .ok ((limM ws).map .int) := if_pos ez
        exact s_ret (ev_var rfl) fun H3 e3 => kok _ en hp _ H3 hp0 (e1.trans (ex_del (e2.trans e3))) (e3 hp _ (e2 hp _ h1)) (dps_ints _)
      | _ => cases hb
    refine q_when (et_test (ev_op (ev_var rfl) ev_c (rv_eqD (dp_ex (e01.trans e2) ho) (.str "slow") hso (by decide +kernel)))) (fun hb2 H3 e3 => ?_) (fun hb2 H3 e3 => ?_)
    · rw [eqv_str] at hb hb2
      cases o with
      | str z =>
        have ez : ¬ z = "quick" := of_decide_eq_false hb
        have ez2 : z = "slow" := of_decide_eq_true hb2
        have en : normO ws (.str z) = .ok (List.replicate ws.length (.int 0)) := by
          show (if z = "quick" then _ else if z = "slow" then _ else _) = _
          rw [if_neg ez, if_pos ez2]
        exact s_retL (el_rep ev_c (evlen rfl ((e01.trans e2).trans e3)) (by omega)) fun p H4 hn4 e4 h4 =>
          kok _ en p _ H4 (fresh_back ((e01.trans e2).trans e3) hn4) (ex_beside (((e01.trans e2).trans e3).trans e4) (fresh_back ((e01.trans e2).trans e3) hn4)) h4 (dps_rep _)
      | _ => cases hb2
    have e03 : Ex H H3 := (e01.trans e2).trans e3
    have h3 : H3 hp = some (.lst ((limM ws).map V.int)) := e3 hp _ (e2 hp _ h1)
    cases hT : isListD o with
    | false =>
      have en : normO ws o = .bad .non := by
        cases o with
        | str z =>
          rw [eqv_str] at hb hb2
          show (if z = "quick" then _ else if z = "slow" then _ else _) = _
          rw [if_neg (of_decide_eq_false hb), if_neg (of_decide_eq_false hb2)]
        | list _ => cases hT
        | _ => rfl
      refine q_when (b := true) (et_is (et_or (a := true) (b := false) (et_not (a := false) (et_B (ev_is (ev_isi (ev_var rfl) (dp_ex e03 ho) (kit_list _)) (by rw [hT])))) fun z => nomatch z) rfl) (fun _ H4 e4 => ?_) (fun hb => nomatch hb)
      exact s_rz ev_c TO.oex TO.no ((kbad _ en).go (e03.trans e4))
    | true =>
      obtain ⟨b, ys, ds, rfl, rfl, hsy, hay⟩ : ∃ b ys ds, o = .list ds ∧ y = .ref b ∧ SqL K H b ys ∧ DpAll K H ys ds := by
        cases ho with
        | lst hs ha => exact ⟨_, _, _, rfl, rfl, hs, ha⟩
        | _ => exact absurd (show false = true from hT) Bool.false_ne_true
      have hly : ys.length = ds.length := dps_len' hay
      have evlen1 : ∀ {σ : L2.St} {H' : Hp}, σ[1]? = some (some (V.ref b)) → Ex H H' → Ev (tCB (rLenS K) (tCons (tVar 1) tNil)) σ H' (.int (ds.length : Int)) := fun hσ e => by
        rw [← hly]
        exact ev_len (ev_var hσ) (ex_l e hsy)
      refine q_when (b := decide (ds.length ≠ ws.length)) ?_ (fun hb3 H4 e4 => ?_) (fun hb3 H4 e4 => ?_)
      · refine et_is (et_or (a := false) (b := decide (ds.length ≠ ws.length)) (et_not (a := true) (et_B (ev_isi (ev_var rfl) (dp_ex e03 ho) (kit_list _)))) fun _ => ?_) (Bool.false_or _)
        refine et_is (et_test (ev_op (evlen1 rfl e03) (evlen rfl e03) (rv_ne rfl))) ?_
        by_cases c : ds.length = ws.length
        · rw [decide_eq_true (congrArg (fun (n : Nat) => V.int (n : Int)) c), decide_eq_false (fun z => z c)] <;> rfl
        · rw [decide_eq_true c, decide_eq_false (fun z => c (by injection z with z; omega))] <;> rfl
      · have en : normO ws (.list ds) = .bad .non := if_neg (of_decide_eq_true hb3)
        exact s_rz ev_c TO.oex TO.no ((kbad _ en).go (e03.trans e4))
      · have c : ds.length = ws.length := by
          have z := of_decide_eq_false hb3
          omega
        have en : normO ws (.list ds) = (match obad ds (limM ws) 0 with | none => .ok ds | some i => .bad (.int (i : Int))) := if_pos c
        have h4 : H4 hp = some (.lst ((limM ws).map V.int)) := e4 hp _ h3
        refine q_forEn (ea_cons (ev_var rfl) ea_nil) (ex_l (e03.trans e4) hsy) (fun i σ' H' => Ex H4 H' ∧ (∃ o3 o4, σ' = [some (.ref a), some (.ref b), some (.ref hp), o3, o4]) ∧ obad ds (limM ws) 0 = obad (ds.drop i) ((limM ws).drop i) i)
          (fun H5 e5 => ⟨e5, ⟨none, none, rfl⟩, rfl⟩) (fun i σ' H' _ q => ex_l ((e03.trans e4).trans q.1) hsy) ?_ ?_
        · rintro i v σ' H' hv ⟨e5, ⟨o3, o4, rfl⟩, hf⟩ H6 e6
          obtain ⟨dv, g1, g2⟩ := dps_get hay hv
          have hi : i < ds.length := (List.getElem?_eq_some_iff.mp g1).1
          have hli : i < (limM ws).length := by rw [lim_len]; omega
          have g3 : (limM ws)[i]? = some (limM ws)[i] := by simp [hli]
          rw [obad_step g1 g3] at hf
          have e06 : Ex H H6 := ((e03.trans e4).trans e5).trans e6
          have h6 : H6 hp = some (.lst ((limM ws).map V.int)) := e6 hp _ (e5 hp _ h4)
          refine s_when (b := !betwD dv 0 (limM ws)[i]) (et_not (et_B (ev_call (ea_cons (ev_var rfl) (ea_cons ev_c (ea_cons (ev_op (ev_var rfl) (ev_var rfl) (rv_ixL (sq_of h6) (atI_nat (by rw [List.getElem?_map, g3]; rfl)))) ea_nil))) (sp_betw (dp_ex e06 g2))))) (fun hb4 H7 e7 => ?_) (fun hb4 H7 e7 => ?_)
          · have c2 : betwD dv 0 (limM ws)[i] = false := by simpa using hb4
            rw [c2, if_neg Bool.false_ne_true] at hf
            rw [hf] at en
            exact s_rz (ev_var rfl) TO.oex TO.no ((kbad _ en).go (e06.trans e7))
          · have c2 : betwD dv 0 (limM ws)[i] = true := by simpa using hb4
            rw [c2, if_pos rfl] at hf
            exact ⟨(e5.trans e6).trans e7, ⟨_, _, rfl⟩, hf⟩
        · rintro σ' H' ⟨e5, ⟨o3, o4, rfl⟩, hf⟩
          have z1 : ds.drop ys.length = [] := by rw [hly, List.drop_length]
          rw [z1] at hf
          have hf' : obad ds (limM ws) 0 = none := hf
          rw [hf'] at en
          have e05 : Ex H H' := (e03.trans e4).trans e5
          refine s_retL (el_cb (ea_cons (ev_var rfl) ea_nil) (fun H6 e6 Q' q => ⟨b, ys, rfl, Or.inl (ex_l (e05.trans e6) hsy), fun l hl => q l _ hl (Ex.new hl) upd_same⟩)) fun p H6 hn6 e6 h6 => ?_
          have hp6 : H p = none := fresh_back e05 hn6
          have ex6 : Ex H (del H6 p) := ex_beside (e05.trans e6) hp6
          exact kok _ en p _ H6 hp6 ex6 h6 (dps_ex ex6 hay)
end
end Lo

namespace Lw
open PySem PySem.Spec PyProof.Rows L2 Evl L3 ClX Tn
theorem made_ex {x dx : Addr} {H : Hp} {o u : HO} (hx : H x = none) (hd : H dx = none) : Ex H (del (upd (upd H dx o) x u) x) := fun b w h => by
  have nb : b ≠ x := ne_of_none h hx
  have nd : b ≠ dx := ne_of_none h hd
  rw [del_ne nb, upd_ne nb, upd_ne nd]
  exact h
theorem made_up {x dx : Addr} {H H' : Hp} {o u : HO} (hx : H x = none) (hd : H dx = none) (e : Ex (del (upd (upd H dx o) x u) x) (del H' x)) : Ex H H' := ((made_ex hx hd).trans e).trans ex_del_self
theorem q_fldT {K : PySem.W.Frag} {σ : L2.St} {H : Hp} {te ta : TE} {D : Ends} {tz : TS} {f : Str} (h : te σ H fun y H1 => ta σ H1 fun x H2 => ∃ a C dx fs, x = .ref a ∧ H2 a = some (.ins C dx fs) ∧ Cls K C ∧ NoAttr K C f ∧ fs.length < 1000 ∧ tz D σ (upd H2 a (.ins C dx (putF f y fs)))) : tSeq (sFld K ta te f) tz D σ H := h
section
variable {P : Program} {w : World} {K : PySem.W.Frag} {mg : Str → Option Value} {base : Heap} {CC CT CZ CS CP : Addr}
/-! ### Course(setting, speaker, rest, stance) -/
abbrev ciPs : List Str := ["self", "setting", "speaker", "rest", "stance"]
def spCIni (P : Program) (w : World) (K : PySem.W.Frag) (CC CT CS CP : Addr) : Sp := fun vs H Q _ => ∃ (x dx m : Addr) (sp r n : Int) (v : V) (s : Stc) (p q : Addr) (h : Str) (e u : Int) (h2 : Str) (e2 u2 : Int), vs = [.ref x, .ref m, .int sp, .int r, v] ∧ H x = some (.ins CC dx []) ∧ SetV K CS CP (del H x) m n p q h e u h2 e2 u2 ∧ (sp = 0 ∨ sp = 1) ∧ Dp K (del H x) v (stD s) ∧
  ∀ H' st dw dc, dw ≠ dc → H st = none → H dw = none → H dc = none → Ex (del H x) (del H' x) → CrAt K CC CT H' x st dw dc (cfOf sp h e h2 e2) ⟨n, r, s, 0, 0⟩ → H' dw = some (dicE P w dw []) → H' dc = some (dicE P w dc []) → Q .non H'
theorem scCIni : FnScope ciPs ciPs (defScope cIni) := ⟨rfl, rfl, rfl, by decide +kernel, rfl, by decide +kernel, by decide +kernel⟩
theorem ok_cini {f fI : Addr} {fd fdI : FuncData} (F : Fun K "__init__" "Course.__init__" cIni f fd) (TK : Ccs K mg CC) (TC : Tcs K mg CT) (TS : Stg K mg CS) (M : Mk K CT fI) (bI : Binds K fdI tiPs []) (GI : FnOk P w K mg base CX0 1 fI fdI tiPs (spTIni P w K CT CS CP)) : FnOk P w K mg base CX0 3 f fd ciPs (spCIni P w K CC CT CS CP) := by
  refine F.ok scCIni (fun vs H Q E h => ?_) (fun cdv A outer s H vs Q E hr h => ?_)
  · obtain ⟨x, dx, m, sp, r, n, v, s, p, q, h, e, u, h2, e2, u2, rfl, _⟩ := h
    rfl
  · obtain ⟨x, dx, m, sp, r, n, v, s, p, q, h, e, u, h2, e2, u2, rfl, hx, sv, hsp, hv, k⟩ := h
    refine ⟨_, pss_cons (ps_fld (pv 0) (pe_fld (pv 1) rfl) rfl) (pss_cons (ps_fld (pv 0) (pe_make M GI hr rfl TC.hm bI .nil pass0 (pa_cons (pv 1) (pa_cons (pv 2) pa_nil))) rfl)
      (pss_cons (ps_fld (pv 0) (pv 3) rfl) (pss_cons (ps_fld (pv 0) (pv 4) rfl) (pss_cons (ps_fld (pv 0) pe_int rfl) (pss_one (ps_fld (pv 0) pe_int rfl)))))), ?_⟩
    have s0 : SetV K CS CP H m n p q h e u h2 e2 u2 := sv.ex ex_del_self
    obtain ⟨⟨d1, r1, hm1, _⟩, _, _⟩ := id s0
    refine q_fldR (ev_fld (ev_var rfl) hm1 TS.k.cl TS.ns rfl) (ev_var rfl) hx TK.k.cl TK.nz (by show 0 < 1000; decide) fun H1 e1 => ?_
    have E1 : Ex (del H x) (del (upd H1 x (.ins CC dx (putF "_size" (.int n) []))) x) := ex_delS e1
    generalize hHA : upd H1 x (.ins CC dx (putF "_size" (.int n) [])) = HA at E1 ⊢
    have hxA : HA x = some (.ins CC dx (putF "_size" (.int n) [])) := by rw [← hHA, upd_same]
    have sA := sv.ex (E1.trans ex_del_self)
    have args : EvA (tCons (tVar 1) (tCons (tVar 2) tNil)) (start ciPs [.ref x, .ref m, .int sp, .int r, v]) HA [.ref m, .int sp] := ea_cons (ev_var rfl) (ea_cons (ev_var rfl) ea_nil)
    refine q_fldT ?_
    unfold tMake
    refine args HA (Ex.refl HA) _ fun HB eB st ds hst hds nds => ⟨st, ds, m, sp, n, p, q, h, e, u, h2, e2, u2, rfl, upd_same, (sA.ex eB).ex (made_ex hst hds), hsp, fun HC dw dc ndc hdw hdc xC hsC hdwC hdcC => ⟨rfl, ?_⟩⟩
    have eBC : Ex HB HC := made_up hst hds xC
    have eAC := eB.trans eBC
    have nsx : st ≠ x := fun z => by
      rw [z, eB _ _ hxA] at hst
      cases hst
    have fdw : HB dw = none := by
      have n1 : dw ≠ st := fun z => by
        rw [z, upd_same] at hdw
        cases hdw
      rw [upd_ne n1] at hdw
      have n2 : dw ≠ ds := fun z => by
        rw [z, upd_same] at hdw
        cases hdw
      rw [upd_ne n2] at hdw
      exact hdw
    have fdc : HB dc = none := by
      have n1 : dc ≠ st := fun z => by
        rw [z, upd_same] at hdc
        cases hdc
      rw [upd_ne n1] at hdc
      have n2 : dc ≠ ds := fun z => by
        rw [z, upd_same] at hdc
        cases hdc
      rw [upd_ne n2] at hdc
      exact hdc
    have nwx : dw ≠ x := fun z => by
      rw [z, eB _ _ hxA] at fdw
      cases fdw
    have ncx : dc ≠ x := fun z => by
      rw [z, eB _ _ hxA] at fdc
      cases fdc
    have back : ∀ {b : Addr}, b ≠ x → HB b = none → H b = none := fun {b} nb hb => by
      cases z : H b with
      | none => rfl
      | some o =>
        have y := E1 b o (by rw [del_ne nb]; exact z)
        rw [del_ne nb] at y
        rw [eB _ _ y] at hb
        cases hb
    refine ⟨_, rfl, x, CC, dx, _, rfl, eAC _ _ hxA, TK.k.cl, TK.nt, by show 1 < 1000; decide, ?_⟩
    have E2 : Ex (del H x) (del (upd HC x (.ins CC dx (putF "_stances" (.ref st) (putF "_size" (.int n) [])))) x) := E1.trans (ex_delS eAC)
    show tSeq _ _ _ _ (upd HC x (.ins CC dx (putF "_stances" (.ref st) (putF "_size" (.int n) []))))
    refine q_fldR (ev_var rfl) (ev_var rfl) upd_same TK.k.cl TK.nr (by show 2 < 1000; decide) fun H3 e3 => ?_
    refine q_fldR (v := v) (ev_var rfl) (ev_var rfl) upd_same TK.k.cl TK.ns (by show 3 < 1000; decide) fun H4 e4 => ?_
    refine q_fldR ev_c (ev_var rfl) upd_same TK.k.cl TK.ng (by show 4 < 1000; decide) fun H5 e5 => ?_
    refine s_fldR ev_c (ev_var rfl) upd_same TK.k.cl TK.nk (by show 5 < 1000; decide) fun H6 e6 => ?_
    have dl : ∀ {A B : Hp} {o : HO}, Ex (upd A x o) B → Ex (del A x) (del B x) := fun {A B o} e => by
      have z : Ex (del (upd A x o) x) (del B x) := ex_del e
      rw [del_upd] at z
      exact z
    have X : Ex (del HC x) (del H6 x) := (((dl e3).trans (dl e4)).trans (dl e5)).trans (dl e6)
    have Xf : ∀ {o : HO}, Ex (del HC x) (del (upd H6 x o) x) := fun {o} => by
      rw [del_upd]
      exact X
    have keep : ∀ {b : Addr} {o u : HO}, b ≠ x → HC b = some o → (upd H6 x u) b = some o := fun {b o u} nb hb => by
      have z := X b o (by rw [del_ne nb]; exact hb)
      rw [del_ne nb] at z
      rw [upd_ne nb]
      exact z
    refine k _ st dw dc ndc (back nsx hst) (back nwx fdw) (back ncx fdc) (E1.trans ((ex_del eAC).trans Xf)) ⟨⟨dx, v, upd_same, ?_⟩, ⟨ds, keep nsx hsC⟩⟩ (keep nwx hdwC) (keep ncx hdcC)
    refine dp_ext (ext_of ex_del_self) rfl (dp_ex (E1.trans ((ex_del eAC).trans Xf)) hv)
end
end Lw

namespace L3
open PySem PySem.Spec PyProof.Rows L2 Evl
/-- {x}: a truth value -/
def bT (b : Bool) : Str := if b then "True" else "False"
def tFmtB (te : TE) : TE := fun σ H Q => te σ H fun x H1 => ∃ b : Bool, x = .bl b ∧ Q (.str (bT b)) H1
theorem pe_fmtB {X : Cx} {e : Expr} {te : TE} {pos : Pos} (he : PE X e te) : PE X (.FormattedValue e (-1) none pos) (tFmtB te) := by
  refine ⟨fun pins s σ H Q I h => ?_⟩
  refine wpAny_FormattedValue_plain (thn (he.run pins s σ H _ I h) fun v s1 hv => ?_)
  obtain ⟨x, H1, I1, r1, b, rfl, q⟩ := hv
  cases (show v = Value.bool b from r1)
  exact wpAny_formatField_bool ⟨.str (bT b), H1, I1.tok _, ⟨_, rfl⟩, q⟩
theorem ev_fmtB {σ : L2.St} {H : Hp} {te : TE} {b : Bool} (h : Ev te σ H (.bl b)) : Ev (tFmtB te) σ H (.str (bT b)) := fun H1 e Q q => h H1 e _ fun H2 e2 => ⟨b, rfl, q H2 e2⟩
theorem bT_len (b : Bool) : (bT b).length ≤ 5 := by cases b <;> decide +kernel
end L3
namespace Tn
open PySem L3
def aeS (s : Stc) (has : Bool) : Int := if has && (s.kept || s.stk) then 1 else 0
def aeQ (s : Stc) (has : Bool) : Int := if has then mx (s.quick - 1) 0 else s.quick
def aeA (s : Stc) (has : Bool) : Int := if has then (if s.stk && !s.kept then 1 else 0) + mn s.quick 1 else 0
end Tn
namespace Lw
open PySem PySem.Spec PyProof.Rows L2 Evl L3 ClX Tn
abbrev tEnd : Stmt := inClass (top 19) 3
abbrev cEnd : Stmt := inClass (top 21) 3
section
variable {P : Program} {w : World} {K : PySem.W.Frag} {mg : Str → Option Value} {base : Heap} {CC CT CZ CS CP : Addr}
theorem s_retV {σ : L2.St} {H : Hp} {D : Ends} {te : TE} (h : te σ H D.rt) : tRet te D σ H := h
/-! ### at_end -/
abbrev aePs : List Str := ["self", "stance", "has_rest"]
def spAE (K : PySem.W.Frag) : Sp := fun vs H Q _ => ∃ (st : Addr) (v : V) (s : Stc) (has : Bool), vs = [.ref st, v, .bl has] ∧ Dp K H v (stD s) ∧ ∀ p H', H p = none → Ex H H' → H' p = some (.tup [.int (aeS s has), .int (aeQ s has), .int (aeA s has)]) → Q (.ref p) H'
theorem scAE : FnScope ["self", "stance", "has_rest", "kept", "blocked", "stuck", "pending", "quick", "stalls", "by_timer"] aePs (defScope tEnd) := ⟨rfl, rfl, rfl, by decide +kernel, rfl, by decide +kernel, by decide +kernel⟩
theorem ok_ae {f : Addr} {fd : FuncData} (F : Fun K "at_end" "Stances.at_end" tEnd f fd) (T : Txt K mg) : FnOk P w K mg base CX0 1 f fd aePs (spAE K) := by
  refine F.ok scAE (fun vs H Q E h => ?_) (fun cdv A outer s H vs Q E hr h => ?_)
  · obtain ⟨st, v, s, has, rfl, _⟩ := h
    rfl
  · obtain ⟨st, v, s, has, rfl, hv, k⟩ := h
    refine ⟨_, pss_cons (ps_asg (pv 1) (pg_tup rfl (pgs_cons (pg_name (i := 3) scAE.nd rfl (Or.inl rfl)) (pgs_cons (pg_name (i := 4) scAE.nd rfl (Or.inl rfl)) (pgs_cons (pg_name (i := 5) scAE.nd rfl (Or.inl rfl)) (pgs_cons (pg_name (i := 6) scAE.nd rfl (Or.inl rfl)) (pgs_cons (pg_name (i := 7) scAE.nd rfl (Or.inl rfl)) pgs_nil)))))))
      (pss_cons (ps_if (pt_not (pt_val (pv 2))) (pss_one (ps_ret (pe_tup (pa_cons pe_int (pa_cons (pv 7) (pa_cons pe_int pa_nil)))))) pss_nil)
      (pss_cons (ps_set (i := 8) scAE.nd rfl (Or.inl rfl) (pe_ifExp (PW.pt (pw_or (pt_val (pv 3)) (pw_or1 (pt_val (pv 5))))) pe_int pe_int))
      (pss_cons (ps_set (i := 9) scAE.nd rfl (Or.inl rfl) (pe_ifExp (PW.pt (pw_and (pt_val (pv 5)) (pw_and1 (pt_not (pt_val (pv 3)))))) pe_int pe_int))
      (pss_one (ps_ret (pe_tup (pa_cons (pv 8) (pa_cons (pe_callB (call_max2 rfl) (by rfl) T.max PyProof.Rows.boot_max (pa_cons (pe_op op_sub (pv 7) pe_int) (pa_cons pe_int pa_nil)))
        (pa_cons (pe_op op_add (pv 9) (pe_callB (call_min2 rfl) (by rfl) T.min PyProof.Rows.boot_min (pa_cons (pv 7) (pa_cons pe_int pa_nil)))) pa_nil))))))))), ?_⟩
    obtain ⟨a, rfl, hs⟩ := dp_st hv
    refine ⟨_, rfl, a, _, rfl, hs, rfl, _, _, rfl, _, _, rfl, _, _, rfl, _, _, rfl, _, _, rfl, rfl, ?_⟩
    refine q_when (b := !has) (et_not (et_B (ev_var rfl))) (fun hb H1 e1 => ?_) fun hb H1 e1 => ?_
    · have z : has = false := by simpa using hb
      subst z
      refine s_retU (eu_tup (ea_cons ev_c (ea_cons (ev_var rfl) (ea_cons ev_c ea_nil))) (by show 3 ≤ 100000; decide)) fun p H2 hp e2 h2 => k p H2 (fresh_back e1 hp) (e1.trans e2) ?_
      rw [h2]
      rfl
    · have z : has = true := by simpa using hb
      subst z
      refine q_asg (v := .int (aeS s true)) (ev_if (b := s.kept || s.stk) (et_or (et_B (ev_var rfl)) fun _ => et_B (ev_var rfl)) (fun hc => ev_is ev_c ?_) fun hc => ev_is ev_c ?_) fun H2 e2 => ?_
      · unfold aeS
        rw [hc]
        rfl
      · unfold aeS
        rw [hc]
        rfl
      refine q_asg (v := .int (if s.stk && !s.kept then 1 else 0)) (ev_if (b := s.stk && !s.kept) (et_and (et_B (ev_var rfl)) fun _ => et_not (et_B (ev_var rfl))) (fun hc => ev_is ev_c ?_) fun hc => ev_is ev_c ?_) fun H3 e3 => ?_
      · rw [hc]
        rfl
      · rw [hc]
        rfl
      have eA := (e1.trans e2).trans e3
      refine s_retU (eu_tup (ea_cons (ev_var rfl) (ea_cons (ev_cb (ea_cons (ev_op (ev_var rfl) ev_c rv_I0) (ea_cons ev_c ea_nil)) rc_max2) (ea_cons (ev_op (ev_var rfl) (ev_cb (ea_cons (ev_var rfl) (ea_cons ev_c ea_nil)) rc_min2) rv_I0) ea_nil))) (by show 3 ≤ 100000; decide)) fun p H4 hp e4 h4 => k p H4 (fresh_back eA hp) (eA.trans e4) ?_
      rw [h4]
      rfl
/-! ### make_end -/
def spME (K : PySem.W.Frag) (CC CT : Addr) : Sp := fun vs H Q _ => ∃ (x st dw dc : Addr) (c : Cf) (m : CrM), vs = [.ref x] ∧ CrAt K CC CT H x st dw dc c m ∧ ∀ p H', Ex (del H x) (del H' x) → H' p = some (.tup [.int (aeS m.s (decide (m.r > 0))), .int (aeQ m.s (decide (m.r > 0)))]) → (∃ dx v, H' x = some (.ins CC dx (crF m.n st m.r v (if m.r > 0 then m.g + 1 else m.g) (m.k + aeA m.s (decide (m.r > 0)))))) → Q (.ref p) H'
theorem scME : FnScope ["self", "stalls", "quick", "acknowledgments"] ["self"] (defScope cEnd) := ⟨rfl, rfl, rfl, by decide +kernel, rfl, by decide +kernel, by decide +kernel⟩
theorem ok_me {f fA : Addr} {fd fdA : FuncData} (F : Fun K "make_end" "Course.make_end" cEnd f fd) (TK : Ccs K mg CC) (TC : Tcs K mg CT) (MA : Meth K CT "at_end" fA) (bA : Binds K fdA aePs []) (GA : FnOk P w K mg base CX0 1 fA fdA aePs (spAE K)) : FnOk P w K mg base CX0 2 f fd ["self"] (spME K CC CT) := by
  refine F.ok scME (fun vs H Q E h => ?_) (fun cdv A outer s H vs Q E hr h => ?_)
  · obtain ⟨x, st, dw, dc, c, m, rfl, _⟩ := h
    rfl
  · obtain ⟨x, st, dw, dc, c, m, rfl, ⟨⟨dx, v, hx, hv⟩, t⟩, k⟩ := h
    refine ⟨_, pss_cons (ps_asg (pe_meth (pe_fld (pv 0) rfl) TC.k.cl MA GA hr bA .nil pass0 (pa_cons (pe_fld (pv 0) rfl) (pa_cons (pe_cmpR op_gt (pe_fld (pv 0) rfl) pe_int (nomark _)) pa_nil))) (pg_tup rfl (pgs_cons (pg_name (i := 1) scME.nd rfl (Or.inl rfl)) (pgs_cons (pg_name (i := 2) scME.nd rfl (Or.inl rfl)) (pgs_cons (pg_name (i := 3) scME.nd rfl (Or.inl rfl)) pgs_nil)))))
      (pss_cons (ps_fldaug (pv 0) (pv 3) in_add)
      (pss_cons (ps_if (pt_cmpR op_gt (pe_fld (pv 0) rfl) pe_int (nomark _)) (pss_one (ps_fldaug (pv 0) pe_int in_add)) pss_nil)
      (pss_one (ps_ret (pe_tup (pa_cons (pv 1) (pa_cons (pv 2) pa_nil))))))), ?_⟩
    obtain ⟨dy, hs⟩ := id t
    refine tm_go (ev_fld (ev_var rfl) hx TK.k.cl TK.nt rfl) hs rfl (ea_cons (ev_fld (ev_var rfl) hx TK.k.cl TK.ns rfl) (ea_cons (ev_op (ev_fld (ev_var rfl) hx TK.k.cl TK.nr rfl) ev_c rv_I0) ea_nil)) fun H1 e1 => ⟨st, v, m.s, decide (m.r > 0), rfl, dp_ex e1 hv, fun p H2 hp e2 h2 => ?_⟩
    refine ⟨p, _, rfl, st_of h2, rfl, _, _, rfl, _, _, rfl, _, _, rfl, rfl, ?_⟩
    show tSeq _ _ _ _ _
    have hx2 := e2 _ _ (e1 _ _ hx)
    refine q_fldA rd_add (fs := crF m.n st m.r v m.g m.k) (ev_var rfl) (ev_var rfl) hx2 TK.k.cl TK.nk rfl (by show 6 < 1000; decide) fun H3 e3 => ?_
    have E3 : Ex (del H x) (del (upd H3 x (.ins CC dx (crF m.n st m.r v m.g (m.k + aeA m.s (decide (m.r > 0)))))) x) := (ex_del (e1.trans e2)).trans (ex_delS e3)
    show tSeq _ _ _ _ (upd H3 x (.ins CC dx (crF m.n st m.r v m.g (m.k + aeA m.s (decide (m.r > 0))))))
    refine q_when (b := decide (m.r > 0)) (et_test (ev_op (ev_fld (ev_var rfl) upd_same TK.k.cl TK.nr rfl) ev_c rv_I0)) (fun hb H4 e4 => ?_) fun hb H4 e4 => ?_
    · refine s_fldA rd_add (fs := crF m.n st m.r v m.g (m.k + aeA m.s (decide (m.r > 0)))) ev_c (ev_var rfl) (e4 _ _ upd_same) TK.k.cl TK.ng rfl (by show 6 < 1000; decide) fun H5 e5 => ?_
      have E5 := (E3.trans (ex_del e4)).trans (ex_delS (x := x) e5 (o := .ins CC dx (crF m.n st m.r v (m.g + 1) (m.k + aeA m.s (decide (m.r > 0))))))
      dsimp only
      refine s_retU (eu_tup (ea_cons (ev_var rfl) (ea_cons (ev_var rfl) ea_nil)) (by show 2 ≤ 100000; decide)) fun p2 H6 hp2 e6 h6 => k p2 H6 (E5.trans (ex_del e6)) h6 ⟨dx, v, by rw [if_pos (of_decide_eq_true hb)]; exact e6 _ _ upd_same⟩
    · refine s_retU (eu_tup (ea_cons (ev_var rfl) (ea_cons (ev_var rfl) ea_nil)) (by show 2 ≤ 100000; decide)) fun p2 H6 hp2 e6 h6 => k p2 H6 (E3.trans (ex_del (e4.trans e6))) h6 ⟨dx, v, by rw [if_neg (of_decide_eq_false hb)]; exact (e4.trans e6) _ _ upd_same⟩
end
end Lw

namespace Lw
open PySem PySem.Spec PyProof.Rows L2 Evl L3 ClX Tn
section
variable {P : Program} {w : World} {K : PySem.W.Frag} {CC CT : Addr} {H0 H H1 : Hp} {x st dw dc : Addr} {c : Cf} {m m' : CrM} {L : Nat}
/-- a course in use: what stood when it was made still stands -/
structure Crs (P : Program) (w : World) (K : PySem.W.Frag) (CC CT : Addr) (H0 H : Hp) (x st dw dc : Addr) (c : Cf) (m : CrM) (L : Nat) : Prop where
  fr : Ex H0 H
  cr : CrAt K CC CT H x st dw dc c m
  cw : ∃ xs, Cch P w K H dw xs wkD (wF c) ∧ xs.length ≤ L
  cc : ∃ ys, Cch P w K H dc ys ckD (cF c) ∧ ys.length ≤ L
  fx : H0 x = none
  fw : H0 dw = none
  fc : H0 dc = none
  nd : dw ≠ dc
theorem Crs.ex (C : Crs P w K CC CT H0 H x st dw dc c m L) (e : Ex H H1) : Crs P w K CC CT H0 H1 x st dw dc c m L := by
  obtain ⟨xs, h1, h2⟩ := C.cw
  obtain ⟨ys, h3, h4⟩ := C.cc
  exact ⟨C.fr.trans e, C.cr.ex e, ⟨xs, h1.ex (wkd c) e, h2⟩, ⟨ys, h3.ex (ckd c) e, h4⟩, C.fx, C.fw, C.fc, C.nd⟩
theorem ext_off2 {a b : Addr} (h1 : ∀ u, H a = some u → ¬ isT u) (h2 : ∀ u, H b = some u → ¬ isT u) (e : Ex (off2 H a b) (off2 H1 a b)) : ExT H H1 := fun y u t hy => by
  have n1 : y ≠ a := fun z => h1 u (by rw [← z]; exact hy) t
  have n2 : y ≠ b := fun z => h2 u (by rw [← z]; exact hy) t
  exact (off_of (e y u (off_at hy n1 n2))).2.2
theorem off_keep {a b y : Addr} {u : HO} (e : Ex (off2 H a b) (off2 H1 a b)) (hy : H y = some u) (n1 : y ≠ a) (n2 : y ≠ b) : H1 y = some u := (off_of (e y u (off_at hy n1 n2))).2.2
theorem cr_nt (C : CrAt K CC CT H x st dw dc c m) : ∀ u, H x = some u → ¬ isT u := by
  obtain ⟨⟨dx, v, h, _⟩, _⟩ := C
  exact ins_nt h
theorem cr_ni {α : Type} {d : Addr} {xs : List NkE} {kd F : α → PyData} (C : CrAt K CC CT H x st dw dc c m) (h : Cch P w K H d xs kd F) : d ≠ x := fun z => by
  obtain ⟨⟨dx, v, hx, _⟩, _⟩ := C
  exact cch_ni h _ (by rw [z]; exact hx) _ _ _ rfl
theorem Crs.write {xs ys : List NkE} (C : Crs P w K CC CT H0 H x st dw dc c m L) (hx : Cch P w K H dw xs wkD (wF c)) (hl : xs.length ≤ L) (hy : ys.length ≤ xs.length + 1) (e : Ex (off2 H x dw) (off2 H1 x dw)) (h : Cch P w K H1 dw ys wkD (wF c)) (C1 : CrAt K CC CT H1 x st dw dc c m') : Crs P w K CC CT H0 H1 x st dw dc c m' (L + 1) := by
  obtain ⟨zs, h3, h4⟩ := C.cc
  refine ⟨fun b u hb => off_keep e (C.fr _ _ hb) (ne_of_none hb C.fx) (ne_of_none hb C.fw), C1, ⟨ys, h, by omega⟩, ⟨zs, h3.up (ckd c) (ext_off2 (cr_nt C.cr) hx.nt e) ?_, by omega⟩, C.fx, C.fw, C.fc, C.nd⟩
  exact (off_keep e h3.at_ (cr_ni C.cr h3) C.nd.symm).trans h3.at_.symm
theorem Crs.clear {xs ys : List NkE} (C : Crs P w K CC CT H0 H x st dw dc c m L) (hx : Cch P w K H dc xs ckD (cF c)) (hl : xs.length ≤ L) (hy : ys.length ≤ xs.length + 1) (e : Ex (off2 H x dc) (off2 H1 x dc)) (h : Cch P w K H1 dc ys ckD (cF c)) (C1 : CrAt K CC CT H1 x st dw dc c m') : Crs P w K CC CT H0 H1 x st dw dc c m' (L + 1) := by
  obtain ⟨zs, h3, h4⟩ := C.cw
  refine ⟨fun b u hb => off_keep e (C.fr _ _ hb) (ne_of_none hb C.fx) (ne_of_none hb C.fc), C1, ⟨zs, h3.up (wkd c) (ext_off2 (cr_nt C.cr) hx.nt e) ?_, by omega⟩, ⟨ys, h, by omega⟩, C.fx, C.fw, C.fc, C.nd⟩
  exact (off_keep e h3.at_ (cr_ni C.cr h3) C.nd).trans h3.at_.symm
theorem Crs.less {L' : Nat} (C : Crs P w K CC CT H0 H x st dw dc c m L) (h : L ≤ L') : Crs P w K CC CT H0 H x st dw dc c m L' := by
  obtain ⟨xs, h1, h2⟩ := C.cw
  obtain ⟨ys, h3, h4⟩ := C.cc
  exact ⟨C.fr, C.cr, ⟨xs, h1, by omega⟩, ⟨ys, h3, by omega⟩, C.fx, C.fw, C.fc, C.nd⟩
end
end Lw

namespace Lw
open PySem PySem.Spec PyProof.Rows L2 Evl L3 ClX Tn
abbrev sOut : Stmt := top 24
abbrev oIni : Stmt := inClass (top 23) 0
abbrev oBool : Stmt := inClass (top 23) 2
section
variable {P : Program} {w : World} {K : PySem.W.Frag} {mg : Str → Option Value} {base : Heap} {CC CT CU CS CP : Addr}
theorem s_fldT {σ : L2.St} {H : Hp} {te ta : TE} {D : Ends} {f : Str} (h : te σ H fun y H1 => ta σ H1 fun x H2 => ∃ a C dx fs, x = .ref a ∧ H2 a = some (.ins C dx fs) ∧ Cls K C ∧ NoAttr K C f ∧ fs.length < 1000 ∧ D.nx σ (upd H2 a (.ins C dx (putF f y fs)))) : sFld K ta te f D σ H := h
/-! ### Outcome -/
structure Ous (K : PySem.W.Frag) (mg : Str → Option Value) (CU : Addr) : Prop where
  hm : mg "Outcome" = some (.ref CU)
  k : Kls K CU
  ns : NoAttr K CU "stalls"
  ng : NoAttr K CU "segments"
  na : NoAttr K CU "acknowledgments"
  nl : NoAttr K CU "stalled"
def ouF (a b c : Int) (l : Addr) : List (Str × V) := [("stalls", .int a), ("segments", .int b), ("acknowledgments", .int c), ("stalled", .ref l)]
def OuAt (CU : Addr) (H : Hp) (o : Addr) (a b c : Int) (xs : List V) : Prop := ∃ dx l, H o = some (.ins CU dx (ouF a b c l)) ∧ H l = some (.lst xs)
/-- new: told of its place and of its list's, both new since H -/
def OuFr (CU : Addr) (H H' : Hp) (o : Addr) (a b c : Int) (xs : List V) : Prop := ∃ dx l, H' o = some (.ins CU dx (ouF a b c l)) ∧ H' l = some (.lst xs) ∧ H l = none ∧ H o = none
theorem OuFr.at {CU : Addr} {H H' : Hp} {o : Addr} {a b c : Int} {xs : List V} (h : OuFr CU H H' o a b c xs) : OuAt CU H' o a b c xs := by
  obtain ⟨dx, l, h1, h2, _⟩ := h
  exact ⟨dx, l, h1, h2⟩
abbrev oiPs : List Str := ["self", "stalls", "segments", "acknowledgments", "stalled"]
def spOIni (K : PySem.W.Frag) (CU : Addr) : Sp := fun vs H Q _ => ∃ (x dx : Addr) (a b c : Int) (l : Addr) (xs : List V), vs = [.ref x, .int a, .int b, .int c, .ref l] ∧ H x = some (.ins CU dx []) ∧ H l = some (.lst xs) ∧ l ≠ x ∧ xs.length ≤ 1000 ∧
  ∀ H' l', Ex (del H x) (del H' x) → H' x = some (.ins CU dx (ouF a b c l')) → H' l' = some (.lst xs) → l' ≠ x → (del H x) l' = none → Q .non H'
theorem scOIni : FnScope oiPs oiPs (defScope oIni) := ⟨rfl, rfl, rfl, by decide +kernel, rfl, by decide +kernel, by decide +kernel⟩
theorem ok_oini {f : Addr} {fd : FuncData} {ds : List V} (F : FunD K "__init__" "Outcome.__init__" (defArgs oIni) (defBody oIni) (defScope oIni) ds [] f fd) (TU : Ous K mg CU) (hL : mg "list" = none) : FnOk P w K mg base CX0 1 f fd oiPs (spOIni K CU) := by
  refine F.ok scOIni (fun vs H Q E h => ?_) (fun cdv A outer s H vs Q E hr h => ?_)
  · obtain ⟨x, dx, a, b, c, l, xs, rfl, _⟩ := h
    rfl
  · obtain ⟨x, dx, a, b, c, l, xs, rfl, hx, hl, nlx, hz, k⟩ := h
    refine ⟨_, PSs.nox (X := cxOf CX0 P w K mg base oiPs "Outcome.__init__" (defScope oIni) f cdv A outer s H E) (pss_cons (ps_fld (pv 0) (pv 1) rfl) (pss_cons (ps_fld (pv 0) (pv 2) rfl) (pss_cons (ps_fld (pv 0) (pv 3) rfl) (pss_one (ps_fld (pv 0) (pe_callTy call_list_of (by rfl) hL (by decide +kernel) (pa_cons (pv 4) pa_nil)) rfl))))), ?_⟩
    refine q_fldR (ev_var rfl) (ev_var rfl) hx TU.k.cl TU.ns (by show 0 < 1000; decide) fun H1 e1 => ?_
    refine q_fldR (ev_var rfl) (ev_var rfl) upd_same TU.k.cl TU.ng (by show 1 < 1000; decide) fun H2 e2 => ?_
    refine q_fldR (ev_var rfl) (ev_var rfl) upd_same TU.k.cl TU.na (by show 2 < 1000; decide) fun H3 e3 => ?_
    have E3 : Ex (del H x) (del (upd H3 x (.ins CU dx [("stalls", .int a), ("segments", .int b), ("acknowledgments", .int c)])) x) := ((ex_delS (x := x) e1 (o := .ins CU dx [("stalls", .int a)])).trans (ex_delS e2 (o := .ins CU dx [("stalls", .int a), ("segments", .int b)]))).trans (ex_delS e3)
    show sFld _ _ _ _ _ _ (upd H3 x (.ins CU dx [("stalls", .int a), ("segments", .int b), ("acknowledgments", .int c)]))
    generalize hHA : upd H3 x (.ins CU dx [("stalls", .int a), ("segments", .int b), ("acknowledgments", .int c)]) = HA at E3
    have hA : HA x = some (.ins CU dx [("stalls", .int a), ("segments", .int b), ("acknowledgments", .int c)]) := by rw [← hHA, upd_same]
    have hlA : HA l = some (.lst xs) := del_at E3 hl nlx
    refine s_fldT ?_
    refine el_cb (ea_cons (ev_var rfl) ea_nil) (fun H1 e1 Q q => ⟨l, _, rfl, Or.inl (sq_of (e1 _ _ hlA)), fun p hp => q p _ hp (Ex.new hp) upd_same⟩) HA (Ex.refl HA) _ fun p H4 hp e4 h4 => ?_
    have npx : p ≠ x := fun z => by
      rw [z, hA] at hp
      cases hp
    have hpn : (del H x) p = none := fresh_back E3 (by rw [del_ne npx]; exact hp)
    exact ⟨_, rfl, x, CU, dx, _, rfl, e4 _ _ hA, TU.k.cl, TU.nl, by show 3 < 1000; decide, k _ p (E3.trans (ex_delS e4)) upd_same (by rw [upd_ne npx]; exact h4) npx hpn⟩
end
end Lw

namespace Tn
open PySem L3
def clK (c : Cf) : Nat → CrM → CrM
  | 0, m => m
  | k + 1, m => clM c (clK c k m)
def m0 (n q : Int) : CrM := ⟨n, 0, ⟨false, false, false, 0, q⟩, 0, 0⟩
/-- a turn: from the write a on, k writes -/
def runT (c : Cf) (n q : Int) (ws : List Wr) (ns : List Int) (a : Nat) : Nat → CrM
  | 0 => m0 n q
  | k + 1 => wrM c (clK c (ns.getD (a + k) 0).toNat (runT c n q ws ns a k)) (ws.getD (a + k) (0, 0, "")).2.1 (ws.getD (a + k) (0, 0, "")).2.2
theorem cl_n {c : Cf} : ∀ (k : Nat) (m : CrM), (clK c k m).n = m.n
  | 0, m => rfl
  | k + 1, m => (show (clM c (clK c k m)).n = (clK c k m).n from rfl).trans (cl_n k m)
theorem run_n {c : Cf} {n q : Int} {ws : List Wr} {ns : List Int} {a : Nat} : ∀ k, (runT c n q ws ns a k).n = n
  | 0 => rfl
  | k + 1 => by
    show (clK c _ (runT c n q ws ns a k)).n = n
    rw [cl_n, run_n k]
structure Ou where
  q0 : Int
  q1 : Int
  seg : Int
  ack : Int
  st : List Int
/-- one turn of an outcome: the i-th -/
def stepT (h : Str) (e : Int) (h2 : Str) (e2 n : Int) (ws : List Wr) (ns : List Int) (i : Nat) (O : Ou) (t : Int × Nat × Nat) : Ou :=
  let c := Lw.cfOf t.1 h e h2 e2
  let m := runT c n (if t.1 = 0 then O.q1 else O.q0) ws ns t.2.1 (t.2.2 - t.2.1)
  ⟨if t.1 = 0 then O.q0 else aeQ m.s (decide (m.r > 0)), if t.1 = 0 then aeQ m.s (decide (m.r > 0)) else O.q1, O.seg + (if m.r > 0 then m.g + 1 else m.g), O.ack + (m.k + aeA m.s (decide (m.r > 0))), if aeS m.s (decide (m.r > 0)) > 0 then O.st ++ [(i : Int)] else O.st⟩
def outN (h : Str) (e u : Int) (h2 : Str) (e2 u2 n : Int) (ws : List Wr) (ns : List Int) : Nat → Ou
  | 0 => ⟨u, u2, 0, 0, []⟩
  | i + 1 => stepT h e h2 e2 n ws ns i (outN h e u h2 e2 u2 n ws ns i) ((turnsM ws).getD i (0, 0, 0))
theorem ite_len {c : Prop} [Decidable c] {l : List Int} {x : Int} : (if c then l ++ [x] else l).length ≤ l.length + 1 := by
  split
  · rw [List.length_append, List.length_singleton]
    exact Nat.le_refl _
  · exact Nat.le_succ _
theorem out_len {h : Str} {e u : Int} {h2 : Str} {e2 u2 n : Int} {ws : List Wr} {ns : List Int} : ∀ i, (outN h e u h2 e2 u2 n ws ns i).st.length ≤ i
  | 0 => Nat.le_refl 0
  | i + 1 => by
    have z := out_len (h := h) (e := e) (u := u) (h2 := h2) (e2 := e2) (u2 := u2) (n := n) (ws := ws) (ns := ns) i
    show (stepT h e h2 e2 n ws ns i (outN h e u h2 e2 u2 n ws ns i) ((turnsM ws).getD i (0, 0, 0))).st.length ≤ i + 1
    exact Nat.le_trans ite_len (by omega)
theorem turn_in {ws : List Wr} : ∀ i, i ≤ ws.length → ∀ t ∈ (tN ws i).1, t.2.1 ≤ t.2.2 ∧ t.2.2 ≤ i ∧ t.1 = spk ws t.2.1 ∧ t.2.1 < t.2.2
  | 0, _ => fun t ht => absurd ht (by show ¬ t ∈ ([] : List (Int × Nat × Nat)); simp)
  | i + 1, hi => fun t ht => by
    have I := turn_in (ws := ws) i (by omega)
    have hl := tN_le ws i
    have ht' : t ∈ (tstep ws (tN ws i) (i + 1)).1 := ht
    unfold tstep at ht'
    split at ht'
    · rcases List.mem_append.mp ht' with z | z
      · obtain ⟨h1, h2, h3, h4⟩ := I t z
        exact ⟨h1, by omega, h3, h4⟩
      · rw [List.mem_singleton.mp z]
        exact ⟨by show (tN ws i).2 ≤ i + 1; omega, Nat.le_refl _, rfl, by show (tN ws i).2 < i + 1; omega⟩
    · obtain ⟨h1, h2, h3, h4⟩ := I t ht'
      exact ⟨h1, by omega, h3, h4⟩
end Tn
namespace Lw
open PySem PySem.Spec PyProof.Rows L2 Evl L3 ClX Tn
section
variable {P : Program} {w : World} {K : PySem.W.Frag} {mg : Str → Option Value} {base : Heap} {CC CT CU CS CP CW CO : Addr}
abbrev ocPs : List Str := ["setting", "conversation", "order"]
abbrev ocN : List Str := ["setting", "conversation", "order", "clearings", "quicks", "segments", "acknowledgments", "stalled", "number", "speaker", "start", "stop", "course", "index", "_", "stalls", "policy"]
theorem scOut : FnScope ocN ocPs (defScope sOut) := ⟨rfl, rfl, rfl, by decide +kernel, rfl, by decide +kernel, by decide +kernel⟩
structure ClX1 (P : Program) (w : World) (K : PySem.W.Frag) (mg : Str → Option Value) (base : Heap) (x qual : Str) (st : Stmt) (ps : List Str) (n : Nat) (sp : Sp) (f : Addr) (fd : FuncData) : Prop where
  F : Fun K x qual st f fd
  b : Binds K fd ps []
  g : mg x = some (.ref f)
  G : FnOk P w K mg base (L2.CX P w) n f fd ps sp
/-- what the law calls -/
structure Cl (P : Program) (w : World) (K : PySem.W.Frag) (mg : Str → Option Value) (base : Heap) (x qual : Str) (st : Stmt) (ps : List Str) (n : Nat) (sp : Sp) (f : Addr) (fd : FuncData) : Prop where
  F : Fun K x qual st f fd
  b : Binds K fd ps []
  g : mg x = some (.ref f)
  G : FnOk P w K mg base CX0 n f fd ps sp
def spOut (K : PySem.W.Frag) (CS CP CU : Addr) : Sp := fun vs H Q E => ∃ (m : Addr) (x y : V) (p q : Addr) (n : Int) (h : Str) (e u : Int) (h2 : Str) (e2 u2 : Int) (ws : List Wr) (o : PyData) (ns : List Int), vs = [.ref m, x, y] ∧ SetV K CS CP H m n p q h e u h2 e2 u2 ∧ Dp K H x (cD ws) ∧ ws.length ≤ 200 ∧ (∀ w ∈ ws, Lo.okW w = true) ∧ Dp K H y o ∧ SeqAt.shaped o = true ∧ Lo.normO ws o = .ok (ns.map .int) ∧
  ns.length = ws.length ∧ (∀ k ∈ ns, 0 ≤ k ∧ k ≤ 2) ∧ okE e ∧ okE e2 ∧ 1 ≤ n ∧ n ≤ 1000000000000000000 ∧
  ∀ a H' O, O = outN h e u h2 e2 u2 n ws ns (turnsM ws).length → Ex H H' → OuFr CU H H' a (O.st.length : Int) O.seg O.ack (O.st.map V.int) → Q (.ref a) H'
theorem ints_of {H : Hp} : ∀ {ns : List Int} {xs : List V}, DpAll K H xs (ns.map PyData.int) → xs = ns.map V.int
  | [], xs, h => by
    cases h
    rfl
  | n :: r, xs, h => by
    cases h with
    | cons h1 h2 =>
      cases h1
      rw [ints_of h2]
      rfl
theorem wD_inj {a b : Wr} (h : wD a = wD b) : a = b := by
  obtain ⟨a1, a2, a3⟩ := a
  obtain ⟨b1, b2, b3⟩ := b
  have h' : PyData.tuple [.int a1, .int a2, .str a3] = .tuple [.int b1, .int b2, .str b3] := h
  injection h' with q
  injection q with p1 q
  injection q with p2 q
  injection q with p3 q
  injection p1 with p1
  injection p2 with p2
  injection p3 with p3
  rw [p1, p2, p3]
theorem wDs_inj : ∀ {a b : List Wr}, a.map wD = b.map wD → a = b
  | [], [], _ => rfl
  | [], _ :: _, h => by cases h
  | _ :: _, [], h => by cases h
  | u :: r, u' :: r', h => by
    have h' : wD u :: r.map wD = wD u' :: r'.map wD := h
    injection h' with h1 h2
    rw [wD_inj h1, wDs_inj h2]
theorem cD_inj {a b : List Wr} (h : cD a = cD b) : a = b := by
  have z : PyData.list (a.map wD) = .list (b.map wD) := h
  injection z with z
  exact wDs_inj z
theorem s_dropC' {σ : L2.St} {H : Hp} {D : Ends} {tz : TS} {ta : TA} {vs : List V} {sp : Sp} {E : XK} (ha : EvA ta σ H vs) (k : ∀ H1, Ex H H1 → sp (vs ++ []) H1 (fun _ H2 => tz D σ H2) E) : tSeq (tDrop (tCall sp [] E ta)) tz D σ H := ha H (Ex.refl H) _ k
theorem q_call {σ : L2.St} {H : Hp} {D : Ends} {tz : TS} {i : Nat} {ta : TA} {vs : List V} {sp : Sp} {E : XK} (ha : EvA ta σ H vs) (k : ∀ H1, Ex H H1 → sp (vs ++ []) H1 (fun x H2 => tz D (σ.set i (some x)) H2) E) : tSeq (tAsg (tCall sp [] E ta) (gName i)) tz D σ H := ha H (Ex.refl H) _ k
/-- Course(setting, speaker, 0, a first stance) -/
theorem mk_course {σ : L2.St} {H : Hp} {Q : VK} {E : XK} {t : TA} {m p q : Addr} {sp n : Int} {s : Stc} {h : Str} {e u : Int} {h2 : Str} {e2 u2 : Int} (sv : SetV K CS CP H m n p q h e u h2 e2 u2) (hsp : sp = 0 ∨ sp = 1)
    (args : ∀ Q' : List V → Hp → Prop, (∀ z H2, Ex H H2 → Dp K H2 z (stD s) → Q' [.ref m, .int sp, .int 0, z] H2) → t σ H Q')
    (k : ∀ x H' st dw dc, Crs P w K CC CT H H' x st dw dc (cfOf sp h e h2 e2) ⟨n, 0, s, 0, 0⟩ 0 → Q (.ref x) H') : tMake CC (spCIni P w K CC CT CS CP) [] E t σ H Q :=
  args _ fun z HB eB hz x dx hx hdx nd => ⟨x, dx, m, sp, 0, n, z, s, p, q, h, e, u, h2, e2, u2, rfl, upd_same, (sv.ex eB).ex (made_ex hx hdx), hsp, dp_ex (made_ex hx hdx) hz, fun HC st dw dc ndc hst hdw hdc xC cr hdw2 hdc2 => ⟨rfl, by
    have fr : ∀ {b : Addr}, (upd (upd HB dx (.own x)) x (.ins CC dx [])) b = none → HB b = none := fun {b} hb => by
      have n1 : b ≠ x := fun z => by
        rw [z, upd_same] at hb
        cases hb
      rw [upd_ne n1] at hb
      have n2 : b ≠ dx := fun z => by
        rw [z, upd_same] at hb
        cases hb
      rw [upd_ne n2] at hb
      exact hb
    exact k x HC st dw dc ⟨eB.trans (made_up hx hdx xC), cr, ⟨[], cch_new hdw2, Nat.le_refl 0⟩, ⟨[], cch_new hdc2, Nat.le_refl 0⟩, fresh_back eB hx, fresh_back eB (fr hdw), fresh_back eB (fr hdc), ndc⟩⟩⟩
theorem q_asgT {σ : L2.St} {H : Hp} {D : Ends} {tz : TS} {te : TE} {i : Nat} (h : te σ H fun x H1 => tz D (σ.set i (some x)) H1) : tSeq (tAsg te (gName i)) tz D σ H := h
theorem exUp {A B : Hp} {l : Addr} {o : HO} (x : Ex A B) (h : A l = none) : Ex A (upd B l o) := fun b u hb => by
  rw [upd_ne (ne_of_none hb h)]
  exact x _ _ hb
theorem tD_at {H : Hp} {v : V} {t : Int × Nat × Nat} (h : Dp K H v (tD t)) : ∃ a, v = .ref a ∧ SqT K H a [.int t.1, .int (t.2.1 : Int), .int (t.2.2 : Int)] := by
  cases h with
  | tup hs ha =>
    cases ha with
    | cons a1 r =>
    cases r with
    | cons a2 r =>
    cases r with
    | cons a3 r =>
    cases r
    cases a1
    cases a2
    cases a3
    exact ⟨_, rfl, hs⟩
theorem cD_at {H : Hp} {x : V} {ws : List Wr} (h : Dp K H x (cD ws)) : ∃ a xs, x = .ref a ∧ SqL K H a xs ∧ DpAll K H xs (ws.map wD) := by
  cases h with
  | lst hs ha => exact ⟨_, _, rfl, hs, ha⟩
theorem s_mthX {σ : L2.St} {H : Hp} {D : Ends} {ta : TE} {t : TA} {x C dx : Addr} {fs : List (Str × V)} {m : Str} {vs : List V} {sp : Sp} {E : XK} (ha : Ev ta σ H (.ref x)) (hx : H x = some (.ins C dx fs)) (hl : fs.lookup m = none) (ht : EvA t σ H vs) (k : ∀ H1, Ex H H1 → sp (.ref x :: (vs ++ [])) H1 (fun _ H2 => D.nx σ H2) E) : tDrop (tMeth C m sp [] E ta t) D σ H := tm_go ha hx hl ht k
theorem bOut {f : Addr} {fd : FuncData} (F : FunD K "outcome" "outcome" (defArgs sOut) (defBody sOut) (defScope sOut) [.str "quick"] [] f fd) : Binds K fd ocPs [] := by
  obtain ⟨ds, hv, hb⟩ := F.binds1 (ps := ocPs) 3 1 (by simp) rfl (fun T kV doc pm an cdv ct us its h1 h2 => by
    match us, its, h1, h2 with
    | [a, b, c], [d], _, _ => exact ⟨_, rfl, rfl⟩)
  cases hv
  exact hb
theorem bO {f : Addr} {fd : FuncData} {t : Addr} (F : FunD K "__init__" "Outcome.__init__" (defArgs oIni) (defBody oIni) (defScope oIni) [.int 0, .int 0, .int 0, .ref t] [] f fd) : Binds K fd oiPs [] := by
  obtain ⟨ds, hv, hb⟩ := F.binds1 (ps := oiPs) 5 4 (by simp) rfl (fun T kV doc pm an cdv ct us its h1 h2 => by
    match us, its, h1, h2 with
    | [a, b, c, d, e], [b1, c1, d1, e1], _, _ => exact ⟨_, rfl, rfl⟩)
  cases hv
  exact hb
theorem ok_out {f fK fN fU fI fM fW fE fO t0 : Addr} {fd fdK fdN fdU fdI fdM fdW fdE fdO : FuncData} (F : FunD K "outcome" "outcome" (defArgs sOut) (defBody sOut) (defScope sOut) [.str "quick"] [] f fd) (T : Lo.Txt K mg)
    (LK : ClX1 P w K mg base "check" "check" Lo.sChk ["conversation"] 3 (Lo.spChk K CW) fK fdK) (LN : ClX1 P w K mg base "normal_order" "normal_order" Lo.sNorm ["conversation", "order"] 6 (Lo.spNorm K CW CO) fN fdN) (LU : ClX1 P w K mg base "turns" "turns" Lo.sTurns ["conversation"] 4 (Lo.spTurns K CW) fU fdU)
    (TK : Ccs K mg CC) (MC : Mk K CC fI) (bI : Binds K fdI ciPs []) (GI : FnOk P w K mg base CX0 3 fI fdI ciPs (spCIni P w K CC CT CS CP)) (TP : Pol K mg CP) (TS : Stg K mg CS)
    (MM : Meth K CC "make_clearing" fM) (bM : Binds K fdM ["self"] []) (GM : FnOk P w K mg base CX0 4 fM fdM ["self"] (spMC P w K CC CT))
    (MW : Meth K CC "make_write" fW) (bW : Binds K fdW ["self", "length", "mode"] []) (GW : FnOk P w K mg base CX0 4 fW fdW ["self", "length", "mode"] (spMW P w K CC CT))
    (ME : Meth K CC "make_end" fE) (bE : Binds K fdE ["self"] []) (GE : FnOk P w K mg base CX0 2 fE fdE ["self"] (spME K CC CT))
    (TU : Ous K mg CU) (MO : Mk K CU fO) (FO : FunD K "__init__" "Outcome.__init__" (defArgs oIni) (defBody oIni) (defScope oIni) [.int 0, .int 0, .int 0, .ref t0] [] fO fdO) (GO : FnOk P w K mg base CX0 1 fO fdO oiPs (spOIni K CU)) :
    FnOk P w K mg base (L2.CX P w) 7 f fd ocPs (spOut K CS CP CU) := by
  refine F.ok scOut (fun vs H Q E h => ?_) (fun cdv A outer s H vs Q E hr h => ?_)
  · obtain ⟨m, x, y, p, q, n, h, e, u, h2, e2, u2, ws, o, ns, rfl, _⟩ := h
    rfl
  · have hr6 : Room 6 _ := hr.mono (by decide)
    have hr4 : Room 4 _ := hr.mono (by decide)
    have hr3 : Room 3 _ := hr.mono (by decide)
    have hr2 : Room 2 _ := hr.mono (by decide)
    refine ⟨_, pss_cons (ps_expr (pe_call LK.G hr3 rfl LK.g LK.F.kp LK.b .nil passE (pa_cons (pv 1) pa_nil)))
      (pss_cons (ps_set (i := 3) scOut.nd rfl (Or.inl rfl) (pe_call LN.G hr rfl LN.g LN.F.kp LN.b .nil passE (pa_cons (pv 1) (pa_cons (pv 2) pa_nil))))
      (pss_cons (ps_setLc (i := 4) (own := [("policy", 16)]) (g := gName 16) (tt := tYes) (te := tFld K (tVar 16) "quick") rfl scOut.nd rfl rfl rfl (pi_tup (pe_fld (pv 0) rfl))
          (blkOk_by (N := ocN) (sc := defScope sOut) (by decide +kernel)) (fun _ _ _ _ _ => pg_name (i := 16) scOut.nd rfl (Or.inl rfl)) (fun _ _ _ _ _ => pts_nil) (fun _ _ _ _ _ => pe_fld (pv 16) rfl))
      (pss_cons (ps_set (i := 5) scOut.nd rfl (Or.inl rfl) pe_int)
      (pss_cons (ps_set (i := 6) scOut.nd rfl (Or.inl rfl) pe_int)
      (pss_cons (ps_set (i := 7) scOut.nd rfl (Or.inl rfl) (pe_lst pa_nil))
      (pss_cons (ps_for (passes_of rfl) rfl (pi_enum (by rfl) T.enumerate (pa_cons (pe_call LU.G hr4 rfl LU.g LU.F.kp LU.b .nil passE (pa_cons (pv 1) pa_nil)) pa_nil)) (pg_tup rfl (pgs_cons (pg_name (i := 8) scOut.nd rfl (Or.inl rfl)) (pgs_cons (pg_tup rfl (pgs_cons (pg_name (i := 9) scOut.nd rfl (Or.inl rfl)) (pgs_cons (pg_name (i := 10) scOut.nd rfl (Or.inl rfl)) (pgs_cons (pg_name (i := 11) scOut.nd rfl (Or.inl rfl)) pgs_nil)))) pgs_nil)))
        (pss_cons (ps_set (i := 12) scOut.nd rfl (Or.inl rfl) (pe_make MC GI hr4 rfl TK.hm bI .nil pass0 (pa_cons (pv 0) (pa_cons (pv 9) (pa_cons pe_int (pa_cons (pe_tup (pa_cons pe_bl (pa_cons pe_bl (pa_cons pe_bl (pa_cons pe_int (pa_cons (pe_ix ix_list (pv 4) (pe_op op_sub pe_int (pv 9)) (fun _ _ => rfl)) pa_nil)))))) pa_nil))))))
        (pss_cons (ps_for (passes_of rfl) rfl (pi_range2 rfl T.range (pa_cons (pv 10) (pa_cons (pv 11) pa_nil))) (pg_name (i := 13) scOut.nd rfl (Or.inl rfl))
          (pss_cons (ps_for (passes_of rfl) rfl (pi_range1 rfl T.range (pa_cons (pe_ix ix_list (pv 3) (pv 13) (fun _ _ => rfl)) pa_nil)) (pg_name (i := 14) scOut.nd rfl (Or.inl rfl)) (pss_one (ps_expr (pe_meth0 (pv 12) TK.k.cl MM GM hr4 bM .nil pass0))))
          (pss_one (ps_expr (pe_meth (pv 12) TK.k.cl MW GW hr4 bW .nil pass0 (pa_cons (pe_ix ix_tup (pe_ix ix_list (pv 1) (pv 13) (fun _ _ => rfl)) pe_int (fun _ _ => rfl)) (pa_cons (pe_ix ix_tup (pe_ix ix_list (pv 1) (pv 13) (fun _ _ => rfl)) pe_int (fun _ _ => rfl)) pa_nil)))))))
        (pss_cons (ps_asg (pe_meth0 (pv 12) TK.k.cl ME GE hr2 bE .nil pass0) (pg_tup rfl (pgs_cons (pg_name (i := 15) scOut.nd rfl (Or.inl rfl)) (pgs_cons (pg_sub (pv 4) (pe_op op_sub pe_int (pv 9)) set_list) pgs_nil))))
        (pss_cons (ps_if (pt_cmpR op_gt (pv 15) pe_int (nomark _)) (pss_one (ps_expr (pe_bm PySem.F.plainAttrs_list PySem.F.slot_list_append PySem.F.type_list_append mt_append (pv 7) (pa_cons (pv 8) pa_nil)))) pss_nil)
        (pss_cons (ps_aug (i := 5) scOut.nd rfl (Or.inl rfl) (pe_fld (pv 12) rfl) ip_add)
        (pss_one (ps_aug (i := 6) scOut.nd rfl (Or.inl rfl) (pe_fld (pv 12) rfl) ip_add))))))))
      (pss_one (ps_ret (pe_make MO GO hr2 rfl TU.hm (bO FO) .nil pass0 (pa_cons (pe_callB call_len_seq (by rfl) T.len PySem.boot_len (pa_cons (pv 7) pa_nil)) (pa_cons (pv 5) (pa_cons (pv 6) (pa_cons (pv 7) pa_nil)))))))))))))
      , ?_⟩
    obtain ⟨m, x, y, p, q, n, h, e, u, h2, e2, u2, ws, o, ns, rfl, sv, dx, hl, okw, dy, so, hno, hnl, hnk, oe, oe2, n1, n2, k⟩ := h
    have hc := Lo.good_chk hl okw
    have hcN : ∀ v, Lo.chkD (cD ws) = some v → False := fun v z => by
      rw [hc] at z
      cases z
    refine s_dropC' (ea_cons (ev_var rfl) ea_nil) fun H1 x1 => ⟨x, cD ws, rfl, dp_ex x1 dx, Lo.third_wD ws, fun _ H2 x2 => ?_, fun v z => (hcN v z).elim⟩
    have x12 := x1.trans x2
    refine q_call (ea_cons (ev_var rfl) (ea_cons (ev_var rfl) ea_nil)) fun H3 x3 => ⟨x, y, cD ws, o, rfl, dp_ex (x12.trans x3) dx, Lo.third_wD ws, dp_ex (x12.trans x3) dy, so, fun ws' e0 _ => ?_, fun v z => (hcN v z).elim⟩
    have e0' := cD_inj e0
    subst e0'
    refine ⟨fun xs' en => ?_, fun v en => by rw [hno] at en; cases en⟩
    have exs : xs' = ns.map .int := by
      rw [hno] at en
      injection en with en
      exact en.symm
    subst exs
    intro pc cs H4 hpc x4 hcs dcs
    have hcs' := ints_of dcs
    subst hcs'
    have X4 : Ex H H4 := (x12.trans x3).trans (x4.trans ex_del_self)
    have sv4 := sv.ex X4
    obtain ⟨⟨dm, rt, hm, hrt⟩, ⟨dp1, hp1⟩, ⟨dp2, hp2⟩⟩ := id sv4
    have qk : EvL (tLc (iTup K (tFld K (tVar 0) "policies")) (gName 16) tYes (tFld K (tVar 16) "quick") [16]) [some (.ref m), some x, some y, some (.ref pc), none, none, none, none, none, none, none, none, none, none, none, none, none] H4 [.int u, .int u2] := by
      have yy := el_lcT (K := K) (σ := [some (.ref m), some x, some y, some (.ref pc), none, none, none, none, none, none, none, none, none, none, none, none, none]) (H := H4) (xs := [.ref p, .ref q]) (a := rt) (tl := tFld K (tVar 0) "policies") (j := 16) (vs := [16]) (t := tYes) (te := tFld K (tVar 16) "quick")
        (fun _ => true) (fun i => if i = 0 then .int u else .int u2) (ev_fld (ev_var rfl) hm TS.k.cl TS.np rfl) hrt (by show 2 ≤ 40000; decide) (fun _ => rfl) (fun _ _ _ _ _ => fun H1 e Q q => q H1 (Ex.refl H1)) (fun i v H5 e5 hv _ => by
          match i, hv with
          | 0, hv =>
            cases hv
            exact ev_fld (ev_var rfl) (e5 _ _ hp1) TP.k.cl TP.nq rfl
          | 1, hv =>
            cases hv
            exact ev_fld (ev_var rfl) (e5 _ _ hp2) TP.k.cl TP.nq rfl
          | i + 2, hv => cases hv)
      rw [given_allT] at yy
      exact yy
    refine q_asgL qk fun qa H5 hqa x5 hq5 => ?_
    refine q_asg ev_c fun H6 x6 => ?_
    refine q_asg ev_c fun H7 x7 => ?_
    refine q_asgL (xs := []) (el_lst ea_nil (by show 0 ≤ 100000; decide)) fun sa H8 hsa x8 hs8 => ?_
    have x58 := (x6.trans x7).trans x8
    have hq8 := x58 _ _ hq5
    have X48 : Ex H4 H8 := x5.trans x58
    have nqs : qa ≠ sa := ne_of_none ((x6.trans x7) _ _ hq5) hsa
    refine ⟨_, rfl, x, cD ws, rfl, dp_ex (X4.trans X48) dx, Lo.third_wD ws, ⟨fun ws' e0 _ => ?_, fun v z => (hcN v z).elim⟩⟩
    have e0' := cD_inj e0
    subst e0'
    intro la ts H9 hla x9 hl9 dts
    have X89 : Ex H8 H9 := x9.trans ex_del_self
    have nlq : la ≠ qa := fun z => by
      rw [z, hq8] at hla
      cases hla
    have nls : la ≠ sa := fun z => by
      rw [z, hs8] at hla
      cases hla
    have tlen : ts.length = (turnsM ws).length := by
      have z := dps_len' dts
      rw [List.length_map] at z
      exact z
    refine ⟨la, ts, rfl, sq_of hl9, for_it (walk_enum (xs := ts)) (fun i σ' H' => ∃ (o8 o9 o10 o11 o12 o13 o14 o15 o16 : Option V) (O : Ou), O = outN h e u h2 e2 u2 n ws ns i ∧ σ' = [some (.ref m), some x, some y, some (.ref pc), some (.ref qa), some (.int O.seg), some (.int O.ack), some (.ref sa), o8, o9, o10, o11, o12, o13, o14, o15, o16] ∧ Ex H4 H' ∧ Ex (off2 H9 qa sa) (off2 H' qa sa) ∧ H' qa = some (.lst [.int O.q0, .int O.q1]) ∧ H' sa = some (.lst (O.st.map V.int)))
      ⟨_, _, _, _, _, _, _, _, _, _, rfl, rfl, X48.trans X89, Ex.refl _, X89 _ _ hq8, X89 _ _ hs8⟩ (fun i σ' H' hi ⟨_, _, _, _, _, _, _, _, _, O, _, _, _, y2, _, _⟩ => sq_of (off_keep y2 hl9 nlq nls)) ?_ ?_⟩
    · rintro i v σ' H' H'' hi ⟨o8, o9, o10, o11, o12, o13, o14, o15, o16, O, hO, rfl, y1, y2, y3, y4⟩ yy
      obtain ⟨TT, va, vb, rfl, hTT, rfl, hva, hvb⟩ := yy
      cases hva
      have hti : i < (turnsM ws).length := by omega
      obtain ⟨tt, htt⟩ : ∃ tt, (turnsM ws)[i]? = some tt := ⟨_, List.getElem?_eq_getElem hti⟩
      have hgd : (turnsM ws).getD i (0, 0, 0) = tt := by
        rw [List.getD_eq_getElem?_getD, htt]
        rfl
      obtain ⟨u1, hu1, hu2⟩ := dps_at dts (i := i) (d := tD tt) (by rw [List.getElem?_map, htt]; rfl)
      have hvu : vb = u1 := by
        have hvb' : ts[i]? = some vb := hvb
        rw [hvb'] at hu1
        injection hu1
      subst hvu
      obtain ⟨ta, rfl, hta⟩ := tD_at hu2
      obtain ⟨sp, a, b⟩ := tt
      obtain ⟨in1, in2, in3, in4⟩ := turn_in ws.length (Nat.le_refl _) (sp, a, b) (List.mem_of_getElem? htt)
      have hsp : sp = 0 ∨ sp = 1 := by
        have ha : a < ws.length := by
          have z1 : a < b := in4
          have z2 : b ≤ ws.length := in2
          omega
        have hw := okw _ (List.getElem_mem ha)
        have z : sp = (ws[a]'ha).1 := by
          have z := spk_of (List.getElem?_eq_getElem ha)
          exact in3.trans z
        obtain ⟨wv, hwv⟩ : ∃ wv, wv = ws[a]'ha := ⟨_, rfl⟩
        rw [← hwv] at hw z
        obtain ⟨w1, w2, w3⟩ := wv
        have hb1 := (Bool.and_eq_true_iff.mp (show (Lo.betwD (.int w1) 0 1 && (Lo.betwD (.int w2) 1 1000000000000000000 && Lo.modeD (.str w3))) = true from hw)).1
        have hb2 := Bool.and_eq_true_iff.mp (show (decide (0 ≤ w1) && decide (w1 ≤ 1)) = true from hb1)
        have z1 := of_decide_eq_true hb2.1
        have z2 := of_decide_eq_true hb2.2
        have z' : sp = w1 := z
        omega
      have eT : Ex H' (upd H' TT (.tup [.int (i : Int), .ref ta])) := Ex.new hTT
      obtain ⟨Hb, hHb⟩ : ∃ Hb, Hb = upd H' TT (.tup [.int (i : Int), .ref ta]) := ⟨_, rfl⟩
      have htT : SqT K Hb TT [.int (i : Int), .ref ta] := by
        rw [hHb]
        exact st_of upd_same
      rw [← hHb] at eT ⊢
      have n_nt : ∀ {zz : Addr} {l : List V} {HH : Hp}, HH zz = some (.lst l) → ∀ u, HH zz = some u → ¬ isT u := fun hz u hu z => by
        rw [hz] at hu
        cases hu
        exact z
      have hta2 : SqT K Hb ta [.int sp, .int (a : Int), .int (b : Int)] := ex_t eT (ext_t (ext_off2 (n_nt (X89 _ _ hq8)) (n_nt (X89 _ _ hs8)) y2) (ex_t ex_del_self hta))
      refine ⟨TT, _, rfl, htT, rfl, _, _, rfl, ?_⟩
      refine ⟨_, _, rfl, ta, _, rfl, hta2, rfl, _, _, rfl, _, _, rfl, _, _, rfl, rfl, rfl, ?_⟩
      have hqb := eT _ _ y3
      have hsb := eT _ _ y4
      have Xb := y1.trans eT
      obtain ⟨cf, hcf⟩ : ∃ cf, cf = cfOf sp h e h2 e2 := ⟨_, rfl⟩
      obtain ⟨q', hq'⟩ : ∃ q', q' = (if sp = 0 then O.q1 else O.q0) := ⟨_, rfl⟩
      have hat : atI [V.int O.q0, .int O.q1] (1 - sp) = some (.int q') := by
        rcases hsp with rfl | rfl
        · rw [hq']
          exact atI_nat (j := 1) rfl
        · rw [hq']
          exact atI_nat (j := 0) rfl
      refine q_asgT (mk_course (CC := CC) (CT := CT) (s := ⟨false, false, false, 0, q'⟩) (sv4.ex Xb) hsp (fun Q' kk => ?_) fun cx Hc st dw dc Cr => ?_)
      · refine ⟨_, rfl, _, rfl, ?_⟩
        exact dvx_tup (K := K) (dvsx_cons (dvx_b ev_c) (dvsx_cons (dvx_b ev_c) (dvsx_cons (dvx_b ev_c) (dvsx_cons (dvx_i ev_c) (dvsx_cons (dvx_i (ev_op (ev_var rfl) (ev_op ev_c (ev_var rfl) rv_I0) (rv_ixL (sq_of hqb) hat))) dvsx_nil))))) (by show 5 ≤ 100000; decide) Hb (Ex.refl Hb) _ fun z H2 e2 hz => kk z H2 e2 hz
      rw [← hcf] at Cr
      have okc : okE cf.e := by
        rw [hcf]
        rcases hsp with rfl | rfl
        · exact oe2
        · exact oe
      have nx : ∀ {zz : Addr} {u : HO}, Hb zz = some u → zz ≠ cx := fun hz => ne_of_none hz Cr.fx
      have XH : Ex H Hb := X4.trans Xb
      obtain ⟨cad, cxs, hxe, hcl, hcd⟩ := cD_at dx
      subst hxe
      have hb200 : b ≤ 200 := by
        have z2 : b ≤ ws.length := in2
        omega
      have hab : a ≤ b := in1
      refine q_forR2 (lo := (a : Int)) (n := (b : Int)) (ea_cons (ev_var rfl) (ea_cons (ev_var rfl) ea_nil)) (by omega)
        (fun j σ' Hx => ∃ (o13 o14 : Option V), σ' = [some (.ref m), some (.ref cad), some y, some (.ref pc), some (.ref qa), some (.int O.seg), some (.int O.ack), some (.ref sa), some (.int (i : Int)), some (.int sp), some (.int (a : Int)), some (.int (b : Int)), some (.ref cx), o13, o14, o15, o16] ∧ Crs P w K CC CT Hb Hx cx st dw dc cf (runT cf n q' ws ns a j) (3 * j))
        (fun Hx ex => ⟨_, _, rfl, Cr.ex ex⟩) ?_ ?_
      · rintro j σ' Hx hj ⟨o13, o14, rfl, Cj⟩
        have hjl : a + j < ws.length := by
          have z2 : b ≤ ws.length := in2
          omega
        obtain ⟨kk, hkk⟩ : ∃ kk, ns[a + j]? = some kk := ⟨_, List.getElem?_eq_getElem (by omega)⟩
        have hk2 := hnk kk (List.mem_of_getElem? hkk)
        have hkg : ns.getD (a + j) 0 = kk := by
          rw [List.getD_eq_getElem?_getD, hkk]
          rfl
        have hpcx : Hx pc = some (.lst (ns.map V.int)) := Cj.fr _ _ (Xb _ _ hcs)
        have hlj : (a : Int) + (j : Int) = ((a + j : Nat) : Int) := by omega
        refine q_forR1 (n := kk) (ea_cons (ev_op (ev_var rfl) (ev_var rfl) (rv_ixL (sq_of hpcx) (by rw [hlj]; exact atI_nat (by rw [List.getElem?_map, hkk]; rfl)))) ea_nil) (by omega)
          (fun l σ' Hy => ∃ (o14 : Option V), σ' = [some (.ref m), some (.ref cad), some y, some (.ref pc), some (.ref qa), some (.int O.seg), some (.int O.ack), some (.ref sa), some (.int (i : Int)), some (.int sp), some (.int (a : Int)), some (.int (b : Int)), some (.ref cx), some (.int ((a : Int) + (j : Int))), o14, o15, o16] ∧ Crs P w K CC CT Hb Hy cx st dw dc cf (clK cf l (runT cf n q' ws ns a j)) (3 * j + l))
          (fun Hy ey => ⟨_, rfl, Cj.ex ey⟩) ?_ ?_
        · rintro l σ' Hy hl2 ⟨o14', rfl, Cl2⟩
          obtain ⟨ys, hy1, hy2⟩ := Cl2.cc
          obtain ⟨⟨dx1, v1, hx1, hv1⟩, tc1⟩ := id Cl2.cr
          refine s_mthX (ev_var rfl) hx1 rfl ea_nil fun Hz ez => ?_
          have Cz := Cl2.ex ez
          refine ⟨cx, st, dw, dc, cf, _, ys, rfl, Cz.cr, hy1.ex (ckd cf) ez, by omega, fun Hw zs z1 z2 z3 z4 => ⟨_, rfl, ?_⟩⟩
          exact Cz.clear (hy1.ex (ckd cf) ez) hy2 z1 z2 z3 z4
        · rintro σ' Hy ⟨o14', rfl, Cl2⟩
          obtain ⟨ys, hy1, hy2⟩ := Cl2.cw
          obtain ⟨⟨dx1, v1, hx1, hv1⟩, tc1⟩ := id Cl2.cr
          obtain ⟨tw, wv, hwv, hxw, htw⟩ := wr_at hcd hjl
          have hwg : ws.getD (a + j) (0, 0, "") = wv := by
            rw [List.getD_eq_getElem?_getD, hwv]
            rfl
          have XHy : Ex H Hy := XH.trans Cl2.fr
          have evc : ∀ {HH : Hp}, Ex Hy HH → Ev (tOp (rIxL K) (tVar 1) (tVar 13)) [some (.ref m), some (.ref cad), some y, some (.ref pc), some (.ref qa), some (.int O.seg), some (.int O.ack), some (.ref sa), some (.int (i : Int)), some (.int sp), some (.int (a : Int)), some (.int (b : Int)), some (.ref cx), some (.int ((a : Int) + (j : Int))), o14', o15, o16] HH (.ref tw) := fun eH => ev_op (ev_var rfl) (ev_var rfl) (rv_ixL (ex_l (XHy.trans eH) hcl) (by rw [hlj]; exact atI_nat hxw))
          refine s_mthX (ev_var rfl) hx1 rfl (ea_cons (ev_op (evc (Ex.refl _)) ev_c (rv_ixT (ex_t XHy htw) (atI_nat (j := 1) rfl))) (ea_cons (ev_op (evc (Ex.refl _)) ev_c (rv_ixT (ex_t XHy htw) (atI_nat (j := 2) rfl))) ea_nil)) fun Hz ez => ?_
          have Cz := Cl2.ex ez
          have hmn : (clK cf kk.toNat (runT cf n q' ws ns a j)).n = n := by rw [cl_n, run_n]
          refine ⟨cx, st, dw, dc, cf, _, wv.2.1, wv.2.2, ys, rfl, Cz.cr, okc, by rw [hmn]; exact n1, by rw [hmn]; exact n2, hy1.ex (wkd cf) ez, by omega, fun Hw zs z1 z2 z3 z4 => ⟨_, _, rfl, ?_⟩⟩
          have fin := Cz.write (hy1.ex (wkd cf) ez) hy2 z1 z2 z3 z4
          have er : runT cf n q' ws ns a (j + 1) = wrM cf (clK cf kk.toNat (runT cf n q' ws ns a j)) wv.2.1 wv.2.2 := by
            show wrM cf (clK cf (ns.getD (a + j) 0).toNat (runT cf n q' ws ns a j)) (ws.getD (a + j) (0, 0, "")).2.1 (ws.getD (a + j) (0, 0, "")).2.2 = _
            rw [hkg, hwg]
          rw [er]
          exact fin.less (by omega)
      · rintro σ' Hx ⟨o13, o14, rfl, Cj⟩
        have hbn : ((b : Int) - (a : Int)).toNat = b - a := by omega
        rw [hbn] at Cj
        obtain ⟨M, hM⟩ : ∃ M, M = runT cf n q' ws ns a (b - a) := ⟨_, rfl⟩
        rw [← hM] at Cj
        obtain ⟨⟨dx1, v1, hx1, hv1⟩, tc1⟩ := id Cj.cr
        dsimp only
        refine tm_go (ev_var rfl) hx1 rfl ea_nil fun H2' ee => ⟨cx, st, dw, dc, cf, M, rfl, Cj.cr.ex ee, fun pp H3' z1 z2 z3 => ?_⟩
        obtain ⟨dx3, v3, hx3⟩ := z3
        have X3 : Ex Hb H3' := fun c u hc => del_at z1 (ee _ _ (Cj.fr _ _ hc)) (ne_of_none hc Cr.fx)
        have hq3 := X3 _ _ hqb
        have hs3 := X3 _ _ hsb
        obtain ⟨fQ, hfQ⟩ : ∃ fQ, fQ = aeQ M.s (decide (M.r > 0)) := ⟨_, rfl⟩
        obtain ⟨fS, hfS⟩ : ∃ fS, fS = aeS M.s (decide (M.r > 0)) := ⟨_, rfl⟩
        rw [← hfQ, ← hfS] at z2
        have hO' : outN h e u h2 e2 u2 n ws ns (i + 1) = ⟨if sp = 0 then O.q0 else fQ, if sp = 0 then fQ else O.q1, O.seg + (if M.r > 0 then M.g + 1 else M.g), O.ack + (M.k + aeA M.s (decide (M.r > 0))), if fS > 0 then O.st ++ [(i : Int)] else O.st⟩ := by
          show stepT h e h2 e2 n ws ns i (outN h e u h2 e2 u2 n ws ns i) ((turnsM ws).getD i (0, 0, 0)) = _
          rw [hgd, ← hO, hfQ, hfS, hM, hcf, hq']
          rfl
        obtain ⟨jj, hjj, hset⟩ : ∃ jj, ixN ([V.int O.q0, .int O.q1]).length (1 - sp) = some jj ∧ ([V.int O.q0, .int O.q1]).set jj (.int fQ) = [.int (if sp = 0 then O.q0 else fQ), .int (if sp = 0 then fQ else O.q1)] := by
          rcases hsp with rfl | rfl
          · exact ⟨1, ixN_nat (j := 1) (by show 1 < 2; decide), rfl⟩
          · exact ⟨0, ixN_nat (j := 0) (by show 0 < 2; decide), rfl⟩
        refine ⟨pp, _, rfl, st_of z2, rfl, _, _, rfl, _, _, rfl, ?_⟩
        refine ⟨_, rfl, _, rfl, _, _, rfl, rfl, qa, _, _, jj, rfl, rfl, hq3, hjj, rfl, ?_⟩
        rw [hset]
        obtain ⟨HA, hHA⟩ : ∃ HA, HA = upd H3' qa (.lst [.int (if sp = 0 then O.q0 else fQ), .int (if sp = 0 then fQ else O.q1)]) := ⟨_, rfl⟩
        rw [← hHA]
        have nqx : qa ≠ cx := nx hqb
        have nsx : sa ≠ cx := nx hsb
        have h4sa : H4 sa = none := fresh_back (x5.trans (x6.trans x7)) hsa
        have xA1 : Ex H4 HA := by
          rw [hHA]
          exact exUp (Xb.trans X3) hqa
        have xA2 : Ex (off2 H9 qa sa) (off2 HA qa sa) := by
          refine (y2.trans (off_ex (eT.trans X3))).trans ?_
          rw [hHA]
          exact off_L (ex_delS (Ex.refl _))
        have qA : HA qa = some (.lst [.int (if sp = 0 then O.q0 else fQ), .int (if sp = 0 then fQ else O.q1)]) := by rw [hHA, upd_same]
        have sA : HA sa = some (.lst (O.st.map V.int)) := by
          rw [hHA, upd_ne nqs.symm]
          exact hs3
        have cA : HA cx = some (.ins CC dx3 (crF M.n st M.r v3 (if M.r > 0 then M.g + 1 else M.g) (M.k + aeA M.s (decide (M.r > 0))))) := by
          rw [hHA, upd_ne nqx.symm]
          exact hx3
        generalize htl : (tSeq (tAug 5 _ _) _ : L2.TS) = tl
        have tail : ∀ (D : Ends) (H5 : Hp), H5 cx = some (.ins CC dx3 (crF M.n st M.r v3 (if M.r > 0 then M.g + 1 else M.g) (M.k + aeA M.s (decide (M.r > 0))))) → (∀ H6, Ex H5 H6 → D.nx [some (.ref m), some (.ref cad), some y, some (.ref pc), some (.ref qa), some (.int (O.seg + (if M.r > 0 then M.g + 1 else M.g))), some (.int (O.ack + (M.k + aeA M.s (decide (M.r > 0))))), some (.ref sa), some (.int (i : Int)), some (.int sp), some (.int (a : Int)), some (.int (b : Int)), some (.ref cx), o13, o14, some (.int fS), o16] H6) →
            tl D [some (.ref m), some (.ref cad), some y, some (.ref pc), some (.ref qa), some (.int O.seg), some (.int O.ack), some (.ref sa), some (.int (i : Int)), some (.int sp), some (.int (a : Int)), some (.int (b : Int)), some (.ref cx), o13, o14, some (.int fS), o16] H5 := fun D H5 hc5 kD => by
          rw [← htl]
          refine q_aug rfl (ev_fld (ev_var rfl) hc5 TK.k.cl TK.ng rfl) fun H6 e6 => ?_
          exact s_aug rfl (ev_fld (ev_var rfl) (e6 _ _ hc5) TK.k.cl TK.nk rfl) fun H7 e7 => kD H7 (e6.trans e7)
        refine q_when (b := decide (fS > 0)) (et_test (ev_op (ev_var rfl) ev_c rv_I0)) (fun hb HB eB => ?_) fun hb HB eB => ?_
        · refine s_app (eB _ _ sA) (ev_var rfl) (ev_var rfl) (by
            rw [List.length_map]
            have z := out_len (h := h) (e := e) (u := u) (h2 := h2) (e2 := e2) (u2 := u2) (n := n) (ws := ws) (ns := ns) i
            have z2 := tN_len ws ws.length
            have z3 : (turnsM ws).length ≤ ws.length := z2
            rw [hO]
            omega) fun HC eC => ?_
          have nsa : ∀ {zz : Addr} {u : HO}, zz ≠ sa → HC zz = some u → (upd HC sa (.lst (O.st.map V.int ++ [.int (i : Int)]))) zz = some u := fun n hz => by
            rw [upd_ne n]
            exact hz
          have eBC := eB.trans eC
          refine tail _ _ (nsa nsx.symm (eBC _ _ cA)) fun H6 e6 => ?_
          refine ⟨_, _, _, _, _, _, _, _, _, _, hO'.symm, rfl, (exUp (xA1.trans eBC) h4sa).trans e6, ?_, e6 _ _ (nsa nqs (eBC _ _ qA)), e6 _ _ ?_⟩
          · exact ((xA2.trans (off_ex eBC)).trans (off_R (ex_delS (Ex.refl _)))).trans (off_ex e6)
          · rw [upd_same]
            show some (HO.lst (O.st.map V.int ++ [.int (i : Int)])) = some (.lst ((if fS > 0 then O.st ++ [(i : Int)] else O.st).map V.int))
            rw [if_pos (of_decide_eq_true hb), List.map_append]
            rfl
        · refine tail _ HB (eB _ _ cA) fun H6 e6 => ?_
          have eBC := eB.trans e6
          refine ⟨_, _, _, _, _, _, _, _, _, _, hO'.symm, rfl, xA1.trans eBC, xA2.trans (off_ex eBC), eBC _ _ qA, ?_⟩
          show H6 sa = some (.lst ((if fS > 0 then O.st ++ [(i : Int)] else O.st).map V.int))
          rw [if_neg (of_decide_eq_false hb)]
          exact eBC _ _ sA
    · rintro σ' H' ⟨o8, o9, o10, o11, o12, o13, o14, o15, o16, O, hO, rfl, y1, y2, y3, y4⟩
      dsimp only
      have args : EvA (tCons (tCB (rLenS K) (tCons (tVar 7) tNil)) (tCons (tVar 5) (tCons (tVar 6) (tCons (tVar 7) tNil)))) [some (.ref m), some x, some y, some (.ref pc), some (.ref qa), some (.int O.seg), some (.int O.ack), some (.ref sa), o8, o9, o10, o11, o12, o13, o14, o15, o16] H' [.int (O.st.length : Int), .int O.seg, .int O.ack, .ref sa] := by
        have z := ev_len (K := K) (σ := [some (.ref m), some x, some y, some (.ref pc), some (.ref qa), some (.int O.seg), some (.int O.ack), some (.ref sa), o8, o9, o10, o11, o12, o13, o14, o15, o16]) (H := H') (ta := tVar 7) (ev_var rfl) (sq_of y4)
        rw [List.length_map] at z
        exact ea_cons z (ea_cons (ev_var rfl) (ea_cons (ev_var rfl) (ea_cons (ev_var rfl) ea_nil)))
      refine s_retV ?_
      unfold tMake
      refine args H' (Ex.refl H') _ fun HB eB xo dxo hxo hdo nd => ?_
      have hsB := eB _ _ y4
      have nsx : sa ≠ xo := ne_of_none hsB hxo
      refine ⟨xo, dxo, _, _, _, sa, O.st.map V.int, rfl, upd_same, ?_, nsx, ?_, fun H2' l' z1 z2 z3 z4 z5 => ⟨rfl, ?_⟩⟩
      · rw [upd_ne nsx, upd_ne (ne_of_none hsB hdo)]
        exact hsB
      · rw [List.length_map]
        have z := out_len (h := h) (e := e) (u := u) (h2 := h2) (e2 := e2) (u2 := u2) (n := n) (ws := ws) (ns := ns) ts.length
        have z2 := tN_len ws ws.length
        have z3 : (turnsM ws).length ≤ ws.length := z2
        rw [hO]
        omega
      · rw [tlen] at hO
        have eN : Ex HB (del (upd (upd HB dxo (.own xo)) xo (.ins CU dxo [])) xo) := fun b o h => by
          have nb : b ≠ xo := ne_of_none h hxo
          have nb2 : b ≠ dxo := ne_of_none h hdo
          rw [del_ne nb, upd_ne nb, upd_ne nb2]
          exact h
        have eH := (X4.trans y1).trans eB
        exact k xo H2' O hO (eH.trans (made_up hxo hdo z1)) ⟨dxo, l', z2, z3, fresh_back (eH.trans eN) z5, fresh_back eH hxo⟩
end
end Lw

namespace PySem.W
open PySem PySem.Spec PySem.Calls PyProof.Rows
open Builtin
section
variable {prog : Program} {w : World} {A : Around} {E : Value → Shared → Prop} {s : Shared} {K : Frag} {x C f : Addr} {ox : Obj} {od : Option Obj}
theorem bool_new_tree (v : Value) : «bool.__new__» ⟨[.type "bool", v], []⟩ = (do
    if !(← isType (.type "bool")) then
      rule "bool.__new__.no-type"; raiseError "TypeError" s!"bool.__new__(X): X is not a type object ({← PySem.typeNameOf (Value.type "bool")})"
    if !(← isSubtype (.type "bool") (.type "bool")) then
      rule "bool.__new__.no-subtype"; raiseError "TypeError" s!"bool.__new__({← PySem.typeName (Value.type "bool")}): {← PySem.typeName (Value.type "bool")} is not a subtype of bool"
    ret (.bool (← truthy v))) := rfl
theorem kbo_call {Q : Value → Shared → Prop} (X : K.In s.heap) (I : InstAt s.heap x ox C od) (hs : findIn K (.ref C) "__bool__" = some (some (.ref f))) (hf : isFn K (.ref f) = true)
    (h : wpAny (model prog w) A.in1.in1 (call (.ref f) [.ref x]) (BoolBack fun b s' => Q (.bool b) s') E s) : wpAny (model prog w) A (call (.type "bool") [.ref x]) Q E s := by
  refine callType_codes (T := "bool") (Bi := Builtin.«object.__init__») (Q₁ := fun r s₁ => ∃ b, r = .bool b ∧ Q r s₁) PySem.F.called_bool (PySem.F.typeCall_bool_1 _) PySem.F.entry_object_init ?_ ?_
  · refine codeAny_of_tree ?_
    show wpAny _ A.in1.in1 (do checkBuiltinCall "bool.__new__" ⟨[.type "bool", .ref x], []⟩; again (.builtin "bool.__new__" ⟨[.type "bool", .ref x], []⟩)) _ _ s
    refine wpAny_bind (wpAny_of_eq (PySem.F.newCall_bool_1 _) (wpAny_pure ⟨plainId_quiet (by decide +kernel) _, codeAny_builtin PySem.F.entry_bool_new ?_⟩))
    rw [Around.under_plainId (by decide +kernel) _]
    rw [bool_new_tree]
    refine wpAny_bind (wpAny_pure ?_)
    refine wpAny_bind (wpAny_of_eq PySem.F.conv_sub_bool ?_)
    have tr : wpAny (model prog w) A.in1.in1 (truthy (.ref x)) (fun b s₁ => Q (.bool b) s₁) E s := by
      unfold truthy
      refine wpAny_bind (m := callSpecial? (.ref x) (Str.ofString "__bool__")) (special_fn X I hs (beq_iff_eq.mp hf) (wpAny_mono h (fun r s' hr => ?_) fun _ _ y => y))
      cases r <;> first | exact hr.elim | skip
      exact wpAny_pure hr
    refine wpAny_bind (wpAny_mono tr (fun b s₁ hr => wpAny_pure ⟨b, rfl, hr⟩) fun _ _ y => y)
  · rintro obj s₁ ⟨b, rfl, hq⟩
    exact ⟨typeIs_bool _ _, PySem.F.args_object_init_2 _ _, object_init_meets PySem.F.called_bool.init.lookup PySem.F.called_bool.made (by decide) prog w A.in1 _ s₁ ⟨typeIs_bool _ _, rfl, hq⟩⟩
end
end PySem.W

namespace L3
open PySem PySem.Spec PyProof.Rows L2
section
variable {X : Cx} {CX : CXT} {f C : Addr} {fd : FuncData} {ps : List Str} {sp : Sp} {n : Nat} {pins : List (Addr × Obj)} {σ : L2.St}
/-- bool(x) of an own instance: what its own def promises -/
def rBoolO (C : Addr) (sp : Sp) : List V → Hp → VK → Prop := fun xs H Q => ∃ a dx fs, xs = [.ref a] ∧ H a = some (.ins C dx fs) ∧ sp [.ref a] H (fun v H' => (∃ y, v = .bl y) ∧ Q v H') E0
theorem boolBack {Q : VK} {u : Value} {s' : Shared} (h : EP X pins σ (fun v H' => (∃ y, v = .bl y) ∧ Q v H') u s') : PySem.W.BoolBack (fun b s'' => EP X pins σ Q (.bool b) s'') u s' := by
  obtain ⟨v, H', I', rv, ⟨y, rfl⟩, q⟩ := h
  cases (show u = Value.bool y from rv)
  exact ⟨.bl y, H', I', rfl, q⟩
theorem call_boolO (S : Spm X.K C "__bool__" f) (F : FnOk X.prog X.w X.K X.mg X.base CX n f fd ps sp) (hb : Binds X.K fd ps []) (hx : Passes CX X E0) (hr : Room (n + 2) X.A) : CallR X (.type "bool") (rBoolO C sp) := by
  intro pins s σ H xs us Q I r h
  obtain ⟨a, dx, fs, rfl, ha, h⟩ := h
  obtain ⟨u, rfl, rx⟩ := vals1 r
  cases (show u = Value.ref a from rx)
  obtain ⟨mA, O, _⟩ := ins_get I.hok ha
  obtain ⟨od, J, _⟩ := O.look
  exact PySem.W.kbo_call I.kIn J S.at_ S.fn (wpAny_mono (own_call (vs := [V.ref a]) F hb hx hr.in1.in1 rfl I (.cons rfl .nil) h) (fun _ _ z => boolBack z) fun _ _ z => z)
end
end L3

namespace Lw
open PySem PySem.Spec PyProof.Rows L2 Evl L3 ClX Tn
theorem s_retT {σ : L2.St} {H : Hp} {D : Ends} {te : TE} (h : te σ H D.rt) : tRet te D σ H := h
theorem q_asgG {σ : L2.St} {H : Hp} {D : Ends} {tz : TS} {te : TE} {g : TG} (h : te σ H fun x H1 => g x σ H1 (tz D)) : tSeq (tAsg te g) tz D σ H := h
theorem q_parT {σ : L2.St} {H : Hp} {D : Ends} {tz : L2.TS} {i j : Nat} {ta : TA} (h : ta σ H fun vs H1 => ∃ v w, vs = [v, w] ∧ tz D ((σ.set i (some v)).set j (some w)) H1) : tSeq (tPar i j ta) tz D σ H := h
theorem t_tup {σ : L2.St} {H : Hp} {Q : VK} {ta : TA} (h : ta σ H fun xs H1 => xs.length ≤ sizeLine ∧ ∀ p, H1 p = none → Q (.ref p) (upd H1 p (.tup xs))) : tTup ta σ H Q := h
theorem t_lst {σ : L2.St} {H : Hp} {Q : VK} {ta : TA} (h : ta σ H fun xs H1 => xs.length ≤ sizeLine ∧ ∀ p, H1 p = none → Q (.ref p) (upd H1 p (.lst xs))) : tLst ta σ H Q := h
theorem t_cons {σ : L2.St} {H : Hp} {Q : List V → Hp → Prop} {ta : TE} {tr : TA} (h : ta σ H fun x H1 => tr σ H1 fun xs H2 => Q (x :: xs) H2) : tCons ta tr σ H Q := h
theorem t_op {σ : L2.St} {H : Hp} {Q : VK} {r : R2} {ta tb : TE} (h : ta σ H fun x H1 => tb σ H1 fun y H2 => r x y H2 Q) : tOp r ta tb σ H Q := h
end Lw

namespace Lw
open PySem PySem.Spec PyProof.Rows L2 Evl L3 ClX Tn
section
variable {P : Program} {w : World} {K : PySem.W.Frag} {mg : Str → Option Value} {base : Heap} {CC CT CZ CS CP : Addr}
/-! ### _law_whole -/
def wholeD : PyData → Bool
  | .int _ => true
  | _ => false
def spWhole (K : PySem.W.Frag) : Sp := fun vs H Q _ => ∃ (x : V) (d : PyData), vs = [x] ∧ Dp K H x d ∧ RetV (.bl (wholeD d)) H Q
theorem q_par {σ : L2.St} {H : Hp} {D : Ends} {tz : TS} {i j : Nat} {ta : TA} {x y : V} (ha : EvA ta σ H [x, y]) (k : ∀ H1, Ex H H1 → tz D ((σ.set i (some x)).set j (some y)) H1) : tSeq (tPar i j ta) tz D σ H := ha H (Ex.refl H) _ fun H1 e1 => ⟨x, y, rfl, k H1 e1⟩
theorem nf_self {C : Addr} : PySem.W.notFirst K C (.ref C) = true := by simp [PySem.W.notFirst]
section
variable {σ : L2.St} {H : Hp} {te ta tb : TE}
theorem el_cat {xs ys : List V} (h1 : EvL ta σ H xs) (h2 : EvL tb σ H ys) (hl : xs.length + ys.length ≤ 100000) : EvL (tOp rCat ta tb) σ H (xs ++ ys) := fun H1 e Q q =>
  h1 H1 e _ fun p H2 _ e2 hp => h2 H2 (e.trans e2) _ fun p3 H3 _ e3 h3 => ⟨p, p3, xs, ys, rfl, rfl, e3 _ _ hp, h3, sz_of hl, fun pz hz => q pz _ (fresh_back (e2.trans e3) hz) ((e2.trans e3).trans (Ex.new hz)) upd_same⟩
theorem et_neD {d1 d2 : PyData} {b : Bool} (h1 : DvX K ta σ H d1) (h2 : DvX K tb σ H d2) (s1 : SeqAt.shaped d1 = true) (s2 : SeqAt.shaped d2 = true) (hb : (!PyData.eqv d1 d2) = b) : EvT (tTest (tOp (rNeD K) ta tb)) σ H b := fun H1 e Q q =>
  h1 H1 e _ fun z H2 x2 hz => h2 H2 (e.trans x2) _ fun y H3 x3 hy => rv_neD (dp_ex x3 hz) hy s1 s2 H3 (Ex.refl H3) _ fun H4 x4 => ⟨b, by rw [hb], q H4 ((x2.trans x3).trans x4)⟩
theorem dvx_var {i : Nat} {z : V} {d : PyData} (h : σ[i]? = some (some z)) (hz : Dp K H z d) : DvX K (tVar i) σ H d := fun H1 e Q q => ⟨z, h, q z H1 (Ex.refl H1) (dp_ex e hz)⟩
end
end
end Lw

namespace Lw
open PySem PySem.Spec PyProof.Rows L2 Evl L3 ClX Tn
abbrev sRules : Stmt := top 37
abbrev sAmt : Stmt := top 39
section
variable {P : Program} {w : World} {K : PySem.W.Frag} {mg : Str → Option Value} {base : Heap} {CC CT CZ CS CP : Addr}
theorem s_dropT {σ : L2.St} {H : Hp} {D : Ends} {te : TE} (h : te σ H fun _ H1 => D.nx σ H1) : tDrop te D σ H := h
theorem bag_nt {H : Hp} {g : Addr} {n : Nat} (b : BagAt H g n) : ∀ u, H g = some u → ¬ isT u := fun u h z => by
  obtain ⟨_, _, _, hg, _⟩ := b
  rw [hg] at h
  cases h
  exact z
theorem ne_of_none' {H : Hp} {a b : Addr} {o : HO} (h : H a = none) (h2 : H b = some o) : a ≠ b := fun z => by
  rw [z, h2] at h
  cases h
theorem ex_updF {H H1 : Hp} {g l : Addr} {o : HO} (x : Ex (del H g) (del H1 g)) (hl : H l = none) : Ex (del H g) (del (upd H1 l o) g) := fun b u hb => by
  have nb : b ≠ g := fun z => by
    rw [z, show del H g g = none from if_pos rfl] at hb
    cases hb
  have hx := x b u hb
  rw [del_ne nb] at hb hx ⊢
  rw [upd_ne (ne_of_none hb hl)]
  exact hx
theorem atI_fin {xs : List V} {r : Int} {n : Nat} (h0 : 0 ≤ r) (h1 : r < n) (hn : xs.length = n) : ∃ v, atI xs r = some v ∧ v ∈ xs := atI_mem h0 (by omega)
/-! ### _law_rules -/
abbrev ruN : List Str := ["_law_bag_here", "_law_found", "_law_place", "_law_lets", "_law_per"]
def spRules (K : PySem.W.Frag) : Sp := fun vs H Q _ => ∃ (g : Addr) (m : Nat), vs = [.ref g] ∧ BagAt H g (m + 10) ∧ ∀ l t1 t2 h e u h2 e2 u2 H', H l = none → okP h e u → okP h2 e2 u2 → H' l = some (.lst [.ref t1, .ref t2]) → SqT K H' t1 [.str h, .int e, .int u] → SqT K H' t2 [.str h2, .int e2, .int u2] → Ex (del H g) (del H' g) → BagAt H' g m → Q (.ref l) H'
theorem scRules : FnScope ruN ["_law_bag_here"] (defScope sRules) := ⟨rfl, rfl, rfl, by decide +kernel, rfl, by decide +kernel, by decide +kernel⟩
theorem ok_rules {f fT : Addr} {fd fdT : FuncData} (F : Fun K "_law_rules" "_law_rules" sRules f fd) (T : Txt K mg) (FT : Fun K "_law_take" "_law_take" sTake fT fdT) (bT : Binds K fdT ["_law_bag_here", "_law_many"] []) (gT : mg "_law_take" = some (.ref fT)) (GT : FnOk P w K mg base CX0 1 fT fdT ["_law_bag_here", "_law_many"] spTake) : FnOk P w K mg base CX0 2 f fd ["_law_bag_here"] (spRules K) := by
  refine F.ok scRules (fun vs H Q E h => ?_) (fun cdv A outer s H vs Q E hr h => ?_)
  · obtain ⟨g, m, rfl, _⟩ := h
    rfl
  · obtain ⟨g, m, rfl, b0, k⟩ := h
    refine ⟨_, pss_cons (ps_set (i := 1) scRules.nd rfl (Or.inl rfl) (pe_lst pa_nil))
      (pss_cons (ps_for PassesOwn.never rfl (pi_range1 rfl T.range (pa_cons pe_int pa_nil)) (pg_name (i := 2) scRules.nd rfl (Or.inl rfl))
        (pss_cons (ps_set (i := 3) scRules.nd rfl (Or.inl rfl) (pe_ix ix_list (pe_lst (pa_cons pe_str (pa_cons pe_str (pa_cons pe_str (pa_cons pe_str pa_nil))))) (pe_call GT hr rfl gT FT.kp bT .nil pass0 (pa_cons (pv 0) (pa_cons pe_int pa_nil))) (fun _ _ => rfl)))
        (pss_cons (ps_set (i := 4) scRules.nd rfl (Or.inl rfl) (pe_ix ix_list (pe_lst (pa_cons pe_int (pa_cons pe_int (pa_cons pe_int (pa_cons pe_int (pa_cons (pe_call GT hr rfl gT FT.kp bT .nil pass0 (pa_cons (pv 0) (pa_cons pe_int pa_nil))) pa_nil)))))) (pe_call GT hr rfl gT FT.kp bT .nil pass0 (pa_cons (pv 0) (pa_cons pe_int pa_nil))) (fun _ _ => rfl)))
        (pss_one (ps_expr (pe_bm PySem.F.plainAttrs_list PySem.F.slot_list_append PySem.F.type_list_append mt_append (pv 1) (pa_cons (pe_tup (pa_cons (pv 3) (pa_cons (pv 4) (pa_cons (pe_ix ix_list (pe_lst (pa_cons pe_int (pa_cons pe_int (pa_cons pe_int (pa_cons (pe_call GT hr rfl gT FT.kp bT .nil pass0 (pa_cons (pv 0) (pa_cons pe_int pa_nil))) pa_nil))))) (pe_call GT hr rfl gT FT.kp bT .nil pass0 (pa_cons (pv 0) (pa_cons pe_int pa_nil))) (fun _ _ => rfl)) pa_nil)))) pa_nil)))))))
      (pss_one (ps_ret (pv 1)))), ?_⟩
    refine q_asgL (xs := []) (el_lst ea_nil (by show 0 ≤ 100000; decide)) fun l H1 hl e1 h1 => ?_
    have nlg : l ≠ g := bag_ne b0 hl
    -- one rule
    have keepL : ∀ {H2 H3 : Hp} {o : HO}, Ex (del H2 g) (del H3 g) → H2 l = some o → H3 l = some o := fun x h => del_at x h nlg
    refine q_forR1 (n := 2) (ea_cons ev_c ea_nil) (by omega)
      (fun i σ' H' => ∃ (o2 o3 o4 : Option V) (ts : List (Addr × Str × Int × Int)), σ' = [some (.ref g), some (.ref l), o2, o3, o4] ∧ ts.length = i ∧ H' l = some (.lst (ts.map fun t => .ref t.1)) ∧ (∀ t ∈ ts, okP t.2.1 t.2.2.1 t.2.2.2 ∧ SqT K H' t.1 [.str t.2.1, .int t.2.2.1, .int t.2.2.2]) ∧ Ex (del H g) (del H' g) ∧ BagAt H' g (m + 10 - 5 * i))
      (fun H2 e2 => ⟨_, _, _, [], rfl, rfl, e2 _ _ h1, fun t ht => absurd ht (by simp), ex_del (e1.trans e2), b0.ex (e1.trans e2)⟩) ?_ ?_
    · rintro i σ' H2 hi ⟨o2, o3, o4, ts, rfl, hts, hL, hall, x2, b2⟩
      obtain ⟨m', hm'⟩ : ∃ m', m' = m + 10 - 5 * (i + 1) := ⟨_, rfl⟩
      have hi2 : i < 2 := by omega
      have c2 : BagAt H2 g (m' + 5) := b2.less (by omega)
      -- the word
      refine q_asgT ⟨by show 4 ≤ sizeLine; decide, fun p hp => ?_⟩
      have npg : p ≠ g := bag_ne c2 hp
      refine take_go (n := m' + 4) (m := 4) (ev_var rfl) ev_c (c2.ex (Ex.new hp)) (by decide) (by decide) fun r1 H3 l1 u1 x3 b3 => ?_
      have hp3 := del_at x3 (upd_same (H := H2) (a := p) (o := .lst [.str "all", .str "partial", .str "all", .str "off"])) npg
      have eA : Ex (del H2 g) (del H3 g) := (ex_del (Ex.new hp)).trans x3
      obtain ⟨h, hh, hat⟩ : ∃ h : Str, okH h ∧ atI [V.str "all", .str "partial", .str "all", .str "off"] r1 = some (.str h) := by
        have c : r1 = 0 ∨ r1 = 1 ∨ r1 = 2 ∨ r1 = 3 := by omega
        rcases c with rfl | rfl | rfl | rfl
        · exact ⟨_, Or.inr (Or.inr rfl), atI_nat (j := 0) rfl⟩
        · exact ⟨_, Or.inr (Or.inl rfl), atI_nat (j := 1) rfl⟩
        · exact ⟨_, Or.inr (Or.inr rfl), atI_nat (j := 2) rfl⟩
        · exact ⟨_, Or.inl rfl, atI_nat (j := 3) rfl⟩
      refine ⟨p, _, _, .str h, rfl, rfl, sq_of hp3, hat, ?_⟩
      -- the number
      refine q_asgT ?_
      refine take_go (n := m' + 3) (m := 10) (ev_var rfl) ev_c b3 (by decide) (by decide) fun r2 H4 l2 u2 x4 b4 => ?_
      refine ⟨by show 5 ≤ sizeLine; decide, fun p2 hp2 => ?_⟩
      have npg2 : p2 ≠ g := bag_ne b4 hp2
      refine take_go (n := m' + 2) (m := 5) (ev_var rfl) ev_c (b4.ex (Ex.new hp2)) (by decide) (by decide) fun r3 H5 l3 u3 x5 b5 => ?_
      have hp5 := del_at x5 (upd_same (H := H4) (a := p2) (o := .lst [.int 2, .int 1, .int 3, .int 0, .int r2])) npg2
      have eB : Ex (del H2 g) (del H5 g) := (eA.trans x4).trans ((ex_del (Ex.new hp2)).trans x5)
      obtain ⟨e, he, hat2⟩ : ∃ e : Int, (0 ≤ e ∧ e ≤ 9) ∧ atI [V.int 2, .int 1, .int 3, .int 0, .int r2] r3 = some (.int e) := by
        have c : r3 = 0 ∨ r3 = 1 ∨ r3 = 2 ∨ r3 = 3 ∨ r3 = 4 := by omega
        rcases c with rfl | rfl | rfl | rfl | rfl
        · exact ⟨_, by decide, atI_nat (j := 0) rfl⟩
        · exact ⟨_, by decide, atI_nat (j := 1) rfl⟩
        · exact ⟨_, by decide, atI_nat (j := 2) rfl⟩
        · exact ⟨_, by decide, atI_nat (j := 3) rfl⟩
        · exact ⟨_, ⟨l2, by omega⟩, atI_nat (j := 4) rfl⟩
      refine ⟨p2, _, _, .int e, rfl, rfl, sq_of hp5, hat2, ?_⟩
      -- the tuple
      have hL5 : H5 l = some (.lst (ts.map fun t => .ref t.1)) := keepL eB hL
      refine s_dropT ⟨_, rfl, Or.inl ⟨rfl, _, sq_of hL5⟩, _, rfl, _, rfl, ?_⟩
      refine take_go (n := m' + 1) (m := 5) (ev_var rfl) ev_c b5 (by decide) (by decide) fun r4 H6 l4 u4 x6 b6 => ?_
      refine ⟨by show 4 ≤ sizeLine; decide, fun p3 hp3' => ?_⟩
      have npg3 : p3 ≠ g := bag_ne b6 hp3'
      refine take_go (n := m') (m := 4) (ev_var rfl) ev_c (b6.ex (Ex.new hp3')) (by decide) (by decide) fun r5 H7 l5 u5 x7 b7 => ?_
      have hp7 := del_at x7 (upd_same (H := H6) (a := p3) (o := .lst [.int 0, .int 0, .int 1, .int r4])) npg3
      have eC : Ex (del H2 g) (del H7 g) := (eB.trans x6).trans ((ex_del (Ex.new hp3')).trans x7)
      obtain ⟨u, hu, hat3⟩ : ∃ u : Int, (0 ≤ u ∧ u ≤ 4) ∧ atI [V.int 0, .int 0, .int 1, .int r4] r5 = some (.int u) := by
        have c : r5 = 0 ∨ r5 = 1 ∨ r5 = 2 ∨ r5 = 3 := by omega
        rcases c with rfl | rfl | rfl | rfl
        · exact ⟨_, by decide, atI_nat (j := 0) rfl⟩
        · exact ⟨_, by decide, atI_nat (j := 1) rfl⟩
        · exact ⟨_, by decide, atI_nat (j := 2) rfl⟩
        · exact ⟨_, ⟨l4, by omega⟩, atI_nat (j := 3) rfl⟩
      refine ⟨p3, _, _, .int u, rfl, rfl, sq_of hp7, hat3, ?_⟩
      refine ⟨by show 3 ≤ sizeLine; decide, fun t ht => ?_⟩
      have hL7 : H7 l = some (.lst (ts.map fun t => .ref t.1)) := keepL eC hL
      have ntl : t ≠ l := ne_of_none' ht hL7
      have ntg : t ≠ g := bag_ne b7 ht
      have hL8 : (upd H7 t (.tup [.str h, .int e, .int u])) l = some (.lst (ts.map fun t => .ref t.1)) := by
        rw [upd_ne ntl.symm]
        exact hL7
      refine ⟨l, _, .ref t, rfl, rfl, hL8, by rw [List.length_map, hts, sizeLine_eq]; have := line63; omega, ?_⟩
      have ok : okP h e u := ⟨hh, he.1, he.2, hu.1, hu.2⟩
      have nts : ∀ {HH : Hp} {xs : List V} {x : Addr} {ys : List V}, HH l = some (.lst ys) → SqT K HH x xs → SqT K (upd HH l (.lst (ys ++ [.ref t]))) x xs := fun hl2 hx => ext_t (ext_del (a := l) (fun u hu z => by
        rw [hl2] at hu
        cases hu
        exact z) (by rw [del_upd]; exact Ex.refl _)) hx
      refine ⟨_, _, _, ts ++ [(t, h, e, u)], rfl, by rw [List.length_append, hts]; rfl, ?_, fun t' ht' => ?_, ?_, ?_⟩
      · rw [upd_same, List.map_append]
        rfl
      · rcases List.mem_append.mp ht' with z | z
        · obtain ⟨y1, y2⟩ := hall t' z
          exact ⟨y1, nts hL8 (ex_t (Ex.new ht) (ext_t (ext_del (bag_nt b2) eC) y2))⟩
        · rw [List.mem_singleton.mp z]
          exact ⟨ok, nts hL8 (st_of upd_same)⟩
      · exact ex_updF (x2.trans (eC.trans (ex_del (Ex.new ht)))) hl
      · rw [← hm']
        obtain ⟨q1, q2, q3, hg, hr'⟩ := b7.ex (Ex.new (o := .tup [.str h, .int e, .int u]) ht)
        exact ⟨q1, q2, q3, by rw [upd_ne nlg.symm]; exact hg, hr'⟩
    · rintro σ' H2 ⟨o2, o3, o4, ts, rfl, hts, hL, hall, x2, b2⟩
      match ts, hts, hL, hall with
      | [(t1, h, e, u), (t2, h2, e2, u2)], _, hL, hall =>
        obtain ⟨y1, y2⟩ := hall (t1, h, e, u) (by simp)
        obtain ⟨y3, y4⟩ := hall (t2, h2, e2, u2) (by simp)
        exact s_ret (ev_var rfl) fun H3 e3 => k l t1 t2 h e u h2 e2 u2 H3 hl y1 y3 (e3 _ _ hL) (ex_t e3 y2) (ex_t e3 y4) (x2.trans (ex_del e3)) ((b2.ex e3).less (by omega))
/-! ### _law_amount -/
abbrev amPs : List Str := ["_law_bag_here", "_law_width"]
abbrev amN : List Str := ["_law_bag_here", "_law_width", "_law_more"]
def spAmt : Sp := fun vs H Q _ => ∃ (g : Addr) (n : Int) (m : Nat), vs = [.ref g, .int n] ∧ BagAt H g (m + 4) ∧ 1 ≤ n ∧ n ≤ 9 ∧ ∀ (v : Int) H', 1 ≤ v → v ≤ 36 → Ex (del H g) (del H' g) → BagAt H' g m → Q (.int v) H'
theorem scAmt : FnScope amN amPs (defScope sAmt) := ⟨rfl, rfl, rfl, by decide +kernel, rfl, by decide +kernel, by decide +kernel⟩
theorem ok_amt {f fT : Addr} {fd fdT : FuncData} (F : Fun K "_law_amount" "_law_amount" sAmt f fd) (FT : Fun K "_law_take" "_law_take" sTake fT fdT) (bT : Binds K fdT ["_law_bag_here", "_law_many"] []) (gT : mg "_law_take" = some (.ref fT)) (GT : FnOk P w K mg base CX0 1 fT fdT ["_law_bag_here", "_law_many"] spTake) : FnOk P w K mg base CX0 2 f fd amPs spAmt := by
  refine F.ok scAmt (fun vs H Q E h => ?_) (fun cdv A outer s H vs Q E hr h => ?_)
  · obtain ⟨g, n, m, rfl, _⟩ := h
    rfl
  · obtain ⟨g, n, m, rfl, b0, n1, n2, k⟩ := h
    refine ⟨_, pss_cons (ps_set (i := 2) scAmt.nd rfl (Or.inl rfl) (pe_op op_add pe_int (pe_call GT hr rfl gT FT.kp bT .nil pass0 (pa_cons (pv 0) (pa_cons (pv 1) pa_nil)))))
      (pss_one (ps_ret (pe_ix ix_list (pe_lst (pa_cons (pv 2) (pa_cons (pv 2) (pa_cons (pe_op op_mul (pv 1) (pe_op op_add pe_int (pe_call GT hr rfl gT FT.kp bT .nil pass0 (pa_cons (pv 0) (pa_cons pe_int pa_nil)))))
        (pa_cons (pe_op op_add (pe_op op_mul (pv 1) (pe_call GT hr rfl gT FT.kp bT .nil pass0 (pa_cons (pv 0) (pa_cons pe_int pa_nil)))) (pv 2)) pa_nil))))) (pe_call GT hr rfl gT FT.kp bT .nil pass0 (pa_cons (pv 0) (pa_cons pe_int pa_nil))) (fun _ _ => rfl)))), ?_⟩
    refine q_asgT ?_
    refine take_go (n := m + 3) (m := n) (ev_var rfl) (ev_var rfl) b0 n1 (by omega) fun r1 H1 l1 u1 x1 b1 => ?_
    refine ⟨_, _, rfl, rfl, ?_⟩
    refine s_retT ?_
    refine ⟨_, rfl, _, rfl, _, rfl, ?_⟩
    refine take_go (n := m + 2) (m := 4) (ev_var rfl) ev_c b1 (by decide) (by decide) fun r2 H2 l2 u2 x2 b2 => ?_
    refine ⟨_, _, rfl, rfl, ?_⟩
    refine ⟨_, _, rfl, rfl, Or.inr (by omega), ?_⟩
    refine ⟨_, rfl, ?_⟩
    refine take_go (n := m + 1) (m := 4) (ev_var rfl) ev_c b2 (by decide) (by decide) fun r3 H3 l3 u3 x3 b3 => ?_
    refine ⟨_, _, rfl, rfl, Or.inr (by omega), ?_⟩
    refine ⟨_, rfl, ?_⟩
    refine ⟨_, _, rfl, rfl, ?_⟩
    refine ⟨by show 4 ≤ sizeLine; decide, fun p hp => ?_⟩
    have npg : p ≠ g := bag_ne b3 hp
    obtain ⟨ls, hls⟩ : ∃ ls : List V, ls = [.int (1 + r1), .int (1 + r1), .int (n * (1 + r2)), .int (n * r3 + (1 + r1))] := ⟨_, rfl⟩
    rw [← hls]
    refine take_go (n := m) (m := 4) (ev_var rfl) ev_c (b3.ex (Ex.new hp)) (by decide) (by decide) fun r4 H4 l4 u4 x4 b4 => ?_
    have hp4 := del_at x4 (upd_same (H := H3) (a := p) (o := .lst ls)) npg
    have eA : Ex (del H g) (del H4 g) := ((x1.trans x2).trans x3).trans ((ex_del (Ex.new hp)).trans x4)
    have m1 : 1 ≤ n * (1 + r2) ∧ n * (1 + r2) ≤ 36 := by
      have z1 : 1 * 1 ≤ n * (1 + r2) := Int.mul_le_mul n1 (by omega) (by decide) (by omega)
      have z2 : n * (1 + r2) ≤ 9 * 4 := Int.mul_le_mul n2 (by omega) (by omega) (by decide)
      omega
    have m2 : 0 ≤ n * r3 ∧ n * r3 ≤ 27 := by
      have z1 : 0 ≤ n * r3 := Int.mul_nonneg (by omega) l3
      have z2 : n * r3 ≤ 9 * 3 := Int.mul_le_mul n2 (by omega) l3 (by decide)
      omega
    obtain ⟨v, hv, v1, v2⟩ : ∃ v : Int, atI ls r4 = some (.int v) ∧ 1 ≤ v ∧ v ≤ 36 := by
      rw [hls]
      have c : r4 = 0 ∨ r4 = 1 ∨ r4 = 2 ∨ r4 = 3 := by omega
      rcases c with rfl | rfl | rfl | rfl
      · exact ⟨_, atI_nat (j := 0) rfl, by omega, by omega⟩
      · exact ⟨_, atI_nat (j := 1) rfl, by omega, by omega⟩
      · exact ⟨_, atI_nat (j := 2) rfl, m1.1, m1.2⟩
      · exact ⟨_, atI_nat (j := 3) rfl, by omega, by omega⟩
    exact ⟨p, _, _, .int v, rfl, rfl, sq_of hp4, hv, k v H4 v1 v2 eA b4⟩
end
end Lw

namespace Lw
open PySem PySem.Spec PyProof.Rows L2 Evl L3 ClX Tn
section
variable {P : Program} {w : World} {K : PySem.W.Frag} {mg : Str → Option Value} {base : Heap} {CC CT CZ CS CP : Addr}
abbrev sSetg : Stmt := top 38
abbrev spSIv (K : PySem.W.Frag) (CS CP : Addr) : Sp := fun vs H Q E => ∃ ws rest, vs = ws ++ rest ∧ ws.length = 2 ∧ rest.length ≤ sizeLine ∧ ∀ p, H p = none → spSI0 K CS CP (ws ++ [V.ref p]) (upd H p (.tup rest)) Q E
/-- Policy(h, every=e, quick=q), of good values, told of its place -/
theorem ex_polK {σ : L2.St} {H : Hp} {ta tk : TA} {h : Str} {e q : Int} (h1 : EvA ta σ H [.str h]) (h2 : EvA tk σ H [.int e, .int q]) (ok : okP h e q) : ∀ H1, Ex H H1 → ∀ Q : VK, (∀ x H2, Ex H1 H2 → PolAt CP H2 x h e q → H1 x = none → Q (.ref x) H2) → tMakeK CP 1 2 (spPIv CP) (fun vs zs => vs ++ zs) E0 ta tk σ H1 Q := fun H1 x1 Q k =>
  h1 H1 x1 _ fun H2 x2 => h2 H2 (x1.trans x2) _ fun H3 x3 => ⟨rfl, rfl, fun x dx hx hd nd =>
    ⟨x, dx, h, e, q, rfl, upd_same, ok, fun H' x' h' => ⟨rfl, k x H' ((x2.trans x3).trans (made_pol hx hd nd x')) ⟨dx, h'⟩ (fresh_back (x2.trans x3) hx)⟩⟩⟩
abbrev stgPs : List Str := ["_law_width", "_law_rules_here"]
abbrev stgN : List Str := ["_law_width", "_law_rules_here", "_law_made", "_law_lets", "_law_some", "_law_soon"]
def spSetg (K : PySem.W.Frag) (CS CP : Addr) : Sp := fun vs H Q _ => ∃ (n : Int) (l t1 t2 : Addr) (h : Str) (e u : Int) (h2 : Str) (e2 u2 : Int), vs = [.int n, .ref l] ∧ SqL K H l [.ref t1, .ref t2] ∧ SqT K H t1 [.str h, .int e, .int u] ∧ SqT K H t2 [.str h2, .int e2, .int u2] ∧ okP h e u ∧ okP h2 e2 u2 ∧ 1 ≤ n ∧ n ≤ 1000000000000000000 ∧
  ∀ m p q H', Ex H H' → SetV K CS CP H' m n p q h e u h2 e2 u2 → Q (.ref m) H'
theorem scSetg : FnScope stgN stgPs (defScope sSetg) := ⟨rfl, rfl, rfl, by decide +kernel, rfl, by decide +kernel, by decide +kernel⟩
theorem ok_setg {f fI fJ : Addr} {fd fdI : FuncData} (F : Fun K "_law_setting" "_law_setting" sSetg f fd) (TP : Pol K mg CP) (MP : Mk K CP fI) (FI : FunD K "__init__" "Policy.__init__" (defArgs sPI) (defBody sPI) (defScope sPI) [.str "all"] [("every", .int 2), ("quick", .int 0)] fI fdI) (GI : FnOk P w K mg base (L2.CX P w) 3 fI fdI PIps (spPIv CP))
    (TS : Stg K mg CS) (MS : Mk K CS fJ) (GJ : FnR P w K mg base (L2.CX P w) 6 fJ (spSIv K CS CP)) : FnOk P w K mg base CX0 8 f fd stgPs (spSetg K CS CP) := by
  obtain ⟨gP3, bI3⟩ := bP3 FI
  refine F.ok scSetg (fun vs H Q E h => ?_) (fun cdv A outer s H vs Q E hr h => ?_)
  · obtain ⟨n, l, t1, t2, h, e, u, h2, e2, u2, rfl, _⟩ := h
    rfl
  · obtain ⟨n, l, t1, t2, h, e, u, h2, e2, u2, rfl, hl, ht1, ht2, ok1, ok2, n1, n2, k⟩ := h
    have hr4 : Room 4 _ := hr.mono (by decide)
    refine ⟨_, pss_cons (ps_setLc (i := 2) (own := [("_law_lets", 3), ("_law_some", 4), ("_law_soon", 5)]) (g := gTup K 3 (gCons (gName 3) (gCons (gName 4) (gCons (gName 5) gNil)))) (tt := tYes) (te := tMakeK CP 1 2 (spPIv CP) (fun vs zs => vs ++ zs) E0 (tCons (tVar 3) tNil) (tCons (tVar 4) (tCons (tVar 5) tNil))) rfl scSetg.nd rfl rfl rfl (pi_list (pv 1))
          (blkOk_by (N := stgN) (sc := defScope sSetg) (by decide +kernel)) (fun _ _ _ _ _ => pg_tup rfl (pgs_cons (pg_name (i := 3) scSetg.nd rfl (Or.inl rfl)) (pgs_cons (pg_name (i := 4) scSetg.nd rfl (Or.inl rfl)) (pgs_cons (pg_name (i := 5) scSetg.nd rfl (Or.inl rfl)) pgs_nil)))) (fun _ _ _ _ _ => pts_nil)
          (fun _ _ _ _ _ => by exact pe_makeK (x := "Policy") (n := 1) (ks := ["every", "quick"]) MP GI hr4 rfl TP.hm bI3 passE (pa_cons (pv 3) pa_nil) (pk_cons (pv 4) (pk_cons (pv 5) pk_nil))))
      (pss_one (ps_ret (StX.pe_makeR MS GJ hr rfl TS.hm passE (pa_cons (pv 0) (pa_cons (pe_ix ix_list (pv 2) pe_int (fun _ _ => rfl)) (pa_cons (pe_ix ix_list (pv 2) pe_int (fun _ _ => rfl)) pa_nil)))))), ?_⟩
    refine q_asgT ⟨_, rfl, l, rfl, ⟨_, hl⟩, fun Dl hD => ?_⟩
    refine lc_list (xs := [.ref t1, .ref t2]) (fun i H' => Ex H H' ∧ ((i = 0 ∧ H' Dl = some (.lst [])) ∨ (i = 1 ∧ ∃ a, H' Dl = some (.lst [.ref a]) ∧ PolAt CP H' a h e u) ∨ (i = 2 ∧ ∃ a b, H' Dl = some (.lst [.ref a, .ref b]) ∧ PolAt CP H' a h e u ∧ PolAt CP H' b h2 e2 u2)))
      ⟨Ex.new hD, Or.inl ⟨rfl, upd_same⟩⟩ (fun i H' _ p => ex_l p.1 hl) (fun i x H' hi p => ?_) (fun H' p => ?_)
    · obtain ⟨X, p2'⟩ := p
      have pol_up : ∀ {H4 : Hp} {a : Addr} {h : Str} {e q : Int} {xs : List V}, PolAt CP H4 a h e q → (∃ ys, H4 Dl = some (.lst ys)) → PolAt CP (upd H4 Dl (.lst xs)) a h e q := fun ⟨dx, ha⟩ ⟨ys, hy⟩ => ⟨dx, by rw [upd_ne (fun z => (by rw [z, hy] at ha; cases ha))]; exact ha⟩
      have keep : ∀ {H4 : Hp} {xs : List V}, Ex H' H4 → Ex H (upd H4 Dl (.lst xs)) := fun e4 b u hu => by
        have nb : b ≠ Dl := ne_of_none hu hD
        rw [upd_ne nb]
        exact e4 _ _ (X _ _ hu)
      match i, hi with
      | 0, hi =>
        cases hi
        rcases p2' with ⟨_, hlD⟩ | ⟨z, _⟩ | ⟨z, _⟩
        · refine ⟨t1, _, rfl, ex_t X ht1, rfl, _, _, rfl, _, _, rfl, _, _, rfl, rfl, rfl, ?_⟩
          refine yes_then ?_
          refine ex_polK (CP := CP) (H := H') (ea_cons (ev_var rfl) ea_nil) (ea_cons (ev_var rfl) (ea_cons (ev_var rfl) ea_nil)) ok1 H' (Ex.refl H') _ fun x H4 e4 hx nx => ⟨[], e4 _ _ hlD, sz_of (by show 0 + 1 ≤ 100000; decide), keep e4, Or.inr (Or.inl ⟨rfl, x, upd_same, pol_up hx ⟨_, e4 _ _ hlD⟩⟩)⟩
        · exact absurd z (by decide)
        · exact absurd z (by decide)
      | 1, hi =>
        cases hi
        rcases p2' with ⟨z, _⟩ | ⟨_, a, hlD, ha⟩ | ⟨z, _⟩
        · exact absurd z (by decide)
        · refine ⟨t2, _, rfl, ex_t X ht2, rfl, _, _, rfl, _, _, rfl, _, _, rfl, rfl, rfl, ?_⟩
          refine yes_then ?_
          refine ex_polK (CP := CP) (H := H') (ea_cons (ev_var rfl) ea_nil) (ea_cons (ev_var rfl) (ea_cons (ev_var rfl) ea_nil)) ok2 H' (Ex.refl H') _ fun x H4 e4 hx nx => ⟨[.ref a], e4 _ _ hlD, sz_of (by show 1 + 1 ≤ 100000; decide), keep e4, Or.inr (Or.inr ⟨rfl, a, x, upd_same, pol_up (ha.ex e4) ⟨_, e4 _ _ hlD⟩, pol_up hx ⟨_, e4 _ _ hlD⟩⟩)⟩
        · exact absurd z (by decide)
      | i + 2, hi => simp at hi
    · obtain ⟨X, p2'⟩ := p
      rcases p2' with ⟨z, _⟩ | ⟨z, _⟩ | ⟨_, a, b, hlD, ha, hb⟩
      · exact absurd z (by show ¬ 2 = 0; decide)
      · exact absurd z (by show ¬ 2 = 1; decide)
      · refine s_retT ?_
        have ixr : ∀ {HH : Hp} {j : Nat} {v : V}, Ex H' HH → ([V.ref a, V.ref b] : List V)[j]? = some v → Ev (tOp (rIxL K) (tVar 2) (tC (.int (j : Int)))) [some (.int n), some (.ref l), some (.ref Dl), none, none, none] HH v := fun eH h2 => ev_op (ev_var rfl) ev_c (rv_ixL (sq_of (eH _ _ hlD)) (atI_nat h2))
        refine (ea_cons (ev_var rfl) (ea_cons (ixr (j := 0) (Ex.refl H') rfl) (ea_cons (ixr (j := 1) (Ex.refl H') rfl) ea_nil))) H' (Ex.refl H') _ fun H2 x2 => set_go (K := K) (CS := CS) (CP := CP) (H := H2) (Q := Q) (ps := [a, b]) n1 n2 (by show 2 ≤ 2; decide) (fun p hp => ?_) fun x p r H6 _ ex s po => ?_
        · rcases List.mem_cons.mp hp with rfl | z
          · exact ⟨_, _, _, ha.ex x2⟩
          · rw [List.mem_singleton.mp z]
            exact ⟨_, _, _, hb.ex x2⟩
        · obtain ⟨rfl, rfl⟩ := (show p = a ∧ r = b from po)
          exact k x p r H6 ((X.trans x2).trans ex) ⟨s, ha.ex (x2.trans ex), hb.ex (x2.trans ex)⟩
end
end Lw

namespace Lw
open PySem PySem.Spec PyProof.Rows L2 Evl L3 ClX
abbrev sWrites : Stmt := top 40
abbrev sSteps : Stmt := top 41
abbrev sAmount : Stmt := top 39
/-- a length: 1 to 5 times the width -/
def spAmount : Sp := fun vs H Q _ => ∃ (g : Addr) (n : Nat) (wd : Int), vs = [.ref g, .int wd] ∧ BagAt H g (n + 4) ∧ 1 ≤ wd ∧ wd ≤ 100000000000000000 ∧
  ∀ (r : Int) (H' : Hp), 1 ≤ r → r ≤ 5 * wd → Ex (del H g) (del H' g) → BagAt H' g n → Q (.int r) H'
section
variable {P : Program} {w : World} {K : PySem.W.Frag} {mg : Str → Option Value} {base : Heap}
theorem scAm : FnScope ["_law_bag_here", "_law_width", "_law_more"] ["_law_bag_here", "_law_width"] (defScope sAmount) := ⟨rfl, rfl, rfl, by decide +kernel, rfl, by decide +kernel, by decide +kernel⟩
theorem ok_amount {f fT : Addr} {fd fdT : FuncData} (F : Fun K "_law_amount" "_law_amount" sAmount f fd) (T : Txt K mg) (FT : Fun K "_law_take" "_law_take" sTake fT fdT) (bT : Binds K fdT ["_law_bag_here", "_law_many"] []) (gT : mg "_law_take" = some (.ref fT)) :
    FnOk P w K mg base CX0 2 f fd ["_law_bag_here", "_law_width"] spAmount := by
  have GT : FnOk P w K mg base CX0 1 fT fdT ["_law_bag_here", "_law_many"] spTake := ok_take FT T
  refine F.ok scAm (fun vs H Q E h => ?_) (fun cdv A outer s H vs Q E hr h => ?_)
  · obtain ⟨g, n, wd, rfl, _⟩ := h
    rfl
  · obtain ⟨g, n, wd, rfl, bg, w1, w2, k⟩ := h
    refine ⟨_, pss_cons (ps_set (i := 2) scAm.nd rfl (Or.inl rfl) (pe_op op_add pe_int (pe_call GT hr rfl gT FT.kp bT .nil pass0 (pa_cons (pv 0) (pa_cons (pv 1) pa_nil)))))
      (pss_one (ps_ret (pe_ix ix_list (pe_lst (pa_cons (pv 2) (pa_cons (pv 2) (pa_cons (pe_op op_mul (pv 1) (pe_op op_add pe_int (pe_call GT hr rfl gT FT.kp bT .nil pass0 (pa_cons (pv 0) (pa_cons pe_int pa_nil)))))
        (pa_cons (pe_op op_add (pe_op op_mul (pv 1) (pe_call GT hr rfl gT FT.kp bT .nil pass0 (pa_cons (pv 0) (pa_cons pe_int pa_nil)))) (pv 2)) pa_nil))))) (pe_call GT hr rfl gT FT.kp bT .nil pass0 (pa_cons (pv 0) (pa_cons pe_int pa_nil))) (fun _ _ => rfl)))), ?_⟩
    refine take_go (n := n + 3) (ev_var rfl) (ev_var rfl) bg w1 (by omega) fun r1 H1 r10 r11 x1 b1 => ?_
    refine ⟨_, _, rfl, rfl, ?_⟩
    refine ⟨_, rfl, _, rfl, _, rfl, ?_⟩
    refine take_go (n := n + 2) (ev_var rfl) ev_c b1 (by decide) (by decide) fun r2 H2 r20 r21 x2 b2 => ?_
    refine ⟨_, _, rfl, rfl, _, _, rfl, rfl, Or.inl ⟨by omega, by omega⟩, ?_⟩
    refine ⟨_, rfl, take_go (n := n + 1) (ev_var rfl) ev_c b2 (by decide) (by decide) fun r3 H3 r30 r31 x3 b3 => ?_⟩
    refine ⟨_, _, rfl, rfl, Or.inl ⟨by omega, by omega⟩, _, rfl, _, _, rfl, rfl, ?_⟩
    refine ⟨by show 4 ≤ sizeLine; decide, fun p hp => ?_⟩
    have npg : p ≠ g := bag_ne b3 hp
    refine take_go (n := n) (ev_var rfl) ev_c (b3.ex (Ex.new hp)) (by decide) (by decide) fun r4 H4 r40 r41 x4 b4 => ?_
    have h4 := del_at x4 (upd_same (H := H3) (a := p) (o := .lst [.int (1 + r1), .int (1 + r1), .int (wd * (1 + r2)), .int (wd * r3 + (1 + r1))])) npg
    obtain ⟨v, hv, hm⟩ := atI_mem (xs := [.int (1 + r1), .int (1 + r1), .int (wd * (1 + r2)), .int (wd * r3 + (1 + r1))]) (r := r4) r40 (by show r4 < 4; omega)
    refine ⟨p, _, r4, v, rfl, rfl, sq_of h4, hv, ?_⟩
    have xx : Ex (del H g) (del H4 g) := ((x1.trans x2).trans x3).trans ((ex_del (Ex.new hp)).trans x4)
    have m2 : wd * (1 + r2) ≤ wd * 4 := Int.mul_le_mul_of_nonneg_left (by omega) (by omega)
    have m2' : wd * 1 ≤ wd * (1 + r2) := Int.mul_le_mul_of_nonneg_left (by omega) (by omega)
    have m3 : wd * r3 ≤ wd * 3 := Int.mul_le_mul_of_nonneg_left (by omega) (by omega)
    have m3' : 0 ≤ wd * r3 := Int.mul_nonneg (by omega) r30
    have fin : ∃ z, v = .int z ∧ 1 ≤ z ∧ z ≤ 5 * wd := by
      simp only [List.mem_cons, List.not_mem_nil, or_false] at hm
      rcases hm with rfl | rfl | rfl | rfl
      · exact ⟨_, rfl, by omega, by omega⟩
      · exact ⟨_, rfl, by omega, by omega⟩
      · exact ⟨_, rfl, by omega, by omega⟩
      · exact ⟨_, rfl, by omega, by omega⟩
    obtain ⟨z, rfl, z1, z2⟩ := fin
    exact k z H4 z1 z2 xx b4
end
def del2 (H : Hp) (g p : Addr) : Hp := del (del H g) p
theorem ex2 {H H1 : Hp} {g p : Addr} (e : Ex H H1) : Ex (del2 H g p) (del2 H1 g p) := ex_del (ex_del e)
theorem ex2g {H H1 : Hp} {g p : Addr} (e : Ex (del H g) (del H1 g)) : Ex (del2 H g p) (del2 H1 g p) := ex_del e
theorem del2_upd {H : Hp} {g p : Addr} {o : HO} : del2 (upd H p o) g p = del2 H g p := by
  funext b
  unfold del2
  by_cases c : b = p
  · rw [c, del_same, del_same]
  · rw [del_ne c, del_ne c]
    by_cases c2 : b = g
    · rw [c2, del_same, del_same]
    · rw [del_ne c2, del_ne c2, upd_ne c]
theorem ex2_self {H : Hp} {g p : Addr} : Ex (del2 H g p) H := (ex_del_self).trans ex_del_self
theorem ex2_g {H : Hp} {g p : Addr} : Ex (del2 H g p) (del H g) := ex_del_self
theorem at2 {H : Hp} {g p b : Addr} {o : HO} (h : H b = some o) (n1 : b ≠ g) (n2 : b ≠ p) : (del2 H g p) b = some o := by
  unfold del2
  rw [del_ne n2, del_ne n1]
  exact h
/-- a drawn write: small -/
def okS (wd : Int) (w : Wr) : Prop := Lo.okW w = true ∧ w.2.1 ≤ 5 * wd
/-- many drawn writes -/
def spWrites (K : PySem.W.Frag) : Sp := fun vs H Q _ => ∃ (g : Addr) (n m : Nat) (wd : Int), vs = [.ref g, .int wd, .int (m : Int)] ∧ BagAt H g (n + 1 + 6 * m) ∧ 1 ≤ wd ∧ wd ≤ 100000000000000000 ∧ m ≤ 1000 ∧
  ∀ (p : Addr) (xs : List V) (ws : List Wr) (H' : Hp), ws.length = m → (∀ w ∈ ws, okS wd w) → H p = none → p ≠ g → Ex (del H g) (del2 H' g p) → H' p = some (.lst xs) → DpAll K (del2 H' g p) xs (ws.map wD) → BagAt H' g n → Q (.ref p) H'
section
variable {P : Program} {w : World} {K : PySem.W.Frag} {mg : Str → Option Value} {base : Heap}
theorem scWr : FnScope ["_law_bag_here", "_law_width", "_law_many", "_law_found", "_law_who", "_law_at", "_law_word"] ["_law_bag_here", "_law_width", "_law_many"] (defScope sWrites) := ⟨rfl, rfl, rfl, by decide +kernel, rfl, by decide +kernel, by decide +kernel⟩
theorem ok_writes {f fT fA : Addr} {fd fdT fdA : FuncData} (F : Fun K "_law_writes" "_law_writes" sWrites f fd) (T : Txt K mg) (FT : Fun K "_law_take" "_law_take" sTake fT fdT) (bT : Binds K fdT ["_law_bag_here", "_law_many"] []) (gT : mg "_law_take" = some (.ref fT))
    (FA : Fun K "_law_amount" "_law_amount" sAmount fA fdA) (bA : Binds K fdA ["_law_bag_here", "_law_width"] []) (gA : mg "_law_amount" = some (.ref fA)) :
    FnOk P w K mg base CX0 3 f fd ["_law_bag_here", "_law_width", "_law_many"] (spWrites K) := by
  have GT : FnOk P w K mg base CX0 1 fT fdT ["_law_bag_here", "_law_many"] spTake := ok_take FT T
  have GA : FnOk P w K mg base CX0 2 fA fdA ["_law_bag_here", "_law_width"] spAmount := ok_amount FA T FT bT gT
  refine F.ok scWr (fun vs H Q E h => ?_) (fun cdv A outer s H vs Q E hr h => ?_)
  · obtain ⟨g, n, m, wd, rfl, _⟩ := h
    rfl
  · obtain ⟨g, n, m, wd, rfl, bg, w1, w2, hm, k⟩ := h
    have hr1 : Room 1 _ := hr.mono (by decide)
    refine ⟨_, pss_cons (ps_par (i := 3) (j := 4) rfl scWr.nd rfl rfl (by decide) rfl rfl (pa_cons (pe_lst pa_nil) (pa_cons (pe_call GT hr1 rfl gT FT.kp bT .nil pass0 (pa_cons (pv 0) (pa_cons pe_int pa_nil))) pa_nil)) (by rfl))
      (pss_cons (ps_for PassesOwn.never rfl (pi_range1 rfl T.range (pa_cons (pv 2) pa_nil)) (pg_name (i := 5) scWr.nd rfl (Or.inl rfl))
        (pss_cut (ps_if (pt_cmpR op_eq (pe_call GT hr1 rfl gT FT.kp bT .nil pass0 (pa_cons (pv 0) (pa_cons pe_int pa_nil))) pe_int (nomark _)) (pss_one (ps_set (i := 4) scWr.nd rfl (Or.inl rfl) (pe_op op_sub pe_int (pv 4)))) pss_nil)
        (pss_cons (ps_set (i := 6) scWr.nd rfl (Or.inl rfl) (pe_ix ix_list (pe_lst (pa_cons pe_str (pa_cons pe_str (pa_cons pe_str (pa_cons pe_str (pa_cons pe_str (pa_cons pe_str pa_nil))))))) (pe_call GT hr1 rfl gT FT.kp bT .nil pass0 (pa_cons (pv 0) (pa_cons pe_int pa_nil))) (fun _ _ => rfl)))
        (pss_one (ps_expr (pe_bm PySem.F.plainAttrs_list PySem.F.slot_list_append PySem.F.type_list_append mt_append (pv 3) (pa_cons (pe_tup (pa_cons (pv 4) (pa_cons (pe_call GA hr rfl gA FA.kp bA .nil pass0 (pa_cons (pv 0) (pa_cons (pv 1) pa_nil))) (pa_cons (pv 6) pa_nil)))) pa_nil)))))))
      (pss_one (ps_ret (pv 3)))), ?_⟩
    refine ⟨Nat.zero_le _, fun p hp => ?_⟩
    have npg : p ≠ g := bag_ne bg hp
    refine take_go (n := n + 6 * m) (ev_var rfl) ev_c ((bg.less (by omega)).ex (Ex.new hp)) (by decide) (by decide) fun r H1 r0 r1 x1 b1 => ?_
    have hp1 : H1 p = some (.lst []) := del_at x1 upd_same npg
    refine ⟨_, _, rfl, ?_⟩
    have ex1 : Ex (del H g) (del2 H1 g p) := by
      have z : Ex (del H g) (del2 (upd H p (.lst [])) g p) := by
        rw [del2_upd]
        exact ex_beside (Ex.refl _) (by rw [del_ne npg]; exact hp)
      exact z.trans (ex2g x1)
    refine q_forR1 (ea_cons (ev_var rfl) ea_nil) (by omega) (fun i σ' H' => ∃ (who : Int) (o5 o6 : Option V) (ws : List Wr) (xs : List V), σ' = [some (.ref g), some (.int wd), some (.int (m : Int)), some (.ref p), some (.int who), o5, o6] ∧ (who = 0 ∨ who = 1) ∧ ws.length = i ∧ (∀ w ∈ ws, okS wd w) ∧
        Ex (del H g) (del2 H' g p) ∧ H' p = some (.lst xs) ∧ DpAll K (del2 H' g p) xs (ws.map wD) ∧ BagAt H' g (n + 6 * (m - i)))
      (fun H2 e2 => ⟨r, none, none, [], [], rfl, by omega, rfl, (fun _ z => nomatch z), ex1.trans (ex2 e2), e2 p _ hp1, .nil, (b1.ex e2).less (by omega)⟩) ?_ ?_
    · rintro i σ' H' hi ⟨who, o5, o6, ws, xs, rfl, hwho, hlen, hok, ex, hxs, hda, bgi⟩
      have him : i < m := by omega
      refine ⟨fun σ4 H4 => ∃ who', (who' = 0 ∨ who' = 1) ∧ σ4 = [some (.ref g), some (.int wd), some (.int (m : Int)), some (.ref p), some (.int who'), some (.int (i : Int)), o6] ∧ Ex (del H' g) (del H4 g) ∧ BagAt H4 g (n + 6 * (m - i) - 1), ?_, ?_⟩
      · refine take_go (n := n + 6 * (m - i) - 1) (ev_var rfl) ev_c (bgi.less (by omega)) (by decide) (by decide) fun r3 H3 r30 r31 x3 b3 => ?_
        refine ⟨rfl, _, rfl, ?_⟩
        refine ite2 (fun _ => ?_) (fun _ => ?_)
        · refine s_asg (ev_op ev_c (ev_var rfl) rv_I0) fun H4 e4 => ⟨1 - who, by omega, rfl, x3.trans (ex_del e4), b3.ex e4⟩
        · exact ⟨who, hwho, rfl, x3, b3⟩
      · rintro σ4 H4 ⟨who', hw', rfl, x4, b4⟩
        have hx4 : H4 p = some (.lst xs) := del_at x4 hxs npg
        refine ⟨by show 6 ≤ sizeLine; decide, fun q hq => ?_⟩
        have nqg : q ≠ g := bag_ne b4 hq
        have nqp : q ≠ p := fun z => by
          rw [z, hx4] at hq
          cases hq
        refine take_go (n := n + 6 * (m - i) - 2) (ev_var rfl) ev_c ((b4.less (by omega)).ex (Ex.new hq)) (by decide) (by decide) fun r5 H5 r50 r51 x5 b5 => ?_
        have hq5 := del_at x5 (upd_same (H := H4) (a := q) (o := .lst [.str "plain", .str "plain", .str "plain", .str "push", .str "more", .str "plain"])) nqg
        obtain ⟨v, hv, hmem⟩ := atI_mem (xs := [.str "plain", .str "plain", .str "plain", .str "push", .str "more", .str "plain"]) (r := r5) r50 (by show r5 < 6; omega)
        refine ⟨q, _, r5, v, rfl, rfl, sq_of hq5, hv, ?_⟩
        obtain ⟨sv, rfl, hmode⟩ : ∃ sv : Str, v = .str sv ∧ Lo.modeD (.str sv) = true := by
          simp only [List.mem_cons, List.not_mem_nil, or_false] at hmem
          rcases hmem with rfl | rfl | rfl | rfl | rfl | rfl
          · exact ⟨_, rfl, by decide +kernel⟩
          · exact ⟨_, rfl, by decide +kernel⟩
          · exact ⟨_, rfl, by decide +kernel⟩
          · exact ⟨_, rfl, by decide +kernel⟩
          · exact ⟨_, rfl, by decide +kernel⟩
          · exact ⟨_, rfl, by decide +kernel⟩
        have x45 : Ex (del H4 g) (del H5 g) := (ex_del (Ex.new hq)).trans x5
        have hx5 : H5 p = some (.lst xs) := del_at x45 hx4 npg
        refine ⟨_, rfl, Or.inl ⟨rfl, _, sq_of hx5⟩, ?_⟩
        refine ⟨_, rfl, _, rfl, _, rfl, g, n + 6 * (m - i) - 6, wd, rfl, b5.less (by omega), w1, w2, fun r6 H6 r60 r61 x6 b6 => ?_⟩
        refine ⟨_, rfl, by show 3 ≤ sizeLine; decide, fun t ht => ?_⟩
        have hx6 : H6 p = some (.lst xs) := del_at x6 hx5 npg
        have ntg : t ≠ g := bag_ne b6 ht
        have ntp : t ≠ p := fun z => by
          rw [z, hx6] at ht
          cases ht
        have hlx : xs.length = i := by rw [dps_len' hda, List.length_map, hlen]
        refine ⟨p, xs, .ref t, rfl, rfl, by rw [upd_ne ntp.symm]; exact hx6, sz_lt (by omega), ?_⟩
        have chain : Ex (del2 H' g p) (del2 (upd H6 t (.tup [.int who', .int r6, .str sv])) g p) := ex2g (((x4.trans x45).trans x6).trans (ex_del (Ex.new ht)))
        refine ⟨who', _, _, ws ++ [(who', r6, sv)], xs ++ [.ref t], rfl, hw', by rw [List.length_append, hlen]; rfl, ?_, ?_, upd_same, ?_, ?_⟩
        · intro x hx
          rcases List.mem_append.mp hx with z | z
          · exact hok x z
          · have e : x = (who', r6, sv) := by simpa using z
            rw [e]
            refine ⟨?_, r61⟩
            show (Lo.betwD (.int who') 0 1 && (Lo.betwD (.int r6) 1 1000000000000000000 && Lo.modeD (.str sv))) = true
            rw [hmode]
            have q1 : Lo.betwD (.int who') 0 1 = true := by
              rcases hw' with z | z <;> rw [z] <;> rfl
            have q2 : Lo.betwD (.int r6) 1 1000000000000000000 = true := by
              show (decide (1 ≤ r6) && decide (r6 ≤ 1000000000000000000)) = true
              rw [decide_eq_true r60, decide_eq_true (by omega : r6 ≤ 1000000000000000000)] <;> rfl
            rw [q1, q2] <;> rfl
        · rw [del2_upd]
          exact ex.trans chain
        · rw [del2_upd, List.map_append]
          refine dps_snoc (dps_ex chain hda) ?_
          exact .tup (st_of (at2 upd_same ntg ntp)) (.cons (.int _) (.cons (.int _) (.cons (.str _) .nil)))
        · obtain ⟨bd, bs, bc, c1, c2⟩ := b6.less (m := n + 6 * (m - (i + 1))) (by omega)
          exact ⟨bd, bs, bc, by rw [upd_ne npg.symm, upd_ne ntg.symm]; exact c1, c2⟩
    · rintro σ' H' ⟨who, o5, o6, ws, xs, rfl, hwho, hlen, hok, ex, hxs, hda, bgi⟩
      refine s_ret (ev_var rfl) fun H2 e2 => ?_
      exact k p xs ws H2 (by simpa using hlen) hok hp npg (ex.trans (ex2 e2)) (e2 p _ hxs) (dps_ex (ex2 e2) hda) ((bgi.ex e2).less (by omega))
end
/-- a drawn order: it may stand -/
def StepsOk (ws : List Wr) (L : List Int) : Prop := L.length = ws.length ∧ ∀ (j : Nat) (l : Int), L[j]? = some l → 0 ≤ l ∧ l ≤ (if isSt ws j then 0 else 2)
def spSteps (K : PySem.W.Frag) : Sp := fun vs H Q _ => ∃ (g c : Addr) (n : Nat) (ws : List Wr), vs = [.ref g, .ref c] ∧ Dp K (del H g) (.ref c) (cD ws) ∧ BagAt H g (n + 2 * ws.length) ∧ ws.length ≤ 200 ∧
  ∀ (p : Addr) (L : List Int) (H' : Hp), StepsOk ws L → H p = none → p ≠ g → Ex (del H g) (del2 H' g p) → H' p = some (.lst (L.map V.int)) → BagAt H' g n → Q (.ref p) H'
section
variable {P : Program} {w : World} {K : PySem.W.Frag} {mg : Str → Option Value} {base : Heap}
theorem scSt : FnScope ["_law_bag_here", "_law_writes_here", "_law_found", "_law_at", "_law_is_first"] ["_law_bag_here", "_law_writes_here"] (defScope sSteps) := ⟨rfl, rfl, rfl, by decide +kernel, rfl, by decide +kernel, by decide +kernel⟩
theorem ok_steps {f fT : Addr} {fd fdT : FuncData} (F : Fun K "_law_steps" "_law_steps" sSteps f fd) (T : Txt K mg) (FT : Fun K "_law_take" "_law_take" sTake fT fdT) (bT : Binds K fdT ["_law_bag_here", "_law_many"] []) (gT : mg "_law_take" = some (.ref fT)) :
    FnOk P w K mg base CX0 2 f fd ["_law_bag_here", "_law_writes_here"] (spSteps K) := by
  have GT : FnOk P w K mg base CX0 1 fT fdT ["_law_bag_here", "_law_many"] spTake := ok_take FT T
  refine F.ok scSt (fun vs H Q E h => ?_) (fun cdv A outer s H vs Q E hr h => ?_)
  · obtain ⟨g, c, n, ws, rfl, _⟩ := h
    rfl
  · obtain ⟨g, c, n, ws, rfl, hd, bg, hm, k⟩ := h
    refine ⟨_, pss_cons (ps_set (i := 2) scSt.nd rfl (Or.inl rfl) (pe_lst pa_nil))
      (pss_cons (ps_for PassesOwn.never rfl (pi_range1 rfl T.range (pa_cons (pe_callB call_len_seq (by rfl) T.len PySem.boot_len (pa_cons (pv 1) pa_nil)) pa_nil)) (pg_name (i := 3) scSt.nd rfl (Or.inl rfl))
        (pss_cons (ps_set (i := 4) scSt.nd rfl (Or.inl rfl) (pe_or (pe_cmpR op_eq (pv 3) pe_int (nomark _)) (pe_one (pe_cmpR op_ne (pe_ix ix_tup (pe_ix ix_list (pv 1) (pe_op op_sub (pv 3) pe_int) (fun _ _ => rfl)) pe_int (fun _ _ => rfl))
            (pe_ix ix_tup (pe_ix ix_list (pv 1) (pv 3) (fun _ _ => rfl)) pe_int (fun _ _ => rfl)) (nomark _)))))
        (pss_one (ps_expr (pe_bm PySem.F.plainAttrs_list PySem.F.slot_list_append PySem.F.type_list_append mt_append (pv 2) (pa_cons (pe_op op_mul
          (pe_ix ix_list (pe_lst (pa_cons (pe_op op_add pe_int (pe_call GT hr rfl gT FT.kp bT .nil pass0 (pa_cons (pv 0) (pa_cons pe_int pa_nil)))) (pa_cons pe_int (pa_cons pe_int pa_nil)))) (pe_call GT hr rfl gT FT.kp bT .nil pass0 (pa_cons (pv 0) (pa_cons pe_int pa_nil))) (fun _ _ => rfl))
          (pe_callTy call_int1 (by rfl) T.int PyProof.Rows.boot_int (pa_cons (pe_not (pv 4)) pa_nil))) pa_nil))))))
      (pss_one (ps_ret (pv 2)))), ?_⟩
    obtain ⟨xs0, hs, ha⟩ : ∃ xs, SqL K (del H g) c xs ∧ DpAll K (del H g) xs (ws.map wD) := by
      cases hd with
      | lst hs ha => exact ⟨_, hs, ha⟩
    have hl0 : xs0.length = ws.length := by rw [dps_len' ha, List.length_map]
    have evlen : Ev (tCB (rLenS K) (tCons (tVar 1) tNil)) (start ["_law_bag_here", "_law_writes_here", "_law_found", "_law_at", "_law_is_first"] [V.ref g, V.ref c]) H (.int (ws.length : Int)) := by
      rw [← hl0]
      exact ev_len (ev_var rfl) (ex_l ex_del_self hs)
    refine q_asgL (el_lst ea_nil (by show 0 ≤ 100000; decide)) fun p H1 hp e1 h1 => ?_
    have npg : p ≠ g := bag_ne bg hp
    have evlen1 : Ev (tCB (rLenS K) (tCons (tVar 1) tNil)) ((start ["_law_bag_here", "_law_writes_here", "_law_found", "_law_at", "_law_is_first"] [V.ref g, V.ref c]).set 2 (some (.ref p))) H1 (.int (ws.length : Int)) := by
      rw [← hl0]
      exact ev_len (ev_var rfl) (ex_l (ex_del_self.trans e1) hs)
    refine q_forR1 (ea_cons evlen1 ea_nil) (by omega) (fun i σ' H' => ∃ (o3 o4 : Option V) (L : List Int), σ' = [some (.ref g), some (.ref c), some (.ref p), o3, o4] ∧ L.length = i ∧ (∀ (j : Nat) (l : Int), L[j]? = some l → 0 ≤ l ∧ l ≤ (if isSt ws j then 0 else 2)) ∧
        Ex (del H g) (del2 H' g p) ∧ H' p = some (.lst (L.map V.int)) ∧ BagAt H' g (n + 2 * (ws.length - i)))
      (fun H2 e2 => ⟨none, none, [], rfl, rfl, (fun j l z => by simp at z), (ex_beside (ex_del (e1.trans e2)) (by rw [del_ne npg]; exact hp)), e2 p _ h1, (bg.ex (e1.trans e2)).less (by omega)⟩) ?_ ?_
    · rintro i σ' H' hi ⟨o3, o4, L, rfl, hlen, hok, ex, hxs, bgi⟩
      have him : i < ws.length := by omega
      have eg : Ex (del H g) H' := ex.trans ex2_self
      obtain ⟨t1, w1, q1, x1, s1⟩ := wr_at ha (j := i) him
      have sp1 : w1.1 = spk ws i := (spk_of q1).symm
      refine q_asg (v := .bl (decide (isSt ws i))) ?_ fun H2 e2 => ?_
      · refine ev_is (ev_orV (a := decide (i = 0)) (b := decide (spk ws (i - 1) ≠ spk ws i)) (ev_is (ev_op (ev_var rfl) ev_c (rv_eq rfl)) ?_) fun hz => ?_) ?_
        · refine congrArg V.bl (decide_eq_decide.mpr ⟨fun z => by injection z with z; omega, fun z => by rw [z] <;> rfl⟩)
        · have hi0 : ¬ i = 0 := of_decide_eq_false hz
          obtain ⟨t2, w2, q2, x2, s2⟩ := wr_at ha (j := i - 1) (by omega)
          have sp2 : w2.1 = spk ws (i - 1) := (spk_of q2).symm
          have ei : (i : Int) - 1 = ((i - 1 : Nat) : Int) := by omega
          refine ev_is (ev_op (ev_op (ev_op (ev_var rfl) (ev_is (ev_op (ev_var rfl) ev_c rv_I0) (congrArg V.int ei)) (rv_ixL (ex_l eg hs) (atI_nat x2))) ev_c (rv_ixT (ex_t eg s2) (atI_nat (j := 0) rfl)))
            (ev_op (ev_op (ev_var rfl) (ev_var rfl) (rv_ixL (ex_l eg hs) (atI_nat x1))) ev_c (rv_ixT (ex_t eg s1) (atI_nat (j := 0) rfl))) (rv_ne rfl)) ?_
          rw [sp1, sp2]
          by_cases c2 : spk ws (i - 1) = spk ws i
          · rw [c2, decide_eq_true rfl, decide_eq_false (fun z => z rfl)] <;> rfl
          · rw [decide_eq_true c2, decide_eq_false (fun z => c2 (by injection z))] <;> rfl
        · refine congrArg V.bl ?_
          by_cases c1 : i = 0
          · rw [decide_eq_true c1, decide_eq_true (show isSt ws i from Or.inl c1)] <;> rfl
          · rw [decide_eq_false c1, Bool.false_or]
            exact decide_eq_decide.mpr ⟨Or.inr, fun z => z.resolve_left c1⟩
      have hx2 : H2 p = some (.lst (L.map V.int)) := e2 p _ hxs
      refine ⟨_, rfl, Or.inl ⟨rfl, _, sq_of hx2⟩, ?_⟩
      refine take_go (n := n + 2 * (ws.length - i) - 1) (ev_var rfl) ev_c ((bgi.ex e2).less (by omega)) (by decide) (by decide) fun r3 H3 r30 r31 x3 b3 => ?_
      refine ⟨_, _, rfl, rfl, ?_⟩
      refine ⟨by show 3 ≤ sizeLine; decide, fun q hq => ?_⟩
      have nqg : q ≠ g := bag_ne b3 hq
      refine take_go (n := n + 2 * (ws.length - i) - 2) (ev_var rfl) ev_c ((b3.less (by omega)).ex (Ex.new hq)) (by decide) (by decide) fun r4 H4 r40 r41 x4 b4 => ?_
      have hq4 := del_at x4 (upd_same (H := H3) (a := q) (o := .lst [.int (1 + r3), .int 0, .int 2])) nqg
      obtain ⟨v, hv, hmem⟩ := atI_mem (xs := [.int (1 + r3), .int 0, .int 2]) (r := r4) r40 (by show r4 < 3; omega)
      obtain ⟨z, rfl, z1, z2⟩ : ∃ z, v = .int z ∧ 0 ≤ z ∧ z ≤ 2 := by
        simp only [List.mem_cons, List.not_mem_nil, or_false] at hmem
        rcases hmem with rfl | rfl | rfl
        · exact ⟨_, rfl, by omega, by omega⟩
        · exact ⟨_, rfl, by omega, by omega⟩
        · exact ⟨_, rfl, by omega, by omega⟩
      refine ⟨q, _, r4, _, rfl, rfl, sq_of hq4, hv, ?_⟩
      refine ⟨_, rfl, _, rfl, ?_⟩
      refine Or.inr ⟨!decide (isSt ws i), rfl, ?_⟩
      refine ⟨_, _, rfl, rfl, Or.inl ⟨by omega, by omega⟩, ?_⟩
      have x34 : Ex (del H2 g) (del H4 g) := x3.trans ((ex_del (Ex.new hq)).trans x4)
      have hx4 : H4 p = some (.lst (L.map V.int)) := del_at x34 hx2 npg
      refine ⟨p, _, _, rfl, rfl, hx4, sz_lt (by rw [List.length_map]; omega), ?_⟩
      obtain ⟨y, hy⟩ : ∃ y : Int, y = z * (if (!decide (isSt ws i)) = true then 1 else 0) := ⟨_, rfl⟩
      have hy1 : 0 ≤ y ∧ y ≤ (if isSt ws i then 0 else 2) := by
        rw [hy]
        by_cases cs : isSt ws i
        · rw [decide_eq_true cs, if_pos cs]
          show 0 ≤ z * 0 ∧ z * 0 ≤ 0
          omega
        · rw [decide_eq_false cs, if_neg cs]
          show 0 ≤ z * 1 ∧ z * 1 ≤ 2
          omega
      refine ⟨_, _, L ++ [y], rfl, by rw [List.length_append, hlen]; rfl, ?_, ?_, ?_, ?_⟩
      · intro j l hj
        by_cases cj : j < L.length
        · rw [List.getElem?_append_left cj] at hj
          exact hok j l hj
        · have ej : j = i := by
            have z := (List.getElem?_eq_some_iff.mp hj).1
            rw [List.length_append, List.length_singleton] at z
            omega
          rw [ej, List.getElem?_append_right (by omega), hlen, Nat.sub_self] at hj
          have el : y = l := by simpa using hj
          rw [← el, ej]
          exact hy1
      · rw [del2_upd]
        exact (ex.trans (ex2 e2)).trans (ex2g x34)
      · rw [upd_same, hy, List.map_append] <;> rfl
      · obtain ⟨bd, bs, bc, c1, c2⟩ := b4.less (m := n + 2 * (ws.length - (i + 1))) (by omega)
        exact ⟨bd, bs, bc, by rw [upd_ne npg.symm]; exact c1, c2⟩
    · rintro σ' H' ⟨o3, o4, L, rfl, hlen, hok, ex, hxs, bgi⟩
      refine s_ret (ev_var rfl) fun H2 e2 => ?_
      exact k p L H2 ⟨by simpa using hlen, hok⟩ hp npg (ex.trans (ex2 e2)) (e2 p _ hxs) ((bgi.ex e2).less (by omega))
end
end Lw

namespace L3
open PySem PySem.Spec PyProof.Rows L2 Evl StX
/-! ### def m(self, *, p=.., **rest) called with keywords -/
theorem push_update (h : Heap) (f : Obj → Obj) (o : Obj) : (h.push o).update h.objs.size f = h.push (f o) := by
  obtain ⟨objs, life⟩ := h
  simp only [Heap.update, Heap.push, Heap.mk.injEq, and_true]
  apply Array.ext_getElem?
  intro i
  simp only [Array.getElem?_modify, Array.getElem?_push]
  by_cases h1 : objs.size = i
  · subst h1
    simp
  · have h2 : i ≠ objs.size := fun z => h1 z.symm
    simp [h1, h2]
section
variable {prog : Program} {w : World} {A : Around} {E : Value → Shared → Prop} {h0 : Heap}
theorem kw_set {s : Shared} {es : List DictEntry} {n : Nat} {k : Str} {v : Value} {Q : Unit → Shared → Prop} (D : s.heap = h0.push (PySem.W.dictOf es n)) (hs : ∀ e ∈ es, e.key.isStr k = false) (hr : ∀ e ∈ es, e.refKey = false)
    (h : Q () { s with heap := h0.push (PySem.W.dictOf (es ++ [⟨PyData.keyHash w.params k, .str k s.toks, v⟩]) (n + 1)), toks := s.toks + 1 }) :
    wpAny (model prog w) A (nsSet h0.objs.size k v) Q E s := by
  have e1 : es.any (·.key.isStr k) = false := by
    cases q : es.any (·.key.isStr k) with
    | false => rfl
    | true => obtain ⟨e, he, z⟩ := List.any_eq_true.mp q; rw [hs e he] at z; cases z
  have e2 : es.any (·.refKey) = false := by
    cases q : es.any (·.refKey) with
    | false => rfl
    | true => obtain ⟨e, he, z⟩ := List.any_eq_true.mp q; rw [hr e he] at z; cases z
  have e : Obj.putName k (PyData.keyHash w.params k) (.str k s.toks) v (PySem.W.dictOf es n) = PySem.W.dictOf (es ++ [⟨PyData.keyHash w.params k, .str k s.toks, v⟩]) (n + 1) := by
    rw [PySem.W.putName_dict, PySem.W.putL_new hs]
    show PySem.W.dictOf _ (if es.any (·.key.isStr k) then n else n + 1) = _
    rw [e1, if_neg Bool.false_ne_true]
  have g : s.heap.get? h0.objs.size = some (PySem.W.dictOf es n) := by
    rw [D]
    exact Heap.get?_push_size _ rfl
  have c : aRefKeyMayBeTheName k es.toArray = false := by
    rw [aRefKeyMayBeTheName_at, ← Array.any_toList, ← Array.any_toList]
    show (!es.any (·.key.isStr k) && es.any (·.refKey)) = false
    rw [e2, Bool.and_false]
  unfold nsSet
  refine wpAny_bind (wpAny_bind (wpAny_askSetting (wpAny_pure (wpAny_bind (wpAny_mkText (wpAny_bind (wpAny_loadPart g ?_)))))))
  dsimp only
  rw [c]
  refine wpAny_updatePart g ?_
  show Q () { s with heap := s.heap.update h0.objs.size (Obj.putName k (PyData.keyHash w.params k) (.str k s.toks) v), toks := s.toks + 1 }
  rw [D, push_update, e]
  exact h
theorem kw_fill {Q : PUnit → Shared → Prop} : ∀ (ex : List (Str × Value)) (s : Shared) (es : List DictEntry) (n : Nat), s.heap = h0.push (PySem.W.dictOf es n) → (∀ e ∈ es, ∀ x ∈ ex, e.key.isStr x.1 = false) → (∀ e ∈ es, e.refKey = false) → (ex.map (·.1)).Nodup →
    Q ⟨⟩ { s with heap := h0.push (PySem.W.dictOf (es ++ PySem.W.kwEs w.params s.toks ex) (n + ex.length)), toks := s.toks + ex.length } →
    wpAny (model prog w) A (forIn ex PUnit.unit fun x _ => (nsSet h0.objs.size x.1 x.2 >>= fun _ => pure (ForInStep.yield PUnit.unit))) Q E s
  | [], s, es, n, D, _, _, _, h => by
    rw [List.forIn_nil]
    refine wpAny_pure ?_
    have h : Q ⟨⟩ { s with heap := h0.push (PySem.W.dictOf (es ++ []) n), toks := s.toks } := h
    rw [List.append_nil, ← D] at h
    exact h
  | x :: r, s, es, n, D, hs, hr, hn, h => by
    obtain ⟨hn1, hn2⟩ := List.nodup_cons.mp (show (x.1 :: r.map (·.1)).Nodup from hn)
    rw [List.forIn_cons]
    refine wpAny_bind (wpAny_bind (kw_set D (fun e he => hs e he x (.head _)) hr (wpAny_pure ?_)))
    show wpAny (model prog w) A (forIn r PUnit.unit fun x _ => (nsSet h0.objs.size x.1 x.2 >>= fun _ => pure (ForInStep.yield PUnit.unit))) Q E { s with heap := h0.push (PySem.W.dictOf (es ++ [⟨PyData.keyHash w.params x.1, .str x.1 s.toks, x.2⟩]) (n + 1)), toks := s.toks + 1 }
    refine kw_fill r { s with heap := h0.push (PySem.W.dictOf (es ++ [⟨PyData.keyHash w.params x.1, .str x.1 s.toks, x.2⟩]) (n + 1)), toks := s.toks + 1 } _ _ rfl (fun e he y hy => ?_) (fun e he => ?_) hn2 ?_
    · rcases List.mem_append.mp he with he | he
      · exact hs e he y (.tail _ hy)
      · obtain rfl := List.mem_singleton.mp he
        show (x.1 == y.1) = false
        exact beq_eq_false_iff_ne.mpr fun q => hn1 (by rw [q]; exact List.mem_map_of_mem hy)
    · rcases List.mem_append.mp he with he | he
      · exact hr e he
      · obtain rfl := List.mem_singleton.mp he
        rfl
    · have t1 : s.toks + 1 + r.length = s.toks + (r.length + 1) := by omega
      have t2 : n + 1 + r.length = n + (r.length + 1) := by omega
      have l : es ++ [(⟨PyData.keyHash w.params x.1, .str x.1 s.toks, x.2⟩ : DictEntry)] ++ PySem.W.kwEs w.params (s.toks + 1) r = es ++ PySem.W.kwEs w.params s.toks (x :: r) := by
        rw [List.append_assoc]
        rfl
      show Q ⟨⟩ { s with heap := h0.push (PySem.W.dictOf (es ++ [(⟨PyData.keyHash w.params x.1, .str x.1 s.toks, x.2⟩ : DictEntry)] ++ PySem.W.kwEs w.params (s.toks + 1) r) (n + 1 + r.length)), toks := s.toks + 1 + r.length }
      rw [t1, t2, l]
      exact h
theorem kw_pairs : ∀ (ex : List (Str × Value)) (t : Tok), Pairs (mixKind prog w) (PySem.W.kwEs w.params t ex) (ex.map fun x => (Sum.inr x.1, x.2))
  | [], _ => Pairs.nil
  | x :: r, t => Pairs.cons (mixKind_str prog w x.1 t) rfl (kw_pairs r (t + 1))
theorem nodup_inr : ∀ {l : List Str}, l.Nodup → (l.map (Sum.inr : Str → Key)).Nodup
  | [], _ => List.nodup_nil
  | x :: r, h => by
    obtain ⟨h1, h2⟩ := List.nodup_cons.mp h
    refine List.nodup_cons.mpr ⟨fun hx => ?_, nodup_inr h2⟩
    obtain ⟨y, hy, e⟩ := List.mem_map.mp hx
    injection e with e
    exact h1 (e ▸ hy)
theorem kw_isDict {ex : List (Str × Value)} (t : Tok) (n : Nat) (hn : (ex.map (·.1)).Nodup) : (PySem.W.dictOf (PySem.W.kwEs w.params t ex) n).IsDictOf (mixKind prog w) (ex.map fun x => (Sum.inr x.1, x.2)) :=
  ⟨(PySem.W.kwEs w.params t ex).toArray, n, ⟨rfl, rfl, rfl⟩, rfl, fun e he => by
    obtain ⟨k, u, hk, hh⟩ := PySem.W.kwEs_key ex t e (List.mem_toArray.mp he)
    exact ⟨.inr k, by rw [hk]; exact mixKind_str prog w k u, hh.trans rfl⟩, kw_pairs ex t, by
    have z := nodup_inr hn
    rw [List.map_map] at z ⊢
    exact z⟩
end
/-- the end of the binding: the extra keywords in a new dict -/
def finK (front ex : List (Str × Value)) (nm : Str) : Sem (List (Str × Value)) :=
  (alloc ({ cls := .type "dict", data := .dict #[] } : Obj) : Sem Addr) >>= fun d => (forIn ex PUnit.unit (fun x _ => (nsSet d x.1 x.2 >>= fun _ => pure (ForInStep.yield PUnit.unit))) >>= fun _ => pure (front ++ [(nm, Value.ref d)]))
/-- how a call by the keywords ks binds: one keyword-only parameter p, of the dict D if it lacks -/
def KwB (D : Addr) (p : Str) (dv : Value) (fd : FuncData) (us ws : List Value) (ks : List Str) (front ex : List (Str × Value)) (nm : Str) : Prop :=
  bindArgs fd ⟨us, ks.zip ws⟩ = finK front ex nm ∨
  ∃ (β γ : Type) (k1 : Option Value → Sem β) (k2 : β → Sem γ) (k3 : γ → Sem (List (Str × Value))) (a : β), bindArgs fd ⟨us, ks.zip ws⟩ = ((nsGet D p >>= k1) >>= k2) >>= k3 ∧ k1 (some dv) = pure a ∧ (k2 a >>= k3) = finK front ex nm
/-- the value of the keyword p, the rest of the keywords -/
def pickK {α : Type} (p : Str) (dv : α) (ks : List Str) (ws : List α) : α := ((ks.zip ws).lookup p).getD dv
def restK {α : Type} (p : Str) (ks : List Str) (ws : List α) : List (Str × α) := (ks.zip ws).filter fun x => !(x.1 == p)
def keyK (ex : List (Str × V)) : List (Key × V) := ex.map fun x => (Sum.inr x.1, x.2)
theorem pick_rel {p : Str} {dv : V} {du : Value} (rd : RelV dv du) : ∀ {ks : List Str} {zs : List V} {ws : List Value}, Vals zs ws → RelV (pickK p dv ks zs) (pickK p du ks ws)
  | [], _, _, _ => rd
  | _ :: _, _, _, .nil => rd
  | k :: ks, z :: zs, w :: ws, .cons r t => by
    have z0 := pick_rel (p := p) rd (ks := ks) t
    unfold pickK at z0 ⊢
    show RelV (Option.getD (List.lookup p ((k, z) :: ks.zip zs)) dv) (Option.getD (List.lookup p ((k, w) :: ks.zip ws)) du)
    by_cases h : p = k
    · subst h
      rw [List.lookup_cons_self, List.lookup_cons_self]
      exact r
    · have hb : (p == k) = false := beq_eq_false_iff_ne.mpr h
      rw [List.lookup_cons, List.lookup_cons, hb]
      exact z0
theorem rest_rel {p : Str} : ∀ {ks : List Str} {zs : List V} {ws : List Value}, Vals zs ws → KV (keyK (restK p ks zs)) ((restK p ks ws).map fun x => ((Sum.inr x.1 : Key), x.2))
  | [], _, _, _ => .nil
  | _ :: _, _, _, .nil => .nil
  | k :: ks, z :: zs, w :: ws, .cons r t => by
    have z0 := rest_rel (p := p) (ks := ks) t
    unfold keyK restK at z0 ⊢
    rw [List.zip_cons_cons, List.zip_cons_cons, List.filter_cons, List.filter_cons]
    dsimp only
    split
    · exact .cons ⟨rfl, r⟩ z0
    · exact z0
theorem rest_nodup {α : Type} {p : Str} {ks : List Str} {ws : List α} (h : ks.Nodup) : ((restK p ks ws).map (·.1)).Nodup := by
  have h1 : ((ks.zip ws).map (·.1)).Sublist ks := by
    clear h
    induction ks generalizing ws with
    | nil => exact List.Sublist.refl _
    | cons k ks ih =>
      cases ws with
      | nil => exact List.nil_sublist _
      | cons w ws =>
        rw [List.zip_cons_cons, List.map_cons]
        exact (ih).cons₂ _
  have h2 : ((restK p ks ws).map (·.1)).Sublist ((ks.zip ws).map (·.1)) := (List.filter_sublist).map _
  exact (h2.trans h1).nodup h
theorem rest_len {α : Type} {p : Str} {ks : List Str} {ws : List α} : (restK p ks ws).length ≤ ks.length := by
  refine Nat.le_trans (List.length_filter_le _ _) ?_
  rw [List.length_zip]
  exact Nat.min_le_left _ _
/-- what such a def promises, called by the keywords ks -/
def FnW (P : Program) (w : World) (K : PySem.W.Frag) (mg : Str → Option Value) (base : Heap) (CX : CXT) (k : Nat) (f : Addr) (p : Str) (dv : V) (ks : List Str) (sp : Sp) : Prop :=
  ∀ (A : Around) (outer : List Env) (s : Shared) (H : Hp) (v : V) (u : Value) (zs : List V) (ws : List Value) (Q : VK) (E : XK), Room k A → Env0 P w K mg base A outer s H → RelV v u → Vals zs ws → zs.length = ks.length →
    (∀ d, H d = none → sp [v, pickK p dv ks zs, .ref d] (upd H d (.dK (keyK (restK p ks zs)))) Q E) → codeAny (model P w) A (.call (.ref f) ⟨[u], ks.zip ws⟩) (CR CX outer P w H s Q E) s
section
variable {P : Program} {w : World} {K : PySem.W.Frag} {mg : Str → Option Value} {base : Heap} {CX : CXT} {k : Nat} {f : Addr} {fd : FuncData} {x qual : Str} {params : Arguments} {body : List Stmt} {scope : Scope} {N : List Str} {self p nm : Str} {dv : V} {ks : List Str} {sp : Sp}
theorem fn_kw (F : FunD K x qual params body scope [] [(p, dv)] f fd) (S : FnScope N [self, p, nm] scope) (hCX : CXUp CX)
    (hbody : ∀ (cdv : Value) (A : Around) (outer : List Env) (s : Shared) (H : Hp) (vs : List V) (Q : VK) (E : XK), Room k (A.deeper (envOfC qual scope s.heap.objs.size f cdv)) → sp vs H Q E →
      ∃ t, PSs (cxOf CX P w K mg base N qual scope f cdv A outer s H E) body t ∧ t { nx := fun _ H' => Q .non H', rt := Q } (start N vs) H)
    (hb : ∀ (D : Addr) (doc pm : Value) (an : Option Addr) (cdv ct u du : Value) (ws : List Value), ws.length = ks.length → KwB D p du (PySem.W.fnOf x qual params body scope .none (.ref D) doc pm an cdv ct) [u] ws ks [(self, u), (p, pickK p du ks ws)] (restK p ks ws) nm)
    (hn : ks.Nodup) (hz : ks.length ≤ 1000) : FnW P w K mg base CX (k + 1) f p dv ks sp := by
  intro A outer s H v u zs ws Q E hr e0 rv rz hl hq
  obtain ⟨oc, od, dV, kV, doc, pm, an, cdv, ct, osl, rfl, lk, hcd, hD, hK⟩ := F.ex
  have eD : dV = .none := by
    rcases hD with ⟨_, e⟩ | ⟨e, _⟩
    · exact e
    · exact absurd rfl e
  subst eD
  rcases hK with e | ⟨D, rfl, hq2⟩
  · cases e
  obtain ⟨du, hdu, rdu⟩ := hq2 (p, dv) (List.mem_cons_self ..)
  have KX : K.In s.heap := e0.mod.kin.keeps fun b o e => (e0.bs b o e).1
  have hl2 : ws.length = ks.length := by rw [← rz.length]; exact hl
  have hno : H s.heap.objs.size = Option.none := e0.hok.fresh (Nat.le_refl _)
  refine run_bnd lk hcd S hr e0 (G := fun xs H2 => ∃ d, H d = Option.none ∧ xs = [v, pickK p dv ks zs, .ref d] ∧ H2 = upd H d (.dK (keyK (restK p ks zs)))) (fun A' Ex Q' h => ?_) fun s2 H2 xs ⟨d, hd, ex, eH⟩ hr' => ?_
  · have fin : wpAny (model P w) A' (finK [(self, u), (p, pickK p du ks ws)] (restK p ks ws) nm) Q' Ex s := by
      unfold finK
      refine wpAny_bind (wpAny_alloc ?_)
      refine wpAny_bind (kw_fill (h0 := s.heap) (restK p ks ws) _ [] 0 rfl (fun _ he => nomatch he) (fun _ he => nomatch he) (rest_nodup hn) (wpAny_pure ?_))
      have new : ObjOk P w (upd H s.heap.objs.size (.dK (keyK (restK p ks zs)))) (s.heap.push (PySem.W.dictOf (PySem.W.kwEs w.params s.toks (restK p ks ws)) (0 + (restK p ks ws).length))) s.heap.objs.size (.dK (keyK (restK p ks zs))) := by
        refine ⟨?_, beq_eq_false_iff_ne.mpr (Ne.symm (Nat.ne_of_lt (env0_big e0))), _, rest_rel rz, Heap.dictOf_iff.mpr ⟨_, Heap.get?_push_size _ rfl, kw_isDict _ _ (rest_nodup hn)⟩⟩
        unfold keyK
        rw [List.length_map]
        exact sz_of (Nat.le_trans rest_len (Nat.le_trans hz (by decide)))
      have e1 := env0_laid e0 new
      have un := un_laid (fs := frs outer) (s := s) (o := PySem.W.dictOf (PySem.W.kwEs w.params s.toks (restK p ks ws)) (0 + (restK p ks ws).length)) (u := .dK (keyK (restK p ks zs))) hno
      exact h { s with heap := s.heap.push (PySem.W.dictOf (PySem.W.kwEs w.params s.toks (restK p ks ws)) (0 + (restK p ks ws).length)), toks := s.toks + (restK p ks ws).length } _ [v, pickK p dv ks zs, .ref s.heap.objs.size] [u, pickK p du ks ws, .ref s.heap.objs.size]
        ⟨e1.frames, e1.mod, e1.bs, e1.bsz, e1.funs, e1.frf, e1.hok, e1.bare⟩ un rfl (fun e s' => hCX outer s H _ _ E e s' un (fun b o q => Heap.get?_push_of_some _ q) rfl) (.cons rv (.cons (pick_rel rdu rz) (.cons rfl .nil))) rfl ⟨_, hno, rfl, rfl⟩
    rcases hb D doc pm an cdv ct u du ws hl2 with e | ⟨β, γ, k1, k2, k3, a, e1, e2, e3⟩
    · rw [e]
      exact fin
    · have l1 : PySem.W.Looks (model P w) s.heap (nsGet D p >>= k1) a := (PySem.W.looks_nsIn KX hdu).andThen (PySem.W.Looks.of_pure e2)
      rw [e1, bind_assoc]
      refine wpAny_bind (l1.here ?_)
      rw [e3]
      exact fin
  · subst ex eH
    exact hbody cdv A outer s2 _ _ Q E hr' (hq d hd)
end
/-! ### o.m(k = e, ..) on an own instance -/
def tMethW (C : Addr) (m p : Str) (dv : V) (ks : List Str) (sp : Sp) (E : XK) (ta : TE) (tk : TA) : TE := fun σ H Q => ta σ H fun x H1 => ∃ a dx fs, x = .ref a ∧ H1 a = some (.ins C dx fs) ∧ fs.lookup m = none ∧
  tk σ H1 fun zs H2 => zs.length = ks.length ∧ ∀ d, H2 d = none → sp [.ref a, pickK p dv ks zs, .ref d] (upd H2 d (.dK (keyK (restK p ks zs)))) Q E
section
variable {X : Cx} {CX : CXT} {k : Nat} {f C : Addr} {m p : Str} {dv : V} {ks : List Str} {sp : Sp} {E : XK} {o : Expr} {ta : TE} {tk : TA} {kws : List Keyword} {apos pos : Pos}
theorem pe_methW {pl : Sem Bool} (he : PE X o ta) (c : Cls X.K C) (hm : Meth X.K C m f) (F : FnW X.prog X.w X.K X.mg X.base CX k f p dv ks sp) (hr : Room k X.A) (hx : Passes CX X E) (hkw : PK X kws tk)
    (hall : (backToKw pos (keywordEach kws X.env)).all (·.1.isSome) = true := by rfl) (hks : (backToKw pos (keywordEach kws X.env)).filterMap (·.1) = ks := by rfl)
    (hpl : ((backTo pos (starEach [] X.env)).any (·.1) || (backToKw pos (keywordEach kws X.env)).any (·.1.isNone)) = false := by rfl)
    (ht : eval (.Call (.Attribute o m apos) [] kws pos) X.env = (do
      let ov ← eval o X.env
      standAt apos.atName
      let (f, first) ← holding [ov] (getMethod ov m pl)
      callWith pos f first (backTo pos (starEach [] X.env)) (backToKw pos (keywordEach kws X.env))) := by rfl) :
    PE X (.Call (.Attribute o m apos) [] kws pos) (tMethW C m p dv ks sp E ta tk) := by
  refine ⟨fun pins s σ H Q I h => ?_⟩
  refine PySem.W.methodCall_KW (pl := pl) (thn (he.run pins s σ H _ I h) fun u s1 ⟨x, H1, I1, rx, a, dx, fs, ex, ea, l, q⟩ => ?_) ht
  subst ex
  obtain rfl : u = Value.ref a := rx
  refine getmeth_ok I1 ea c hm l ?_
  refine PySem.W.callWith_KW0 (first := [.ref a]) (h₀ := X.base) I1.ok.mod.kin hm.kp hall (thn (hkw.run pos pins s1 σ H1 _ I1 q) fun ws s2 ⟨zs, H2, I2, rz, hl, q2⟩ => ⟨I2.kIn, ?_⟩) hpl
  rw [hks]
  refine wpAny_call (codeAny_mono (F X.A X.stack s2 H2 (.ref a) (.ref a) zs ws Q E hr I2.env0 rfl rz hl q2) fun r s' hq => ?_)
  cases r with
  | error e => exact hx pins σ H2 s2 e s' I2 hq
  | ok fl =>
    cases fl with
    | ret u => exact I2.after hq
    | next => exact False.elim hq
    | brk => exact False.elim hq
    | cont => exact False.elim hq
end
end L3

namespace Lw
open PySem PySem.Spec PyProof.Rows L2 Evl L3 ClX
abbrev sChP : Stmt := top 33
abbrev sCh : Stmt := inClass (top 30) 4
/-- the value under a name of the changes, or the one that stands -/
def gk (kvs : List (Key × V)) (x : Str) (d : V) : V := (valV kvs (.inr x)).getD d
theorem ev_dget {σ : L2.St} {H : Hp} {td tx : TE} {d : Addr} {kvs : List (Key × V)} {k : Str} {v : V} (h : Ev td σ H (.ref d)) (hd : H d = some (.dK kvs)) (hx : Ev tx σ H v) : Ev (tDGet2 td (tC (.str k)) tx) σ H (gk kvs k v) := fun H1 e Q q =>
  h H1 e _ fun H2 e2 => ⟨d, rfl, Or.inl ⟨kvs, Or.inl ((e.trans e2) _ _ hd)⟩, hx H2 (e.trans e2) _ fun H3 e3 => ⟨valV kvs (.inr k), DGet.k (k := Sum.inr k) (((e.trans e2).trans e3) _ _ hd), q H3 (e2.trans e3)⟩⟩
theorem hold_of {d : PyData} (h : holdD d = true) : ∃ x, d = .str x ∧ okH x := by
  cases d with
  | str x =>
    refine ⟨x, rfl, ?_⟩
    obtain ⟨s, hs, e⟩ := List.any_eq_true.mp h
    have e2 : s = x := by simpa [PyData.eqv] using e
    subst e2
    simpa [okH] using hs
  | _ =>
    exfalso
    obtain ⟨s, hs, e⟩ := List.any_eq_true.mp h
    simp [PyData.eqv] at e
theorem betw_of {d : PyData} {lo hi : Int} (h : betwD d lo hi = true) : ∃ i, d = .int i ∧ lo ≤ i ∧ i ≤ hi := by
  cases d with
  | int i =>
    obtain ⟨h1, h2⟩ := Bool.and_eq_true_iff.mp h
    exact ⟨i, rfl, of_decide_eq_true h1, of_decide_eq_true h2⟩
  | _ => cases h
theorem due_of {d0 d1 d2 : PyData} (h : dueP d0 d1 d2 = none) : ∃ x e q, d0 = .str x ∧ d1 = .int e ∧ d2 = .int q ∧ okP x e q := by
  unfold dueP at h
  split at h
  · rename_i h0
    split at h
    · rename_i h1
      split at h
      · rename_i h2
        obtain ⟨x, rfl, ox⟩ := hold_of h0
        obtain ⟨e, rfl, e0, e1⟩ := betw_of h1
        obtain ⟨q, rfl, q0, q1⟩ := betw_of h2
        exact ⟨x, e, q, rfl, rfl, rfl, ox, e0, e1, q0, q1⟩
      · cases h
    · cases h
  · cases h
theorem dp_str_eq {K : PySem.W.Frag} {H : Hp} {y : V} {x : Str} (h : Dp K H y (.str x)) : y = .str x := by
  cases h
  rfl
theorem dp_int_eq {K : PySem.W.Frag} {H : Hp} {y : V} {x : Int} (h : Dp K H y (.int x)) : y = .int x := by
  cases h
  rfl
theorem ex_made {CP x dx : Addr} {H : Hp} (hx : H x = none) (hd : H dx = none) (n : dx ≠ x) : Ex H (upd (upd H dx (.own x)) x (.ins CP dx [])) :=
  (Ex.new hd).trans (Ex.new (by rw [upd_ne n.symm]; exact hx))
section
variable {P : Program} {w : World} {K : PySem.W.Frag} {mg : Str → Option Value} {base : Heap}
/-! ### changed_policy -/
/-- what the changes make of a policy's values -/
structure Src (K : PySem.W.Frag) (H : Hp) (kvs : List (Key × V)) (h : Str) (e q : Int) (a0 a1 a2 : PyData) : Prop where
  d0 : Dp K H (gk kvs "hold" (.str h)) a0
  d1 : Dp K H (gk kvs "every" (.int e)) a1
  d2 : Dp K H (gk kvs "quick" (.int q)) a2
  sh : SeqAt.shaped a0 = true
theorem Src.ex {H H1 : Hp} {kvs : List (Key × V)} {h : Str} {e q : Int} {a0 a1 a2 : PyData} (s : Src K H kvs h e q a0 a1 a2) (x : Ex H H1) : Src K H1 kvs h e q a0 a1 a2 := ⟨dp_ex x s.d0, dp_ex x s.d1, dp_ex x s.d2, s.sh⟩
def spChP (K : PySem.W.Frag) (CP CB : Addr) : Sp := fun vs H Q E => ∃ (p d : Addr) (kvs : List (Key × V)) (h : Str) (e q : Int) (a0 a1 a2 : PyData), vs = [.ref p, .ref d] ∧ PolAt CP H p h e q ∧ H d = some (.dK kvs) ∧ Src K H kvs h e q a0 a1 a2 ∧
  (∀ h' e' q' r H', a0 = .str h' → a1 = .int e' → a2 = .int q' → okP h' e' q' → Ex H H' → PolAt CP H' r h' e' q' → Q (.ref r) H') ∧ ∀ nm, dueP a0 a1 a2 = some nm → ErrV CB "name" (.str nm) H E
theorem scChP : FnScope ["policy", "changes"] ["policy", "changes"] (defScope sChP) := ⟨rfl, rfl, rfl, by decide +kernel, rfl, by decide +kernel, by decide +kernel⟩
theorem ok_ChP {f fI CP CB : Addr} {fd fdI : FuncData} (F : Fun K "changed_policy" "changed_policy" sChP f fd) (TP : Pol K mg CP) (M : Mk K CP fI) (FI : FunD K "__init__" "Policy.__init__" (defArgs sPI) (defBody sPI) (defScope sPI) [.str "all"] [("every", .int 2), ("quick", .int 0)] fI fdI)
    (GI : FnOk P w K mg base (L2.CX P w) 3 fI fdI PIps (spPI K CP CB)) : FnOk P w K mg base (L2.CX P w) 5 f fd ["policy", "changes"] (spChP K CP CB) := by
  obtain ⟨g, bI⟩ := bP3 FI
  refine F.okX scChP (fun vs H Q E h => ?_) (fun cdv A outer s H vs Q E hr h => ?_)
  · obtain ⟨p, d, kvs, h, e, q, a0, a1, a2, rfl, _⟩ := h
    rfl
  · obtain ⟨p, d, kvs, h, e, q, a0, a1, a2, rfl, ⟨dx, hp⟩, hd, S, k, ke⟩ := h
    have hu := Nat.lt_of_le_of_lt (Nat.add_le_add_left (show 1 ≤ 64 by decide) _) hr.units
    refine ⟨_, pss_one (ps_ret (pe_makeK M GI hr rfl TP.hm bI (passes_call (takes_of rfl rfl rfl rfl) fun _ _ _ _ z => z)
      (by exact pa_cons (pe_dget2 hu (pv 1) pe_str (pe_fld (pv 0) rfl) ⟨rfl, rfl, rfl, rfl⟩) pa_nil)
      (by exact pk_cons (pe_dget2 hu (pv 1) pe_str (pe_fld (pv 0) rfl) ⟨rfl, rfl, rfl, rfl⟩) (pk_cons (pe_dget2 hu (pv 1) pe_str (pe_fld (pv 0) rfl) ⟨rfl, rfl, rfl, rfl⟩) pk_nil)))), ?_⟩
    have ta : EvA (tCons (tDGet2 (tVar 1) (tC (.str "hold")) (tFld K (tVar 0) "hold")) tNil) (start ["policy", "changes"] [.ref p, .ref d]) H [gk kvs "hold" (.str h)] := ea_cons (ev_dget (ev_var rfl) hd (ev_fld (ev_var rfl) hp TP.k.cl TP.nh rfl)) ea_nil
    have tk : EvA (tCons (tDGet2 (tVar 1) (tC (.str "every")) (tFld K (tVar 0) "every")) (tCons (tDGet2 (tVar 1) (tC (.str "quick")) (tFld K (tVar 0) "quick")) tNil)) (start ["policy", "changes"] [.ref p, .ref d]) H [gk kvs "every" (.int e), gk kvs "quick" (.int q)] :=
      ea_cons (ev_dget (ev_var rfl) hd (ev_fld (ev_var rfl) hp TP.k.cl TP.ne rfl)) (ea_cons (ev_dget (ev_var rfl) hd (ev_fld (ev_var rfl) hp TP.k.cl TP.nq rfl)) ea_nil)
    unfold tRet tMakeK
    refine ta H (Ex.refl H) _ fun H1 e1 => tk H1 e1 _ fun H2 e2 => ⟨rfl, rfl, fun x dy hx hdy nd => ?_⟩
    have em := ex_made (CP := CP) hx hdy nd
    have e4 := (e1.trans e2).trans em
    have S4 := S.ex e4
    refine ⟨x, dy, _, _, _, a0, a1, a2, rfl, upd_same, S4.d0, S4.d1, S4.d2, S4.sh, fun hn H' x' h' => ⟨rfl, ?_⟩, fun nm hn => (ke nm hn).go e4⟩
    obtain ⟨h3, e3, q3, rfl, rfl, rfl, ok⟩ := due_of hn
    rw [dp_str_eq S.d0, dp_int_eq S.d1, dp_int_eq S.d2] at h'
    exact k h3 e3 q3 x H' rfl rfl rfl ok ((e1.trans e2).trans (made_pol hx hdy nd x')) ⟨dy, h'⟩
end
end Lw

namespace Lw
open PySem PySem.Spec PyProof.Rows L2 Evl L3 ClX
def Nw (c : Bool) (K : PySem.W.Frag) (H : Hp) (kvs : List (Key × V)) (h : Str) (e q : Int) (a0 a1 a2 : PyData) : Prop := (c = true → Src K H kvs h e q a0 a1 a2) ∧ (c = false → a0 = .str h ∧ a1 = .int e ∧ a2 = .int q)
theorem Nw.ex {c : Bool} {K : PySem.W.Frag} {H H1 : Hp} {kvs : List (Key × V)} {h : Str} {e q : Int} {a0 a1 a2 : PyData} (s : Nw c K H kvs h e q a0 a1 a2) (x : Ex H H1) : Nw c K H1 kvs h e q a0 a1 a2 := ⟨fun z => (s.1 z).ex x, s.2⟩
def dueC (dS a0 a1 a2 b0 b1 b2 : PyData) : Option Str := if sizeOk dS = true then (match dueP a0 a1 a2 with | some nm => some nm | none => dueP b0 b1 b2) else some "size"
def cAt (ep : V) (i : Int) : Bool := decide (ep = .non) || decide (ep = .int i)
theorem set_same {α : Type} : ∀ {l : List α} {j : Nat} {a : α}, l[j]? = some a → l.set j a = l
  | [], _, _, h => by simp at h
  | x :: l, 0, a, h => by
    simp at h
    subst h
    rfl
  | x :: l, j + 1, a, h => by
    rw [List.set_cons_succ, set_same (by simpa using h)]
section
variable {P : Program} {w : World} {K : PySem.W.Frag} {mg : Str → Option Value} {base : Heap}
theorem ep_test {σ : L2.St} {H : Hp} {ep : V} {i : Int} (h : σ[1]? = some (some ep)) (hep : ep = .non ∨ ∃ j, ep = .int j) : EvT (tOr (tTest (tOp (fun x y H Q => y = .non ∧ Q (.bl (decide (x = .non))) H) (tVar 1) (tC .non))) (tTest (tOp rEq (tVar 1) (tC (.int i))))) σ H (cAt ep i) := by
  refine et_or (a := decide (ep = .non)) (b := decide (ep = .int i)) (et_test (ev_op (ev_var h) ev_c (fun H1 e Q q => ⟨rfl, q H1 (Ex.refl H1)⟩))) fun hz => ?_
  rcases hep with rfl | ⟨j, rfl⟩
  · simp at hz
  · exact et_test (ev_op (ev_var h) ev_c (rv_eq rfl))
theorem q_chg {CP CB : Addr} {T : TT} {tz : TS} {D : Ends} {E : XK} {σ : L2.St} {H : Hp} {c : Bool} {j : Nat} {p d : Addr} {kvs : List (Key × V)} {h : Str} {e q : Int} {a0 a1 a2 : PyData} (hT : EvT T σ H c) (hs : σ[j]? = some (some (.ref p))) (hs2 : σ[2]? = some (some (.ref d)))
    (hp : PolAt CP H p h e q) (ok : okP h e q) (hd : H d = some (.dK kvs)) (N : Nw c K H kvs h e q a0 a1 a2)
    (k : ∀ r x y z H2, Ex H H2 → a0 = .str x → a1 = .int y → a2 = .int z → okP x y z → PolAt CP H2 r x y z → tz D (σ.set j (some (.ref r))) H2) (ke : ∀ nm, dueP a0 a1 a2 = some nm → ErrV CB "name" (.str nm) H E) :
    tSeq (tIfS T (tAsg (tCall (spChP K CP CB) [] E (tCons (tVar j) (tCons (tVar 2) tNil))) (gName j)) tNext) tz D σ H := by
  refine q_when hT (fun hc H1 e1 => ?_) fun hc H1 e1 => ?_
  · have S := (N.1 hc).ex e1
    refine ⟨_, hs, _, hs2, p, d, kvs, h, e, q, a0, a1, a2, rfl, hp.ex e1, e1 _ _ hd, S, fun h' e' q' r H' z0 z1 z2 ok' ex hr => ?_, fun nm hn => (ke nm hn).go e1⟩
    exact k r h' e' q' H' (e1.trans ex) z0 z1 z2 ok' hr
  · obtain ⟨z0, z1, z2⟩ := N.2 hc
    have z := k p h e q H1 e1 z0 z1 z2 ok (hp.ex e1)
    rw [set_same hs] at z
    exact z
/-! ### changed -/
abbrev nCh : List Str := ["self", "endpoint", "changes", "size", "zero", "one"]
def spCh (K : PySem.W.Frag) (CS CP CB : Addr) : Sp := fun vs H Q E => ∃ (m p0 p1 d : Addr) (ep : V) (n : Int) (h : Str) (e q : Int) (h2 : Str) (e2 q2 : Int) (kvs : List (Key × V)) (dS a0 a1 a2 b0 b1 b2 : PyData), vs = [.ref m, ep, .ref d] ∧ (ep = .non ∨ ∃ j, ep = .int j) ∧
  SetV K CS CP H m n p0 p1 h e q h2 e2 q2 ∧ okP h e q ∧ okP h2 e2 q2 ∧ H d = some (.dK kvs) ∧ Dp K H (gk kvs "size" (.int n)) dS ∧ Nw (cAt ep 0) K H kvs h e q a0 a1 a2 ∧ Nw (cAt ep 1) K H kvs h2 e2 q2 b0 b1 b2 ∧
  (∀ r n' p q x y z x' y' z' H', dS = .int n' → 1 ≤ n' → n' ≤ 1000000000000000000 → a0 = .str x → a1 = .int y → a2 = .int z → b0 = .str x' → b1 = .int y' → b2 = .int z' → okP x y z → okP x' y' z' → Ex H H' → SetV K CS CP H' r n' p q x y z x' y' z' → Q (.ref r) H') ∧
  ∀ nm, dueC dS a0 a1 a2 b0 b1 b2 = some nm → ErrV CB "name" (.str nm) H E
theorem scCh : FnScope nCh ["self", "endpoint", "changes"] (defScope sCh) := ⟨rfl, rfl, rfl, by decide +kernel, rfl, by decide +kernel, by decide +kernel⟩
theorem body_Ch {f fC fCP fJ CS CP CB : Addr} {fdC fdCP : FuncData} {cdv : Value} (T : Txt K mg) (TS : Stg K mg CS)
    (FC : Fun K "check_size" "check_size" sCkS fC fdC) (bC : Binds K fdC ["size"] []) (gC : mg "check_size" = some (.ref fC)) (GC : FnOk P w K mg base (L2.CX P w) 3 fC fdC ["size"] (spCkS K CB))
    (FQ : Fun K "changed_policy" "changed_policy" sChP fCP fdCP) (bQ : Binds K fdCP ["policy", "changes"] []) (gQ : mg "changed_policy" = some (.ref fCP)) (GQ : FnOk P w K mg base (L2.CX P w) 5 fCP fdCP ["policy", "changes"] (spChP K CP CB))
    (M : Mk K CS fJ) (GJ : FnR P w K mg base (L2.CX P w) 6 fJ (fun vs H Q E => ∃ ws rest, vs = ws ++ rest ∧ ws.length = 2 ∧ rest.length ≤ sizeLine ∧ ∀ p, H p = none → spSI0 K CS CP (ws ++ [V.ref p]) (upd H p (.tup rest)) Q E))
    (A : Around) (outer : List Env) (s : Shared) (H : Hp) (vs : List V) (Q : VK) (E : XK)
    (hr : Room 7 (A.deeper (envOfC "Setting.changed" (defScope sCh) s.heap.objs.size f cdv))) (hsp : spCh K CS CP CB vs H Q E) :
    ∃ t, PSs (cxOf (L2.CX P w) P w K mg base nCh "Setting.changed" (defScope sCh) f cdv A outer s H E) (defBody sCh) t ∧ t { nx := fun _ H' => Q .non H', rt := Q } (start nCh vs) H := by
  obtain ⟨m, p0, p1, d, ep, n, h, e, q, h2, e2, q2, kvs, dS, a0, a1, a2, b0, b1, b2, rfl, hep, SV, ok1, ok2, hd, hS, N0, N1, k, ke⟩ := hsp
  have hu := Nat.lt_of_le_of_lt (Nat.add_le_add_left (show 1 ≤ 64 by decide) _) hr.units
  have hr3 : Room 3 _ := hr.mono (by decide)
  have hr5 : Room 5 _ := hr.mono (by decide)
  refine ⟨_, pss_cons (ps_set (i := 3) scCh.nd rfl (Or.inl rfl) (pe_dget2 hu (pv 2) pe_str (pe_fld (pv 0) rfl) ⟨rfl, rfl, rfl, rfl⟩))
    (pss_cons (ps_expr (pe_call GC hr3 rfl gC FC.kp bC .nil (passes_call (takes_of rfl rfl rfl rfl) fun _ _ _ _ z => z) (by exact pa_cons (pv 3) pa_nil)))
    (pss_cons (ps_asg (pe_fld (pv 0) rfl) (pg_tup rfl (pgs_cons (pg_name (i := 4) scCh.nd rfl (Or.inl rfl)) (pgs_cons (pg_name (i := 5) scCh.nd rfl (Or.inl rfl)) pgs_nil))))
    (pss_cons (ps_if (PW.pt (pw_or (pt_cmpR op_isN (pv 1) pe_non (nomark _)) (pw_or1 (pt_cmpR op_eq (pv 1) pe_int (nomark _))))) (pss_one (ps_set (i := 4) scCh.nd rfl (Or.inl rfl) (pe_call GQ hr5 rfl gQ FQ.kp bQ .nil (passes_call (takes_of rfl rfl rfl rfl) fun _ _ _ _ z => z) (by exact pa_cons (pv 4) (pa_cons (pv 2) pa_nil))))) pss_nil)
    (pss_cons (ps_if (PW.pt (pw_or (pt_cmpR op_isN (pv 1) pe_non (nomark _)) (pw_or1 (pt_cmpR op_eq (pv 1) pe_int (nomark _))))) (pss_one (ps_set (i := 5) scCh.nd rfl (Or.inl rfl) (pe_call GQ hr5 rfl gQ FQ.kp bQ .nil (passes_call (takes_of rfl rfl rfl rfl) fun _ _ _ _ z => z) (by exact pa_cons (pv 5) (pa_cons (pv 2) pa_nil))))) pss_nil)
    (pss_one (ps_ret (StX.pe_makeR M GJ hr rfl TS.hm (passes_call (takes_of rfl rfl rfl rfl) fun _ _ _ _ z => z) (by exact pa_cons (pv 3) (pa_cons (pv 4) (pa_cons (pv 5) pa_nil)))))))))), ?_⟩
  obtain ⟨⟨dx, t, hm, ht⟩, hp0, hp1⟩ := SV
  refine q_asg (ev_dget (ev_var rfl) hd (ev_fld (ev_var rfl) hm TS.k.cl TS.ns rfl)) fun H1 e1 => ?_
  refine ⟨_, rfl, _, dS, rfl, dp_ex e1 hS, fun hz H2 x2 => ?_, fun hz => (ke "size" ?_).go e1⟩
  · have e12 := e1.trans x2
    obtain ⟨n', rfl, n1, n2⟩ := betw_of hz
    refine ⟨_, rfl, m, CS, dx, _, _, rfl, e12 _ _ hm, TS.k.cl, TS.np, rfl, t, _, rfl, ex_t e12 ht, rfl, _, _, rfl, _, _, rfl, rfl, ?_⟩
    refine q_chg (p := p0) (ep_test rfl hep) rfl rfl (hp0.ex e12) ok1 (e12 _ _ hd) (N0.ex e12) (fun r0 x y z H3 x3 z0 z1 z2 okx hr0 => ?_) fun nm hn => (ke nm ?_).go e12
    · subst z0 z1 z2
      have e13 := e12.trans x3
      refine q_chg (p := p1) (ep_test rfl hep) rfl rfl (hp1.ex e13) ok2 (e13 _ _ hd) (N1.ex e13) (fun r1 x' y' z' H4 x4 w0 w1 w2 okx' hr1 => ?_) fun nm hn => (ke nm ?_).go e13
      · subst w0 w1 w2
        have e14 := e13.trans x4
        have eS : gk kvs "size" (.int n) = .int n' := dp_int_eq hS
        rw [eS]
        have z := set_go (K := K) (CS := CS) (CP := CP) (ps := [r0, r1]) (H := H4) (Q := Q) n1 n2 (by show 2 ≤ 2; decide) (fun p hp => by
          rcases List.mem_cons.mp hp with rfl | hp
          · exact ⟨_, _, _, hr0.ex x4⟩
          · obtain rfl := List.mem_singleton.mp hp
            exact ⟨_, _, _, hr1⟩) (fun r p q H' _ ex hat hpo => by
          obtain ⟨rfl, rfl⟩ := (show p = r0 ∧ q = r1 from hpo)
          exact k r n' p q x y z x' y' z' H' rfl n1 n2 rfl rfl rfl rfl rfl rfl okx okx' (e14.trans ex) ⟨hat, (hr0.ex x4).ex ex, hr1.ex ex⟩)
        exact ⟨_, rfl, _, rfl, _, rfl, z⟩
      · unfold dueC
        rw [if_pos hz, due_ok okx]
        exact hn
    · unfold dueC
      rw [if_pos hz, hn]
  · unfold dueC
    rw [if_neg (by rw [hz]; simp)]
/-- the keywords by which the law calls changed -/
def kwsAll : List (List Str) := [["size"], ["quick"], ["hold"], ["every", "quick"]]
theorem kw_bind (ks : List Str) (hks : ks ∈ kwsAll) :
    ∀ (D : Addr) (doc pm : Value) (an : Option Addr) (cdv ct u du : Value) (ws : List Value), ws.length = ks.length → KwB D "endpoint" du (PySem.W.fnOf "changed" "Setting.changed" (defArgs sCh) (defBody sCh) (defScope sCh) .none (.ref D) doc pm an cdv ct) [u] ws ks [("self", u), ("endpoint", pickK "endpoint" du ks ws)] (restK "endpoint" ks ws) "changes" := by
  intro D doc pm an cdv ct u du ws hl
  simp only [kwsAll, List.mem_cons, List.not_mem_nil, or_false] at hks
  rcases hks with rfl | rfl | rfl | rfl
  · match ws, hl with
    | [a], _ => exact Or.inr ⟨_, _, _, _, _, _, rfl, rfl, rfl⟩
  · match ws, hl with
    | [a], _ => exact Or.inr ⟨_, _, _, _, _, _, rfl, rfl, rfl⟩
  · match ws, hl with
    | [a], _ => exact Or.inr ⟨_, _, _, _, _, _, rfl, rfl, rfl⟩
  · match ws, hl with
    | [a, b], _ => exact Or.inr ⟨_, _, _, _, _, _, rfl, rfl, rfl⟩
theorem ok_Ch {f fC fCP fJ CS CP CB : Addr} {fd fdC fdCP : FuncData} (F : FunD K "changed" "Setting.changed" (defArgs sCh) (defBody sCh) (defScope sCh) [] [("endpoint", .non)] f fd) (T : Txt K mg) (TS : Stg K mg CS)
    (FC : Fun K "check_size" "check_size" sCkS fC fdC) (bC : Binds K fdC ["size"] []) (gC : mg "check_size" = some (.ref fC)) (GC : FnOk P w K mg base (L2.CX P w) 3 fC fdC ["size"] (spCkS K CB))
    (FQ : Fun K "changed_policy" "changed_policy" sChP fCP fdCP) (bQ : Binds K fdCP ["policy", "changes"] []) (gQ : mg "changed_policy" = some (.ref fCP)) (GQ : FnOk P w K mg base (L2.CX P w) 5 fCP fdCP ["policy", "changes"] (spChP K CP CB))
    (M : Mk K CS fJ) (GJ : FnR P w K mg base (L2.CX P w) 6 fJ (fun vs H Q E => ∃ ws rest, vs = ws ++ rest ∧ ws.length = 2 ∧ rest.length ≤ sizeLine ∧ ∀ p, H p = none → spSI0 K CS CP (ws ++ [V.ref p]) (upd H p (.tup rest)) Q E))
    (ks : List Str) (hks : ks ∈ kwsAll) :
    FnW P w K mg base (L2.CX P w) 8 f "endpoint" .non ks (spCh K CS CP CB) := by
  refine fn_kw F scCh StX.cxUp (fun cdv A outer s H vs Q E hr h => body_Ch T TS FC bC gC GC FQ bQ gQ GQ M GJ A outer s H vs Q E hr h) (kw_bind ks hks) ?_ ?_
  · have z : kwsAll.all (fun ks => decide ks.Nodup) = true := by decide +kernel
    exact of_decide_eq_true (List.all_eq_true.mp z ks hks)
  · have z : kwsAll.all (fun ks => decide (ks.length ≤ 1000)) = true := by decide +kernel
    exact of_decide_eq_true (List.all_eq_true.mp z ks hks)
end
end Lw

namespace Lw
open PySem PySem.Spec PyProof.Rows L2 Evl L3 ClX
section
variable {P : Program} {w : World} {K : PySem.W.Frag} {mg : Str → Option Value} {base : Heap}
/-! ### changed, of good values -/
theorem due_free {n' : Int} {x x' : Str} {y z y' z' : Int} (n1 : 1 ≤ n') (n2 : n' ≤ 1000000000000000000) (ok : okP x y z) (ok' : okP x' y' z') : dueC (.int n') (.str x) (.int y) (.int z) (.str x') (.int y') (.int z') = none := by
  unfold dueC
  rw [if_pos (sz_ok n1 n2), due_ok ok]
  exact due_ok ok'
/-- what the changes are to be of a policy -/
def NwV (c : Bool) (kvs : List (Key × V)) (h : Str) (e q : Int) (x : Str) (y z : Int) : Prop := (c = true → gk kvs "hold" (.str h) = .str x ∧ gk kvs "every" (.int e) = .int y ∧ gk kvs "quick" (.int q) = .int z) ∧ (c = false → x = h ∧ y = e ∧ z = q)
theorem nw_of {c : Bool} {kvs : List (Key × V)} {h x : Str} {e q y z : Int} {H : Hp} (N : NwV c kvs h e q x y z) (ok : okP x y z) : Nw c K H kvs h e q (.str x) (.int y) (.int z) := ⟨fun hc => by
  obtain ⟨h1, h2, h3⟩ := N.1 hc
  exact ⟨by rw [h1]; exact .str x, by rw [h2]; exact .int y, by rw [h3]; exact .int z, hold_shape ok.h⟩, fun hc => by
  obtain ⟨rfl, rfl, rfl⟩ := N.2 hc
  exact ⟨rfl, rfl, rfl⟩⟩
theorem ch_go {CS CP CB m p0 p1 : Addr} {mc : Str} {σ : L2.St} {H : Hp} {Q : VK} {E : XK} {ta : TE} {tk : TA} {ks : List Str} {zs : List V} {ep : V} {n n' : Int} {h h2 x x' : Str} {e q e2 q2 y z y' z' : Int} {kvs : List (Key × V)} (ho : Ev ta σ H (.ref m)) (SV : SetV K CS CP H m n p0 p1 h e q h2 e2 q2) (ok1 : okP h e q) (ok2 : okP h2 e2 q2) (hk : EvA tk σ H zs) (hl : zs.length = ks.length)
    (hep : pickK "endpoint" .non ks zs = ep) (hkv : keyK (restK "endpoint" ks zs) = kvs) (hev : ep = .non ∨ ∃ j, ep = .int j) (hm : (setF 0 0).lookup mc = none) (hs : gk kvs "size" (.int n) = .int n') (n1 : 1 ≤ n') (n2 : n' ≤ 1000000000000000000) (N0 : NwV (cAt ep 0) kvs h e q x y z) (N1 : NwV (cAt ep 1) kvs h2 e2 q2 x' y' z') (okx : okP x y z) (okx' : okP x' y' z')
    (k : ∀ r p q' H', Ex H H' → SetV K CS CP H' r n' p q' x y z x' y' z' → Q (.ref r) H') : tMethW CS mc "endpoint" .non ks (spCh K CS CP CB) E ta tk σ H Q :=
  ho H (Ex.refl H) _ fun H1 e1 => by
    obtain ⟨⟨dx, t, hm1, ht⟩, hp0, hp1⟩ := SV
    refine ⟨m, dx, _, rfl, e1 _ _ hm1, ?_, hk H1 e1 _ fun H2 e2' => ⟨hl, fun d hd => ?_⟩⟩
    · have z : ∀ (i : Int) (r : Addr), ((setF i r).lookup mc).isSome = ((setF 0 0).lookup mc).isSome := fun i r => by
        unfold setF
        rw [List.lookup_cons, List.lookup_cons, List.lookup_cons, List.lookup_cons]
        split
        · rfl
        · split <;> rfl
      have z2 := z n t
      rw [hm] at z2
      cases q0 : (setF n t).lookup mc with
      | none => rfl
      | some v =>
        rw [q0] at z2
        cases z2
    · rw [hep, hkv]
      have ex := (e1.trans e2').trans (Ex.new (o := .dK kvs) hd)
      have SV2 : SetV K CS CP (upd H2 d (.dK kvs)) m n p0 p1 h e q h2 e2 q2 := SetV.ex ⟨⟨dx, t, hm1, ht⟩, hp0, hp1⟩ ex
      refine ⟨m, p0, p1, d, ep, n, h, e, q, h2, e2, q2, kvs, .int n', .str x, .int y, .int z, .str x', .int y', .int z', rfl, hev, SV2, ok1, ok2, upd_same, by rw [hs]; exact .int n', nw_of N0 okx, nw_of N1 okx', ?_, fun nm hn => ?_⟩
      · intro r n'' p q' a b c a' b' c' H' w0 w1 w2 w3 w4 w5 w6 w7 w8 _ _ exx S
        cases w0
        cases w3
        cases w4
        cases w5
        cases w6
        cases w7
        cases w8
        exact k r p q' H' (ex.trans exx) S
      · rw [due_free n1 n2 okx okx'] at hn
        cases hn
end
end Lw

/-! ### segments and bare acknowledgments between two bounds -/
namespace Tn
open PySem L3
/-- how many segments so many bytes need -/
def cd (n a : Int) : Int := (a + n - 1) / n
theorem cd_ge {n a : Int} (h : 1 ≤ n) : a ≤ n * cd n a := by
  unfold cd
  have e := Int.mul_ediv_add_emod (a + n - 1) n
  have m := Int.emod_lt_of_pos (a + n - 1) (show 0 < n by omega)
  omega
theorem cd_le {n a x : Int} (h : 1 ≤ n) (hx : a ≤ n * x) : cd n a ≤ x := by
  unfold cd
  have z : (a + n - 1) / n < x + 1 := Int.ediv_lt_of_lt_mul (by omega) (by
    rw [Int.add_mul, Int.one_mul, Int.mul_comm x n]
    omega)
  omega
theorem cd_0 {n : Int} (h : 1 ≤ n) : 0 ≤ cd n 0 := by
  unfold cd
  exact Int.ediv_nonneg (by omega) (by omega)
theorem mul_le {n a b : Int} (h : 1 ≤ n) (z : n * a ≤ n * b) : a ≤ b := Int.le_of_mul_le_mul_left z (by omega)
theorem mul_lt {n a b : Int} (h : 1 ≤ n) (z : n * a < n * b) : a < b := Int.lt_of_mul_lt_mul_left z (by omega)
/-- the segments of a course, its rest as one -/
def sgE (m : CrM) : Int := if m.r > 0 then m.g + 1 else m.g
theorem clear_cases (c : Cf) (s : Stc) (has : Bool) : (clear c s has = rest c.h s.pend s.quick 0 ∧ has = true) ∨ clear c s has = (⟨s.kept, s.stk, s.stk, s.pend, s.quick⟩, false, 0) := by
  unfold clear
  by_cases z : (has && (!s.kept && !s.stk)) = true
  · rw [if_pos z]
    exact Or.inl ⟨rfl, (Bool.and_eq_true_iff.mp z).1⟩
  · rw [if_neg z]
    exact Or.inr rfl
theorem write_cases (c : Cf) (s : Stc) (full : Int) (has : Bool) : (write c s full has "plain" = rest c.h (mid c s full).pend (mid c s full).quick (mid c s full).ack ∧ has = true) ∨
    (write c s full has "plain" = (⟨false, (mid c s full).blk, (mid c s full).stk, (mid c s full).pend, (mid c s full).quick⟩, false, (mid c s full).ack) ∧ (has = true → (mid c s full).blk = true)) := by
  unfold write
  have p1 : decide (("plain" : Str) = "push") = false := by decide +kernel
  have p2 : decide (("plain" : Str) = "plain") = true := by decide +kernel
  have p3 : decide (("plain" : Str) = "more") = false := by decide +kernel
  rw [p1, p2, p3, Bool.false_or, Bool.true_and, Bool.and_false]
  by_cases z : (has && !(mid c s full).blk) = true
  · rw [if_pos z]
    exact Or.inl ⟨rfl, (Bool.and_eq_true_iff.mp z).1⟩
  · rw [if_neg z]
    refine Or.inr ⟨rfl, fun h => ?_⟩
    rw [h, Bool.true_and] at z
    simpa using z
theorem recv_k {e full pend quick : Int} (he : 0 ≤ e) (hf : 0 ≤ full) (hp : 0 ≤ pend) (hq : 0 ≤ quick) : 0 ≤ (recv e full pend quick).ack ∧ (recv e full pend quick).ack + (recv e full pend quick).pend ≤ full + pend ∧ 0 ≤ (recv e full pend quick).pend ∧ 0 ≤ (recv e full pend quick).quick := by
  have z1 : 0 ≤ mn full quick ∧ mn full quick ≤ full ∧ mn full quick ≤ quick := by
    unfold mn
    split <;> omega
  unfold recv
  split
  · exact ⟨z1.1, by show mn full quick + 0 ≤ _; omega, Int.le_refl _, by show 0 ≤ quick - mn full quick; omega⟩
  · have e1 : 1 ≤ e := by omega
    have x0 : 0 ≤ pend + (full - mn full quick) := by omega
    have d0 := Int.ediv_nonneg x0 (show 0 ≤ e by omega)
    have m0' := Int.emod_nonneg (pend + (full - mn full quick)) (by omega : e ≠ 0)
    have eq := Int.mul_ediv_add_emod (pend + (full - mn full quick)) e
    have le : (pend + (full - mn full quick)) / e ≤ e * ((pend + (full - mn full quick)) / e) := by
      have z := Int.mul_le_mul_of_nonneg_right e1 d0
      rw [Int.one_mul] at z
      exact z
    exact ⟨by show 0 ≤ mn full quick + _; omega, by show mn full quick + (pend + (full - mn full quick)) / e + (pend + (full - mn full quick)) % e ≤ full + pend; omega, m0', by show 0 ≤ quick - mn full quick; omega⟩
theorem mid_k {c : Cf} {s : Stc} {full : Int} (he : 0 ≤ c.e) (hf : 0 ≤ full) (hp : 0 ≤ s.pend) (hq : 0 ≤ s.quick) : 0 ≤ (mid c s full).ack ∧ (mid c s full).ack + (mid c s full).pend ≤ full + s.pend ∧ 0 ≤ (mid c s full).pend ∧ 0 ≤ (mid c s full).quick := by
  have z := recv_k he hf hp hq
  unfold mid
  split
  · split
    · exact z
    · split
      · exact z
      · exact z
  · exact ⟨Int.le_refl _, by show 0 + s.pend ≤ _; omega, hp, hq⟩
theorem mn1 {q : Int} (h : 0 ≤ q) : 0 ≤ mn q 1 ∧ mn q 1 ≤ 1 := by
  unfold mn
  split <;> omega
theorem mx0 {q : Int} : 0 ≤ mx q 0 := by
  unfold mx
  split <;> omega
/-- a course behind writes of S bytes, that would be T segments one by one -/
structure SG (n S T : Int) (m : CrM) : Prop where
  nn : m.n = n
  r0 : 0 ≤ m.r
  r1 : m.r < n
  lo : S ≤ n * m.g + m.r
  hi : sgE m ≤ T
  p0 : 0 ≤ m.s.pend
  q0 : 0 ≤ m.s.quick
  k0 : 0 ≤ m.k
  k1 : m.k + m.s.pend ≤ m.g
  kp : m.s.kept = false
section
variable {c : Cf} {n S T len : Int} {m : CrM}
theorem sg_new {q : Int} (n1 : 1 ≤ n) (hq : 0 ≤ q) : SG n 0 0 (m0 n q) := ⟨rfl, Int.le_refl _, by show (0 : Int) < n; omega, by show (0 : Int) ≤ n * 0 + 0; omega, Int.le_refl _, Int.le_refl _, hq, Int.le_refl _, Int.le_refl _, rfl⟩
theorem sg_clear (n1 : 1 ≤ n) (G : SG n S T m) : SG n S T (clM c m) := by
  have q := mn1 G.q0
  have lo := G.lo
  have hi := G.hi
  have k1 := G.k1
  have k0 := G.k0
  have r0 := G.r0
  have r1 := G.r1
  rcases clear_cases c m.s (decide (m.r > 0)) with ⟨z, h⟩ | z
  · have hr : m.r > 0 := of_decide_eq_true h
    have e : clM c m = ⟨m.n, 0, (rest c.h m.s.pend m.s.quick 0).1, m.g + 1, m.k + (0 + mn m.s.quick 1)⟩ := by
      unfold clM
      rw [z]
      rfl
    rw [e]
    have hi' : m.g + 1 ≤ T := by
      unfold sgE at hi
      rw [if_pos hr] at hi
      exact hi
    refine ⟨G.nn, Int.le_refl _, by show (0 : Int) < n; omega, ?_, hi', G.p0, mx0, by show 0 ≤ m.k + (0 + mn m.s.quick 1); omega, by show m.k + (0 + mn m.s.quick 1) + m.s.pend ≤ m.g + 1; omega, rfl⟩
    show S ≤ n * (m.g + 1) + 0
    rw [Int.mul_add, Int.mul_one]
    omega
  · have e : clM c m = ⟨m.n, m.r, ⟨m.s.kept, m.s.stk, m.s.stk, m.s.pend, m.s.quick⟩, m.g, m.k + 0⟩ := by
      unfold clM
      rw [z]
      rfl
    rw [e]
    exact ⟨G.nn, r0, r1, lo, hi, G.p0, G.q0, by show 0 ≤ m.k + 0; omega, by show m.k + 0 + m.s.pend ≤ m.g; omega, G.kp⟩
theorem sg_clears (n1 : 1 ≤ n) (G : SG n S T m) : ∀ k, SG n S T (clK c k m)
  | 0 => G
  | k + 1 => sg_clear n1 (sg_clears n1 G k)
theorem up_step (n1 : 1 ≤ n) (r0 : 0 ≤ m.r) (r1 : m.r < n) (hl : 0 ≤ len) {f r' : Int} (e : n * f + r' = m.r + len) (hr : 0 ≤ r') : f + (if r' > 0 then 1 else 0) ≤ (if m.r > 0 then 1 else 0) + cd n len := by
  have g := cd_ge (a := len) n1
  have z : n * f + r' ≤ n * ((if m.r > 0 then 1 else 0) + cd n len) := by
    rw [Int.mul_add]
    split
    · rw [Int.mul_one]
      omega
    · rw [Int.mul_zero]
      omega
  by_cases c1 : r' > 0
  · rw [if_pos c1]
    have y := mul_lt (b := (if m.r > 0 then 1 else 0) + cd n len) (a := f) n1 (by omega)
    omega
  · rw [if_neg c1]
    have y := mul_le (b := (if m.r > 0 then 1 else 0) + cd n len) (a := f) n1 (by omega)
    omega
theorem sg_write (he : 0 ≤ c.e) (n1 : 1 ≤ n) (hl : 0 ≤ len) (G : SG n S T m) : SG n (S + len) (T + cd n len) (wrM c m len "plain") := by
  have lo := G.lo
  have hi := G.hi
  have k1 := G.k1
  have k0 := G.k0
  have r0 := G.r0
  have r1 := G.r1
  have nn := G.nn
  have f0 : 0 ≤ (m.r + len) / n := Int.ediv_nonneg (by omega) (by omega)
  have e0 := Int.emod_nonneg (m.r + len) (by omega : n ≠ 0)
  have e1 := Int.emod_lt_of_pos (m.r + len) (show 0 < n by omega)
  have eq := Int.mul_ediv_add_emod (m.r + len) n
  obtain ⟨a0, a1, a2, a3⟩ := mid_k (c := c) (s := m.s) he f0 G.p0 G.q0
  have q := mn1 a3
  have up := up_step n1 r0 r1 hl eq e0
  have hi2 : m.g + (if m.r > 0 then 1 else 0) ≤ T := by
    unfold sgE at hi
    split at hi
    · rename_i h
      rw [if_pos h]
      exact hi
    · rename_i h
      rw [if_neg h]
      omega
  have dist : n * (m.g + (m.r + len) / n) = n * m.g + n * ((m.r + len) / n) := Int.mul_add _ _ _
  rcases write_cases c m.s ((m.r + len) / n) (decide ((m.r + len) % n > 0)) with ⟨z, h⟩ | ⟨z, h⟩
  · have hr : (m.r + len) % n > 0 := of_decide_eq_true h
    have e : wrM c m len "plain" = ⟨m.n, 0, (rest c.h (mid c m.s ((m.r + len) / n)).pend (mid c m.s ((m.r + len) / n)).quick (mid c m.s ((m.r + len) / n)).ack).1, m.g + (m.r + len) / n + 1, m.k + ((mid c m.s ((m.r + len) / n)).ack + mn (mid c m.s ((m.r + len) / n)).quick 1)⟩ := by
      unfold wrM
      rw [nn, z]
      rfl
    rw [e]
    rw [if_pos hr] at up
    refine ⟨nn, Int.le_refl _, by show (0 : Int) < n; omega, ?_, ?_, a2, mx0, by show 0 ≤ m.k + (_ + _); omega, by show m.k + ((mid c m.s ((m.r + len) / n)).ack + mn (mid c m.s ((m.r + len) / n)).quick 1) + (mid c m.s ((m.r + len) / n)).pend ≤ m.g + (m.r + len) / n + 1; omega, rfl⟩
    · show S + len ≤ n * (m.g + (m.r + len) / n + 1) + 0
      rw [Int.mul_add, Int.mul_one]
      omega
    · show m.g + (m.r + len) / n + 1 ≤ T + cd n len
      omega
  · have e : wrM c m len "plain" = ⟨m.n, (m.r + len) % n, ⟨false, (mid c m.s ((m.r + len) / n)).blk, (mid c m.s ((m.r + len) / n)).stk, (mid c m.s ((m.r + len) / n)).pend, (mid c m.s ((m.r + len) / n)).quick⟩, m.g + (m.r + len) / n, m.k + (mid c m.s ((m.r + len) / n)).ack⟩ := by
      unfold wrM
      rw [nn, z]
      rfl
    rw [e]
    refine ⟨nn, e0, e1, ?_, ?_, a2, a3, by show 0 ≤ m.k + _; omega, by show m.k + (mid c m.s ((m.r + len) / n)).ack + (mid c m.s ((m.r + len) / n)).pend ≤ m.g + (m.r + len) / n; omega, rfl⟩
    · show S + len ≤ n * (m.g + (m.r + len) / n) + (m.r + len) % n
      omega
    · show (if (m.r + len) % n > 0 then m.g + (m.r + len) / n + 1 else m.g + (m.r + len) / n) ≤ T + cd n len
      split
      · rename_i h2
        rw [if_pos h2] at up
        omega
      · rename_i h2
        rw [if_neg h2] at up
        omega
/-- its end: segments, acknowledgments, whether it stalls -/
theorem sg_end (n1 : 1 ≤ n) (G : SG n S T m) : cd n S ≤ sgE m ∧ sgE m ≤ T ∧ 0 ≤ m.k + aeA m.s (decide (m.r > 0)) ∧ m.k + aeA m.s (decide (m.r > 0)) ≤ sgE m + aeS m.s (decide (m.r > 0)) := by
  have q := mn1 G.q0
  have lo := G.lo
  have k1 := G.k1
  have k0 := G.k0
  have r0 := G.r0
  have r1 := G.r1
  have p0 := G.p0
  refine ⟨cd_le n1 ?_, G.hi, ?_, ?_⟩
  · unfold sgE
    split
    · rw [Int.mul_add, Int.mul_one]
      omega
    · omega
  · unfold aeA
    split
    · split <;> omega
    · omega
  · unfold aeA aeS sgE
    rw [G.kp]
    by_cases h : m.r > 0
    · rw [if_pos h, decide_eq_true h]
      cases m.s.stk <;> simp <;> omega
    · rw [if_neg h, decide_eq_false h]
      simp
      omega
/-! ### hold off: no rest is ever left -/
structure SF (n T : Int) (m : CrM) : Prop where
  nn : m.n = n
  r0 : m.r = 0
  g : m.g = T
  b : m.s.blk = false
  t : m.s.stk = false
theorem sf_new {q : Int} : SF n 0 (m0 n q) := ⟨rfl, rfl, rfl, rfl, rfl⟩
theorem sf_clear (G : SF n T m) : SF n T (clM c m) := by
  rcases clear_cases c m.s (decide (m.r > 0)) with ⟨z, h⟩ | z
  · have hr : m.r > 0 := of_decide_eq_true h
    have := G.r0
    omega
  · have e : clM c m = ⟨m.n, m.r, ⟨m.s.kept, m.s.stk, m.s.stk, m.s.pend, m.s.quick⟩, m.g, m.k + 0⟩ := by
      unfold clM
      rw [z]
      rfl
    rw [e]
    exact ⟨G.nn, G.r0, G.g, G.t, G.t⟩
theorem sf_clears (G : SF n T m) : ∀ k, SF n T (clK c k m)
  | 0 => G
  | k + 1 => sf_clear (sf_clears G k)
theorem mid_off (hc : c.h = "off") {s : Stc} {full : Int} (hb : s.blk = false) (ht : s.stk = false) : (mid c s full).blk = false ∧ (mid c s full).stk = false := by
  unfold mid
  have h1 : c.h ≠ "all" := by rw [hc]; decide +kernel
  rw [if_neg h1]
  split
  · split
    · exact ⟨hb, rfl⟩
    · exact ⟨hb, ht⟩
  · exact ⟨hb, ht⟩
theorem sf_write (hc : c.h = "off") (n1 : 1 ≤ n) (hl : 0 ≤ len) (G : SF n T m) : SF n (T + cd n len) (wrM c m len "plain") := by
  have nn := G.nn
  have r0 := G.r0
  have g := G.g
  obtain ⟨mb, mt⟩ := mid_off (full := (m.r + len) / n) hc G.b G.t
  have e0 := Int.emod_nonneg (m.r + len) (by omega : n ≠ 0)
  have e1 := Int.emod_lt_of_pos (m.r + len) (show 0 < n by omega)
  have eq := Int.mul_ediv_add_emod (m.r + len) n
  have up := up_step n1 (by omega) (by omega) hl eq e0
  rw [if_neg (show ¬ m.r > 0 by omega)] at up
  have dn : cd n len ≤ (m.r + len) / n + (if (m.r + len) % n > 0 then 1 else 0) := cd_le n1 (by
    rw [Int.mul_add]
    split
    · rw [Int.mul_one]
      omega
    · rw [Int.mul_zero]
      omega)
  rcases write_cases c m.s ((m.r + len) / n) (decide ((m.r + len) % n > 0)) with ⟨z, h⟩ | ⟨z, h⟩
  · have hr : (m.r + len) % n > 0 := of_decide_eq_true h
    have e : wrM c m len "plain" = ⟨m.n, 0, (rest c.h (mid c m.s ((m.r + len) / n)).pend (mid c m.s ((m.r + len) / n)).quick (mid c m.s ((m.r + len) / n)).ack).1, m.g + (m.r + len) / n + 1, m.k + ((mid c m.s ((m.r + len) / n)).ack + mn (mid c m.s ((m.r + len) / n)).quick 1)⟩ := by
      unfold wrM
      rw [nn, z]
      rfl
    rw [e]
    rw [if_pos hr] at up dn
    have ho : decide (c.h = "off") = true := decide_eq_true hc
    refine ⟨nn, rfl, by show m.g + (m.r + len) / n + 1 = T + cd n len; omega, ?_, ?_⟩
    · show (!decide (c.h = "off")) = false
      rw [ho]
      rfl
    · show (!decide (c.h = "off") && _) = false
      rw [ho]
      rfl
  · have hr : ¬ (m.r + len) % n > 0 := fun h2 => by
      have y := h (decide_eq_true h2)
      rw [mb] at y
      cases y
    have e : wrM c m len "plain" = ⟨m.n, (m.r + len) % n, ⟨false, (mid c m.s ((m.r + len) / n)).blk, (mid c m.s ((m.r + len) / n)).stk, (mid c m.s ((m.r + len) / n)).pend, (mid c m.s ((m.r + len) / n)).quick⟩, m.g + (m.r + len) / n, m.k + (mid c m.s ((m.r + len) / n)).ack⟩ := by
      unfold wrM
      rw [nn, z]
      rfl
    rw [e]
    rw [if_neg hr] at up dn
    exact ⟨nn, by show (m.r + len) % n = 0; omega, by show m.g + (m.r + len) / n = T + cd n len; omega, mb, mt⟩
theorem sf_end (G : SF n T m) : sgE m = T ∧ aeS m.s (decide (m.r > 0)) = 0 := by
  have r0 := G.r0
  have h : ¬ m.r > 0 := by omega
  refine ⟨?_, ?_⟩
  · unfold sgE
    rw [if_neg h]
    exact G.g
  · unfold aeS
    rw [decide_eq_false h]
    rfl
/-! ### every 1, quick 0: each full segment is acknowledged -/
structure SK (n F : Int) (m : CrM) : Prop where
  nn : m.n = n
  r0 : 0 ≤ m.r
  p : m.s.pend = 0
  q : m.s.quick = 0
  k : F ≤ m.k
  kp : m.s.kept = false
theorem sk_new : SK n 0 (m0 n 0) := ⟨rfl, Int.le_refl _, rfl, rfl, Int.le_refl _, rfl⟩
theorem sk_clear (G : SK n T m) : SK n T (clM c m) := by
  have k := G.k
  have q := G.q
  have w1 : mn 0 1 = 0 := by decide
  rcases clear_cases c m.s (decide (m.r > 0)) with ⟨z, h⟩ | z
  · have e : clM c m = ⟨m.n, 0, (rest c.h m.s.pend m.s.quick 0).1, m.g + 1, m.k + (0 + mn m.s.quick 1)⟩ := by
      unfold clM
      rw [z]
      rfl
    rw [e]
    refine ⟨G.nn, Int.le_refl _, G.p, by show mx (m.s.quick - 1) 0 = 0; rw [q]; decide, by show T ≤ m.k + (0 + mn m.s.quick 1); rw [q, w1]; omega, rfl⟩
  · have e : clM c m = ⟨m.n, m.r, ⟨m.s.kept, m.s.stk, m.s.stk, m.s.pend, m.s.quick⟩, m.g, m.k + 0⟩ := by
      unfold clM
      rw [z]
      rfl
    rw [e]
    exact ⟨G.nn, G.r0, G.p, q, by show T ≤ m.k + 0; omega, G.kp⟩
theorem sk_clears (G : SK n T m) : ∀ k, SK n T (clK c k m)
  | 0 => G
  | k + 1 => sk_clear (sk_clears G k)
theorem recv_1 {full : Int} (hf : 0 ≤ full) : (recv 1 full 0 0).ack = full ∧ (recv 1 full 0 0).pend = 0 ∧ (recv 1 full 0 0).quick = 0 := by
  have z : mn full 0 = 0 := by
    unfold mn
    split <;> omega
  unfold recv
  rw [if_neg (by decide), z]
  refine ⟨?_, ?_, ?_⟩
  · show 0 + (0 + (full - 0)) / 1 = full
    rw [Int.ediv_one]
    omega
  · show (0 + (full - 0)) % 1 = 0
    exact Int.emod_one _
  · rfl
theorem mid_1 (he : c.e = 1) {s : Stc} {full : Int} (hf : 0 ≤ full) (hp : s.pend = 0) (hq : s.quick = 0) : (mid c s full).ack = full ∧ (mid c s full).pend = 0 ∧ (mid c s full).quick = 0 := by
  have z := recv_1 hf
  unfold mid
  rw [he, hp, hq]
  split
  · split
    · exact z
    · split
      · exact z
      · exact z
  · exact ⟨by show (0 : Int) = full; omega, rfl, rfl⟩
theorem sk_write (he : c.e = 1) (n1 : 1 ≤ n) (hl : 0 ≤ len) (G : SK n T m) : SK n (T + len / n) (wrM c m len "plain") := by
  have nn := G.nn
  have r0 := G.r0
  have k := G.k
  have f0 : 0 ≤ (m.r + len) / n := Int.ediv_nonneg (by omega) (by omega)
  have e0 := Int.emod_nonneg (m.r + len) (by omega : n ≠ 0)
  have fl : len / n ≤ (m.r + len) / n := Int.ediv_le_ediv (by omega) (by omega)
  obtain ⟨a1, a2, a3⟩ := mid_1 he f0 G.p G.q
  have w1 : mn 0 1 = 0 := by decide
  rcases write_cases c m.s ((m.r + len) / n) (decide ((m.r + len) % n > 0)) with ⟨z, h⟩ | ⟨z, h⟩
  · have e : wrM c m len "plain" = ⟨m.n, 0, (rest c.h (mid c m.s ((m.r + len) / n)).pend (mid c m.s ((m.r + len) / n)).quick (mid c m.s ((m.r + len) / n)).ack).1, m.g + (m.r + len) / n + 1, m.k + ((mid c m.s ((m.r + len) / n)).ack + mn (mid c m.s ((m.r + len) / n)).quick 1)⟩ := by
      unfold wrM
      rw [nn, z]
      rfl
    rw [e]
    refine ⟨nn, Int.le_refl _, a2, by show mx ((mid c m.s ((m.r + len) / n)).quick - 1) 0 = 0; rw [a3]; decide, by show T + len / n ≤ m.k + (_ + mn _ 1); rw [a3, w1, a1]; omega, rfl⟩
  · have e : wrM c m len "plain" = ⟨m.n, (m.r + len) % n, ⟨false, (mid c m.s ((m.r + len) / n)).blk, (mid c m.s ((m.r + len) / n)).stk, (mid c m.s ((m.r + len) / n)).pend, (mid c m.s ((m.r + len) / n)).quick⟩, m.g + (m.r + len) / n, m.k + (mid c m.s ((m.r + len) / n)).ack⟩ := by
      unfold wrM
      rw [nn, z]
      rfl
    rw [e]
    exact ⟨nn, e0, a2, a3, by show T + len / n ≤ m.k + _; rw [a1]; omega, rfl⟩
theorem sk_end (G : SK n T m) : T + aeS m.s (decide (m.r > 0)) ≤ m.k + aeA m.s (decide (m.r > 0)) ∧ aeQ m.s (decide (m.r > 0)) = 0 := by
  have k := G.k
  have q := G.q
  have w1 : mn 0 1 = 0 := by decide
  have w2 : mx (0 - 1) 0 = 0 := by decide
  refine ⟨?_, ?_⟩
  · unfold aeA aeS
    rw [G.kp, q, w1]
    cases decide (m.r > 0) <;> cases m.s.stk <;> simp <;> omega
  · unfold aeQ
    rw [q, w2]
    split <;> rfl
end
end Tn

/-! ### sums over the turns -/
namespace Tn
open PySem L3
def sumR (x : Nat → Int) (a : Nat) : Nat → Int
  | 0 => 0
  | k + 1 => sumR x a k + x (a + k)
theorem sumR_add (x : Nat → Int) (a k : Nat) : ∀ m, sumR x a (k + m) = sumR x a k + sumR x (a + k) m
  | 0 => by show sumR x a k = sumR x a k + 0; omega
  | m + 1 => by
    have z := sumR_add x a k m
    show sumR x a (k + m) + x (a + (k + m)) = sumR x a k + (sumR x (a + k) m + x (a + k + m))
    rw [z, show a + (k + m) = a + k + m by omega]
    omega
theorem sumR_eq {x y : Nat → Int} {a b : Nat} : ∀ k, (∀ i, i < k → x (a + i) = y (b + i)) → sumR x a k = sumR y b k
  | 0, _ => rfl
  | k + 1, h => by
    show sumR x a k + x (a + k) = sumR y b k + y (b + k)
    rw [sumR_eq k fun i hi => h i (by omega), h k (by omega)]
theorem sumR_cons (x : Nat → Int) (k : Nat) : sumR x 0 (k + 1) = x 0 + sumR (fun i => x (i + 1)) 0 k := by
  have z := sumR_add x 0 1 k
  rw [Nat.add_comm 1 k] at z
  rw [z]
  have e : sumR x 0 1 = x 0 := by show 0 + x (0 + 0) = x 0; rw [Int.zero_add]
  rw [e]
  congr 1
  exact sumR_eq k fun i _ => by
    show x (0 + 1 + i) = x (0 + i + 1)
    rw [show 0 + 1 + i = 0 + i + 1 by omega]
theorem sumR_list {α : Type} (f : α → Int) (d : α) : ∀ l : List α, sumR (fun i => f (l.getD i d)) 0 l.length = (l.map f).sum
  | [] => rfl
  | y :: r => by
    show sumR (fun i => f ((y :: r).getD i d)) 0 (r.length + 1) = ((y :: r).map f).sum
    rw [sumR_cons, List.map_cons, List.sum_cons, ← sumR_list f d r]
    rfl
theorem sumR_part {α : Type} (f : α → Int) (d : α) (l : List α) (a k : Nat) (h : a + k ≤ l.length) : sumR (fun i => f (l.getD i d)) a k = (((l.drop a).take k).map f).sum := by
  have z := sumR_list f d ((l.drop a).take k)
  have hl : ((l.drop a).take k).length = k := by rw [List.length_take, List.length_drop]; omega
  rw [hl] at z
  rw [← z]
  refine sumR_eq k fun i hi => ?_
  show f (l.getD (a + i) d) = f (((l.drop a).take k).getD (0 + i) d)
  rw [List.getD_eq_getElem?_getD, List.getD_eq_getElem?_getD, List.getElem?_take, if_pos (by omega), List.getElem?_drop, Nat.zero_add]
theorem sumR_le {x y : Nat → Int} {a : Nat} : ∀ k, (∀ i, i < k → x (a + i) ≤ y (a + i)) → sumR x a k ≤ sumR y a k
  | 0, _ => Int.le_refl _
  | k + 1, h => by
    have z := sumR_le k fun i hi => h i (by omega)
    have z2 := h k (by omega)
    show sumR x a k + x (a + k) ≤ sumR y a k + y (a + k)
    omega
theorem sum_append (l m : List Int) : (l ++ m).sum = l.sum + m.sum := by
  induction l with
  | nil => show m.sum = 0 + m.sum; omega
  | cons y r ih => rw [List.cons_append, List.sum_cons, List.sum_cons, ih]; omega
/-- the turns part the writes -/
theorem turn_sums (ws : List Wr) (x : Nat → Int) : ∀ i, i ≤ ws.length → ((tN ws i).1.map fun t => sumR x t.2.1 (t.2.2 - t.2.1)).sum = sumR x 0 (tN ws i).2
  | 0, _ => rfl
  | i + 1, hi => by
    have I := turn_sums ws x i (by omega)
    have hl := tN_le ws i
    show ((tstep ws (tN ws i) (i + 1)).1.map fun t => sumR x t.2.1 (t.2.2 - t.2.1)).sum = sumR x 0 (tstep ws (tN ws i) (i + 1)).2
    unfold tstep
    split
    · rw [List.map_append, sum_append, I]
      show sumR x 0 (tN ws i).2 + ((sumR x (tN ws i).2 (i + 1 - (tN ws i).2)) + 0) = sumR x 0 (i + 1)
      have z := sumR_add x 0 (tN ws i).2 (i + 1 - (tN ws i).2)
      rw [show (tN ws i).2 + (i + 1 - (tN ws i).2) = i + 1 by omega, Nat.zero_add] at z
      omega
    · exact I
theorem turn_fin (ws : List Wr) : (tN ws ws.length).2 = ws.length := (ti_all ws ws.length (Nat.le_refl _)).fin rfl
theorem turn_chain (ws : List Wr) : ∀ i, (tN ws i).1.map (fun t => t.2.2) = (starts (tN ws i).1 ++ [(tN ws i).2]).tail
  | 0 => rfl
  | i + 1 => by
    have I := turn_chain ws i
    show (tstep ws (tN ws i) (i + 1)).1.map (fun t => t.2.2) = (starts (tstep ws (tN ws i) (i + 1)).1 ++ [(tstep ws (tN ws i) (i + 1)).2]).tail
    unfold tstep
    split
    · rw [List.map_append, I]
      show _ ++ [i + 1] = (starts ((tN ws i).1 ++ [(spk ws (tN ws i).2, (tN ws i).2, i + 1)]) ++ [i + 1]).tail
      have e : starts ((tN ws i).1 ++ [(spk ws (tN ws i).2, (tN ws i).2, i + 1)]) = starts (tN ws i).1 ++ [(tN ws i).2] := by
        unfold starts
        rw [List.map_append]
        rfl
      rw [e]
      cases h : starts (tN ws i).1 ++ [(tN ws i).2] with
      | nil => simp at h
      | cons y r => rfl
    · exact I
theorem filt_gap {p : Nat → Bool} {a : Nat} : ∀ k, (∀ j, a ≤ j → j < a + k → p j = false) → (List.range (a + k)).filter p = (List.range a).filter p
  | 0, _ => rfl
  | k + 1, h => by
    rw [show a + (k + 1) = a + k + 1 by omega, List.range_succ, List.filter_append, filt_gap k fun j h1 h2 => h j h1 (by omega)]
    have z := h (a + k) (by omega) (by omega)
    rw [List.filter_cons, z]
    simp
theorem turn_starts (ws : List Wr) : ∀ i, i ≤ ws.length → starts (tN ws i).1 = (List.range (tN ws i).2).filter fun j => decide (isSt ws j)
  | 0, _ => rfl
  | i + 1, hi => by
    have I := turn_starts ws i (by omega)
    have hl := tN_le ws i
    have TI := ti_all ws i (by omega)
    show starts (tstep ws (tN ws i) (i + 1)).1 = (List.range (tstep ws (tN ws i) (i + 1)).2).filter _
    unfold tstep
    split
    · have e : starts ((tN ws i).1 ++ [(spk ws (tN ws i).2, (tN ws i).2, i + 1)]) = starts (tN ws i).1 ++ [(tN ws i).2] := by
        unfold starts
        rw [List.map_append]
        rfl
      show starts ((tN ws i).1 ++ [(spk ws (tN ws i).2, (tN ws i).2, i + 1)]) = (List.range (i + 1)).filter _
      rw [e, I]
      have z := filt_gap (p := fun j => decide (isSt ws j)) (a := (tN ws i).2 + 1) (i - (tN ws i).2) fun j h1 h2 => by
        refine decide_eq_false fun hs => ?_
        rcases hs with h0 | h0
        · omega
        · have r1 := TI.run (by omega) (j - 1) (by omega) (by omega)
          have r2 := TI.run (by omega) j (by omega) (by omega)
          exact h0 (r1.trans r2.symm)
      rw [show (tN ws i).2 + 1 + (i - (tN ws i).2) = i + 1 by omega] at z
      rw [z, List.range_succ, List.filter_append]
      have h1 : decide (isSt ws (tN ws i).2) = true := decide_eq_true (TI.here (by omega))
      rw [List.filter_cons, h1]
      rfl
    · exact I
/-- where turns begin -/
def stsM (ws : List Wr) : List Nat := (List.range ws.length).filter fun j => decide (isSt ws j)
/-- their beginnings and their ends -/
def runsM (ws : List Wr) : List (Nat × Nat) := (stsM ws).zip ((stsM ws).drop 1 ++ [ws.length])
theorem sts_eq (ws : List Wr) : stsM ws = starts (turnsM ws) := by
  have z := turn_starts ws ws.length (Nat.le_refl _)
  rw [turn_fin] at z
  exact z.symm
theorem zip_maps {α β γ : Type} (f : α → β) (g : α → γ) : ∀ l : List α, (l.map f).zip (l.map g) = l.map fun t => (f t, g t)
  | [] => rfl
  | y :: r => by
    rw [List.map_cons, List.map_cons, List.zip_cons_cons, zip_maps f g r]
    rfl
theorem runs_eq (ws : List Wr) : runsM ws = (turnsM ws).map fun t => (t.2.1, t.2.2) := by
  have c := turn_chain ws ws.length
  rw [turn_fin] at c
  have e := sts_eq ws
  unfold runsM
  rw [e]
  show (starts (turnsM ws)).zip ((starts (turnsM ws)).drop 1 ++ [ws.length]) = _
  have c : (turnsM ws).map (fun t => t.2.2) = (starts (turnsM ws) ++ [ws.length]).tail := c
  rw [← zip_maps]
  cases h : starts (turnsM ws) with
  | nil =>
    have h' : (turnsM ws).map (fun t => t.2.1) = [] := h
    rw [h']
    rfl
  | cons y r =>
    have h' : (turnsM ws).map (fun t => t.2.1) = y :: r := h
    rw [h', c, h]
    rfl
/-! ### an outcome between its bounds -/
/-- writes of one kind, of good lengths -/
def PlainW (ws : List Wr) : Prop := ∀ j, j < ws.length → (ws.getD j (0, 0, "")).2.2 = "plain" ∧ 1 ≤ (ws.getD j (0, 0, "")).2.1
abbrev lenR (ws : List Wr) : Nat → Int := fun j => (ws.getD j (0, 0, "")).2.1
section
variable {c : Cf} {n q : Int} {ws : List Wr} {ns : List Int} {a : Nat}
theorem sg_run (he : 0 ≤ c.e) (n1 : 1 ≤ n) (hq : 0 ≤ q) (pw : PlainW ws) : ∀ k, a + k ≤ ws.length → SG n (sumR (lenR ws) a k) (sumR (fun j => cd n (lenR ws j)) a k) (runT c n q ws ns a k)
  | 0, _ => sg_new n1 hq
  | k + 1, h => by
    obtain ⟨z1, z2⟩ := pw (a + k) (by omega)
    have z2 : 1 ≤ lenR ws (a + k) := z2
    show SG n _ _ (wrM c (clK c (ns.getD (a + k) 0).toNat (runT c n q ws ns a k)) (ws.getD (a + k) (0, 0, "")).2.1 (ws.getD (a + k) (0, 0, "")).2.2)
    rw [z1]
    exact sg_write he n1 (by omega) (sg_clears n1 (sg_run he n1 hq pw k (by omega)) _)
theorem sf_run (hc : c.h = "off") (n1 : 1 ≤ n) (pw : PlainW ws) : ∀ k, a + k ≤ ws.length → SF n (sumR (fun j => cd n (lenR ws j)) a k) (runT c n q ws ns a k)
  | 0, _ => sf_new
  | k + 1, h => by
    obtain ⟨z1, z2⟩ := pw (a + k) (by omega)
    have z2 : 1 ≤ lenR ws (a + k) := z2
    show SF n _ (wrM c (clK c (ns.getD (a + k) 0).toNat (runT c n q ws ns a k)) (ws.getD (a + k) (0, 0, "")).2.1 (ws.getD (a + k) (0, 0, "")).2.2)
    rw [z1]
    exact sf_write hc n1 (by omega) (sf_clears (sf_run hc n1 pw k (by omega)) _)
theorem sk_run (he : c.e = 1) (n1 : 1 ≤ n) (pw : PlainW ws) : ∀ k, a + k ≤ ws.length → SK n (sumR (fun j => lenR ws j / n) a k) (runT c n 0 ws ns a k)
  | 0, _ => sk_new
  | k + 1, h => by
    obtain ⟨z1, z2⟩ := pw (a + k) (by omega)
    have z2 : 1 ≤ lenR ws (a + k) := z2
    show SK n _ (wrM c (clK c (ns.getD (a + k) 0).toNat (runT c n 0 ws ns a k)) (ws.getD (a + k) (0, 0, "")).2.1 (ws.getD (a + k) (0, 0, "")).2.2)
    rw [z1]
    exact sk_write he n1 (by omega) (sk_clears (sk_run he n1 pw k (by omega)) _)
theorem ae01 (s : Stc) (has : Bool) : aeS s has = 0 ∨ aeS s has = 1 := by
  unfold aeS
  split
  · exact Or.inr rfl
  · exact Or.inl rfl
theorem aeQ0 {s : Stc} {has : Bool} (h : 0 ≤ s.quick) : 0 ≤ aeQ s has := by
  unfold aeQ
  split
  · exact mx0
  · exact h
theorem st_len {l : List Int} {x y : Int} (h : x = 0 ∨ x = 1) : (((if x > 0 then l ++ [y] else l).length : Nat) : Int) = (l.length : Int) + x := by
  rcases h with rfl | rfl
  · rw [if_neg (by decide)]
    omega
  · rw [if_pos (by decide), List.length_append, List.length_singleton]
    omega
end
section
variable {h h2 : Str} {e u e2 u2 n : Int} {ws : List Wr} {ns : List Int}
abbrev trn (ws : List Wr) (i : Nat) : Int × Nat × Nat := (turnsM ws).getD i (0, 0, 0)
abbrev loR (n : Int) (ws : List Wr) : Nat → Int := fun i => cd n (sumR (lenR ws) (trn ws i).2.1 ((trn ws i).2.2 - (trn ws i).2.1))
abbrev hiR (n : Int) (ws : List Wr) : Nat → Int := fun i => sumR (fun j => cd n (lenR ws j)) (trn ws i).2.1 ((trn ws i).2.2 - (trn ws i).2.1)
abbrev fuR (n : Int) (ws : List Wr) : Nat → Int := fun i => sumR (fun j => lenR ws j / n) (trn ws i).2.1 ((trn ws i).2.2 - (trn ws i).2.1)
theorem trn_in {i : Nat} (hi : i < (turnsM ws).length) : (trn ws i).2.1 + ((trn ws i).2.2 - (trn ws i).2.1) ≤ ws.length := by
  have m : trn ws i ∈ turnsM ws := by
    show (turnsM ws).getD i (0, 0, 0) ∈ turnsM ws
    rw [List.getD_eq_getElem?_getD, List.getElem?_eq_getElem hi]
    exact List.getElem_mem hi
  obtain ⟨z1, z2, _, z4⟩ := turn_in (ws := ws) ws.length (Nat.le_refl _) _ m
  omega
structure OB (n : Int) (ws : List Wr) (i : Nat) (O : Ou) : Prop where
  q0 : 0 ≤ O.q0
  q1 : 0 ≤ O.q1
  lo : sumR (loR n ws) 0 i ≤ O.seg
  hi : O.seg ≤ sumR (hiR n ws) 0 i
  k0 : 0 ≤ O.ack
  k1 : O.ack ≤ O.seg + (O.st.length : Int)
theorem cf_e {s : Int} (he : 0 ≤ e) (he2 : 0 ≤ e2) : 0 ≤ (Lw.cfOf s h e h2 e2).e := by
  unfold Lw.cfOf
  split <;> assumption
theorem ob_all (he : 0 ≤ e) (he2 : 0 ≤ e2) (hu : 0 ≤ u) (hu2 : 0 ≤ u2) (n1 : 1 ≤ n) (pw : PlainW ws) : ∀ i, i ≤ (turnsM ws).length → OB n ws i (outN h e u h2 e2 u2 n ws ns i)
  | 0, _ => ⟨hu, hu2, Int.le_refl _, Int.le_refl _, Int.le_refl _, Int.le_refl _⟩
  | i + 1, hi => by
    have I := ob_all he he2 hu hu2 n1 pw i (by omega)
    show OB n ws (i + 1) (stepT h e h2 e2 n ws ns i (outN h e u h2 e2 u2 n ws ns i) (trn ws i))
    obtain ⟨O, hO⟩ : ∃ O, O = outN h e u h2 e2 u2 n ws ns i := ⟨_, rfl⟩
    rw [← hO] at I ⊢
    obtain ⟨qq, hq⟩ : ∃ qq, qq = if (trn ws i).1 = 0 then O.q1 else O.q0 := ⟨_, rfl⟩
    have hq0 : 0 ≤ qq := by
      rw [hq]
      split
      · exact I.q1
      · exact I.q0
    have G := sg_run (c := Lw.cfOf (trn ws i).1 h e h2 e2) (ns := ns) (cf_e he he2) n1 hq0 pw _ (trn_in (ws := ws) (i := i) (by omega))
    have Ed := sg_end n1 G
    have Q := G.q0
    unfold stepT
    dsimp only
    rw [← hq]
    obtain ⟨m, hm⟩ : ∃ m, m = runT (Lw.cfOf (trn ws i).1 h e h2 e2) n qq ws ns (trn ws i).2.1 ((trn ws i).2.2 - (trn ws i).2.1) := ⟨_, rfl⟩
    rw [← hm] at Ed Q ⊢
    obtain ⟨E1, E2, E3, E4⟩ := Ed
    have sl := st_len (l := O.st) (x := aeS m.s (decide (m.r > 0))) (y := (i : Int)) (ae01 _ _)
    have l1 : sumR (loR n ws) 0 (i + 1) = sumR (loR n ws) 0 i + loR n ws (0 + i) := rfl
    have l2 : sumR (hiR n ws) 0 (i + 1) = sumR (hiR n ws) 0 i + hiR n ws (0 + i) := rfl
    rw [Nat.zero_add] at l1 l2
    have a1 := I.lo
    have a2 := I.hi
    have a3 := I.k0
    have a4 := I.k1
    have b1 : loR n ws i ≤ sgE m := E1
    have b2 : sgE m ≤ hiR n ws i := E2
    refine ⟨?_, ?_, ?_, ?_, ?_, ?_⟩
    · show 0 ≤ if (trn ws i).1 = 0 then O.q0 else aeQ m.s (decide (m.r > 0))
      split
      · exact I.q0
      · exact aeQ0 Q
    · show 0 ≤ if (trn ws i).1 = 0 then aeQ m.s (decide (m.r > 0)) else O.q1
      split
      · exact aeQ0 Q
      · exact I.q1
    · show sumR (loR n ws) 0 (i + 1) ≤ O.seg + sgE m
      omega
    · show O.seg + sgE m ≤ sumR (hiR n ws) 0 (i + 1)
      omega
    · show 0 ≤ O.ack + (m.k + aeA m.s (decide (m.r > 0)))
      omega
    · show O.ack + (m.k + aeA m.s (decide (m.r > 0))) ≤ O.seg + sgE m + (((if aeS m.s (decide (m.r > 0)) > 0 then O.st ++ [(i : Int)] else O.st).length : Nat) : Int)
      rw [sl]
      omega
theorem off_all (n1 : 1 ≤ n) (pw : PlainW ws) : ∀ i, i ≤ (turnsM ws).length → (outN "off" e u "off" e2 u2 n ws ns i).seg = sumR (hiR n ws) 0 i ∧ (outN "off" e u "off" e2 u2 n ws ns i).st = []
  | 0, _ => ⟨rfl, rfl⟩
  | i + 1, hi => by
    have I := off_all n1 pw i (by omega)
    show (stepT "off" e "off" e2 n ws ns i (outN "off" e u "off" e2 u2 n ws ns i) (trn ws i)).seg = _ ∧ (stepT "off" e "off" e2 n ws ns i (outN "off" e u "off" e2 u2 n ws ns i) (trn ws i)).st = _
    obtain ⟨O, hO⟩ : ∃ O, O = outN "off" e u "off" e2 u2 n ws ns i := ⟨_, rfl⟩
    rw [← hO] at I ⊢
    obtain ⟨qq, hq⟩ : ∃ qq, qq = if (trn ws i).1 = 0 then O.q1 else O.q0 := ⟨_, rfl⟩
    have hc : (Lw.cfOf (trn ws i).1 "off" e "off" e2).h = "off" := by
      unfold Lw.cfOf
      split <;> rfl
    have G := sf_run (q := qq) (ns := ns) hc n1 pw _ (trn_in (ws := ws) (i := i) (by omega))
    obtain ⟨E1, E2⟩ := sf_end G
    unfold stepT
    dsimp only
    rw [← hq]
    obtain ⟨m, hm⟩ : ∃ m, m = runT (Lw.cfOf (trn ws i).1 "off" e "off" e2) n qq ws ns (trn ws i).2.1 ((trn ws i).2.2 - (trn ws i).2.1) := ⟨_, rfl⟩
    rw [← hm] at E1 E2 ⊢
    have l2 : sumR (hiR n ws) 0 (i + 1) = sumR (hiR n ws) 0 i + hiR n ws (0 + i) := rfl
    rw [Nat.zero_add] at l2
    refine ⟨?_, ?_⟩
    · show O.seg + sgE m = _
      rw [l2, I.1, E1]
    · rw [E2, if_neg (by decide), I.2]
structure OE (n : Int) (ws : List Wr) (i : Nat) (O : Ou) : Prop where
  q0 : O.q0 = 0
  q1 : O.q1 = 0
  k : sumR (fuR n ws) 0 i + (O.st.length : Int) ≤ O.ack
theorem oe_all (n1 : 1 ≤ n) (pw : PlainW ws) : ∀ i, i ≤ (turnsM ws).length → OE n ws i (outN h 1 0 h2 1 0 n ws ns i)
  | 0, _ => ⟨rfl, rfl, Int.le_refl _⟩
  | i + 1, hi => by
    have I := oe_all n1 pw i (by omega)
    show OE n ws (i + 1) (stepT h 1 h2 1 n ws ns i (outN h 1 0 h2 1 0 n ws ns i) (trn ws i))
    obtain ⟨O, hO⟩ : ∃ O, O = outN h 1 0 h2 1 0 n ws ns i := ⟨_, rfl⟩
    rw [← hO] at I ⊢
    have hq : (if (trn ws i).1 = 0 then O.q1 else O.q0) = 0 := by
      split
      · exact I.q1
      · exact I.q0
    have he : (Lw.cfOf (trn ws i).1 h 1 h2 1).e = 1 := by
      unfold Lw.cfOf
      split <;> rfl
    have G := sk_run (ns := ns) he n1 pw _ (trn_in (ws := ws) (i := i) (by omega))
    obtain ⟨E1, E2⟩ := sk_end G
    unfold stepT
    dsimp only
    rw [hq]
    obtain ⟨m, hm⟩ : ∃ m, m = runT (Lw.cfOf (trn ws i).1 h 1 h2 1) n 0 ws ns (trn ws i).2.1 ((trn ws i).2.2 - (trn ws i).2.1) := ⟨_, rfl⟩
    rw [← hm] at E1 E2 ⊢
    have sl := st_len (l := O.st) (x := aeS m.s (decide (m.r > 0))) (y := (i : Int)) (ae01 _ _)
    have l2 : sumR (fuR n ws) 0 (i + 1) = sumR (fuR n ws) 0 i + fuR n ws (0 + i) := rfl
    rw [Nat.zero_add] at l2
    have a := I.k
    have b : fuR n ws i + aeS m.s (decide (m.r > 0)) ≤ m.k + aeA m.s (decide (m.r > 0)) := E1
    refine ⟨?_, ?_, ?_⟩
    · show (if (trn ws i).1 = 0 then O.q0 else aeQ m.s (decide (m.r > 0))) = 0
      split
      · exact I.q0
      · exact E2
    · show (if (trn ws i).1 = 0 then aeQ m.s (decide (m.r > 0)) else O.q1) = 0
      split
      · exact E2
      · exact I.q1
    · show sumR (fuR n ws) 0 (i + 1) + (((if aeS m.s (decide (m.r > 0)) > 0 then O.st ++ [(i : Int)] else O.st).length : Nat) : Int) ≤ O.ack + (m.k + aeA m.s (decide (m.r > 0)))
      rw [sl]
      omega
/-! ### as the law reckons them -/
/-- the bytes of a part -/
def partS (ws : List Wr) (p : Nat × Nat) : Int := (((ws.drop p.1).take (p.2 - p.1)).map fun w => w.2.1).sum
def lowM (n : Int) (ws : List Wr) : Int := (((runsM ws).map (partS ws)).map (cd n)).sum
def highM (n : Int) (ws : List Wr) : Int := (ws.map fun w => cd n w.2.1).sum
def fullM (n : Int) (ws : List Wr) : Int := (ws.map fun w => w.2.1 / n).sum
theorem runs_len : (runsM ws).length = (turnsM ws).length := by rw [runs_eq, List.length_map]
theorem runs_in {p : Nat × Nat} (h : p ∈ runsM ws) : p.1 < p.2 ∧ p.2 ≤ ws.length := by
  rw [runs_eq] at h
  obtain ⟨t, ht, rfl⟩ := List.mem_map.mp h
  obtain ⟨_, z2, _, z4⟩ := turn_in (ws := ws) ws.length (Nat.le_refl _) _ ht
  exact ⟨z4, z2⟩
theorem low_eq : sumR (loR n ws) 0 (turnsM ws).length = lowM n ws := by
  have z := sumR_list (fun t : Int × Nat × Nat => cd n (sumR (lenR ws) t.2.1 (t.2.2 - t.2.1))) (0, 0, 0) (turnsM ws)
  refine z.trans ?_
  unfold lowM
  rw [runs_eq, List.map_map, List.map_map]
  congr 1
  refine List.map_congr_left fun t ht => ?_
  obtain ⟨_, z2, _, z4⟩ := turn_in (ws := ws) ws.length (Nat.le_refl _) _ ht
  show cd n (sumR (lenR ws) t.2.1 (t.2.2 - t.2.1)) = cd n (partS ws (t.2.1, t.2.2))
  congr 1
  exact sumR_part (fun w : Wr => w.2.1) (0, 0, "") ws t.2.1 (t.2.2 - t.2.1) (by omega)
theorem all_eq (x : Nat → Int) : sumR (fun i => sumR x (trn ws i).2.1 ((trn ws i).2.2 - (trn ws i).2.1)) 0 (turnsM ws).length = sumR x 0 ws.length := by
  have z := sumR_list (fun t : Int × Nat × Nat => sumR x t.2.1 (t.2.2 - t.2.1)) (0, 0, 0) (turnsM ws)
  refine z.trans ?_
  have y := turn_sums ws x ws.length (Nat.le_refl _)
  rw [turn_fin] at y
  exact y
theorem high_eq : sumR (hiR n ws) 0 (turnsM ws).length = highM n ws := (all_eq _).trans (sumR_list (fun w : Wr => cd n w.2.1) (0, 0, "") ws)
theorem full_eq : sumR (fuR n ws) 0 (turnsM ws).length = fullM n ws := (all_eq _).trans (sumR_list (fun w : Wr => w.2.1 / n) (0, 0, "") ws)
end
end Tn

namespace L3
open PySem PySem.Spec PyProof.Rows L2 Evl
section
variable {K : PySem.W.Frag} {B : Hp} {σ : L2.St} {H : Hp} {te tl ta tb : TE}
theorem new_past {H4 H' : Hp} {Dl : Addr} {o : HO} (hb : Ex B H') (h : H' Dl = some o) : Ex (newIn H4 H') (newIn (del H4 Dl) B) := fun b u hu => by
  cases q : H' b with
  | some v =>
    rw [new_off q] at hu
    cases hu
  | none =>
    rw [new_at q] at hu
    rw [new_at (fresh_back hb q)]
    have n : b ≠ Dl := fun z => by
      rw [z, h] at q
      cases q
    rw [del_ne n]
    exact hu
theorem el_cat {xs ys : List V} (h1 : EvL ta σ H xs) (h2 : EvL tb σ H ys) (hl : xs.length + ys.length ≤ 100000) : EvL (tOp rCat ta tb) σ H (xs ++ ys) := fun H1 e Q q =>
  h1 H1 e _ fun p H2 _ e2 hp => h2 H2 (e.trans e2) _ fun p3 H3 _ e3 h3 => ⟨p, p3, xs, ys, rfl, rfl, e3 _ _ hp, h3, sz_of hl, fun pz hz => q pz _ (fresh_back (e2.trans e3) hz) ((e2.trans e3).trans (Ex.new hz)) upd_same⟩
theorem given_all {n : Nat} {v : Nat → V} : given n (fun _ => true) v = (List.range n).map v := by
  unfold given
  rw [List.filter_eq_self.mpr fun _ _ => rfl]
/-- a list by name or new -/
def EvS (K : PySem.W.Frag) (tl : TE) (σ : L2.St) (H : Hp) (xs : List V) : Prop := ∀ H0, Ex H H0 → ∀ Q : VK, (∀ a H1, Ex H0 H1 → SqL K H1 a xs → Q (.ref a) H1) → tl σ H0 Q
theorem es_var {a : Addr} {xs : List V} (h : Ev tl σ H (.ref a)) (hx : SqL K H a xs) : EvS K tl σ H xs := fun H0 e Q q => h H0 e _ fun H1 e1 => q a H1 e1 (ex_l (e.trans e1) hx)
theorem es_new {xs : List V} (h : EvL tl σ H xs) : EvS K tl σ H xs := fun H0 e Q q => h H0 e _ fun p H1 _ e1 hp => q p H1 e1 (sq_of hp)
/-- a comprehension over a list, of known values, behind any target -/
theorem el_lcG {xs : List V} {g : TG} {vs : List Nat} (v : Nat → V) (τ : Nat → L2.St) (h : EvS K tl σ H xs) (hz : xs.length ≤ 40000) (hw : ∀ i, i < xs.length → wipe (τ i) vs = wipe σ vs)
    (hg : ∀ (i : Nat) (x : V) (H1 : Hp), Ex H H1 → xs[i]? = some x → ∀ Q : L2.St → Hp → Prop, Q (τ i) H1 → g x (wipe σ vs) H1 Q)
    (he : ∀ (i : Nat) (x : V) (H1 : Hp), Ex H H1 → xs[i]? = some x → Ev te (τ i) H1 (v i)) : EvL (tLc (iList K tl) g tYes te vs) σ H ((List.range xs.length).map v) := by
  intro H0 e Q q
  refine h H0 e _ fun a H1 e1 hx => ⟨a, rfl, ⟨xs, hx⟩, fun Dl hD => ?_⟩
  refine lc_list (xs := xs) (Cw H1 (fun _ => true) v Dl) ⟨hD, Ex.new hD, upd_same⟩ (fun i H' _ p => ex_l p.2.1 hx) (fun i x H' hi p => ?_) (fun H' p => q Dl H' (fresh_back e1 p.1) (e1.trans p.2.1) ?_)
  · have hi2 := (List.getElem?_eq_some_iff.mp hi).1
    exact hg i x H' ((e.trans e1).trans p.2.1) hi _ ⟨hw i hi2, cw_turn p (by omega) (fun H1 e Q q => q H1 (Ex.refl H1)) fun _ => he i x H1 (e.trans e1) hi⟩
  · have z := p.2.2
    rw [given_all] at z
    exact z
/-- the same of new data -/
theorem lc_dat {H1 : Hp} {a : Addr} {xs : List V} {g : TG} {vs : List Nat} {R : Addr → Hp → Prop} (ds : Nat → PyData) (τ : Nat → L2.St) (hx : SqL K H1 a xs) (hz : xs.length ≤ 40000) (hb : Ex B H1) (hw : ∀ i, i < xs.length → wipe (τ i) vs = wipe σ vs)
    (hg : ∀ (i : Nat) (x : V) (H2 : Hp), Ex H1 H2 → xs[i]? = some x → ∀ Q : L2.St → Hp → Prop, Q (τ i) H2 → g x (wipe σ vs) H2 Q)
    (he : ∀ (i : Nat) (x : V) (H2 B' : Hp), Ex H1 H2 → xs[i]? = some x → Ex B' H2 → DvE K B' te (τ i) H2 (ds i))
    (q : ∀ p zs H2, Ex H1 H2 → B p = none → H1 p = none → H2 p = some (.lst zs) → DpAll K (newIn H2 B) zs ((List.range xs.length).map ds) → R p H2) :
    ∀ D, H1 D = none → ∃ W : Nat → Nat → Hp → Prop, (∃ m, W 0 m (upd H1 D (.lst []))) ∧ ∀ i m H, W i m H → ((Itl K a).stop i H ∧ R D H) ∨ ((Itl K a).go i H ∧ ∃ Nx : Hp → Prop, (∀ H', Nx H' → ∃ m', m' < m ∧ W (i + 1) m' H') ∧
      ∀ x H', (Itl K a).yld i H x H' → g x (wipe σ vs) H' fun σ2 H2 => wipe σ2 vs = wipe σ vs ∧ tYes σ2 H2 fun b H3 => if b = true then te σ2 H3 fun y H4 => ∃ acc, H4 D = some (.lst acc) ∧ acc.length < sizeLine ∧ Nx (upd H4 D (.lst (acc ++ [y]))) else Nx H3) := by
  intro Dl hD
  have hB : B Dl = none := fresh_back hb hD
  refine lc_list (xs := xs) (Qd := fun H => R Dl H) (fun i H' => Ex H1 H' ∧ ∃ acc, H' Dl = some (.lst acc) ∧ acc.length = i ∧ DpAll K (newIn (del H' Dl) B) acc ((List.range i).map ds)) ⟨Ex.new hD, [], upd_same, rfl, .nil⟩ (fun i H' _ p => ex_l p.1 hx) (fun i x H' hi p => ?_) (fun H' p => ?_)
  · obtain ⟨p1, acc, p2, p3, p4⟩ := p
    have hi2 := (List.getElem?_eq_some_iff.mp hi).1
    refine hg i x H' p1 hi _ ⟨hw i hi2, ?_⟩
    show te _ H' _
    refine he i x H' H' p1 hi (Ex.refl H') H' (Ex.refl H') _ fun z H4 e4 hz4 => ⟨acc, e4 _ _ p2, sz_of (by omega), ?_⟩
    have hh := hb.trans p1
    refine ⟨?_, acc ++ [z], upd_same, by rw [List.length_append, p3]; rfl, ?_⟩
    · intro b u hu
      have nb : b ≠ Dl := ne_of_none hu hD
      rw [upd_ne nb]
      exact e4 _ _ (p1 _ _ hu)
    · rw [del_upd, List.range_succ, List.map_append]
      exact dps_app (dps_ex (new_ex (ex_del e4)) p4) (.cons (dp_ex (new_past hh p2) hz4) .nil)
  · obtain ⟨p1, acc, p2, p3, p4⟩ := p
    exact q Dl acc H' p1 hB hD p2 (dps_ex (new_ex ex_del_self) p4)
/-- over zip of two lists, the first no longer than the second, of new data -/
theorem lc_zipS {a b : Addr} {xs ys : List V} {g : TG} {tt : TT} {te : TE} {vs : List Nat} {σ : L2.St} {H1 : Hp} {D : Addr} {Qd : Hp → Prop} (hlen : xs.length ≤ ys.length) (Pv : Nat → Hp → Prop) (h0 : Pv 0 (upd H1 D (.lst []))) (hl : ∀ i H, i ≤ xs.length → Pv i H → SqL K H a xs ∧ SqL K H b ys)
    (hs : ∀ i x y T H, xs[i]? = some x → ys[i]? = some y → Pv i H → H T = none → g (.ref T) (wipe σ vs) (upd H T (.tup [x, y])) fun σ2 H2 => wipe σ2 vs = wipe σ vs ∧ tt σ2 H2 fun b H3 =>
      if b = true then te σ2 H3 fun y H4 => ∃ acc, H4 D = some (.lst acc) ∧ acc.length < sizeLine ∧ Pv (i + 1) (upd H4 D (.lst (acc ++ [y]))) else Pv (i + 1) H3) (hd : ∀ H, Pv xs.length H → Qd H) :
    ∃ W : Nat → Nat → Hp → Prop, (∃ m, W 0 m (upd H1 D (.lst []))) ∧ ∀ i m H, W i m H →
      ((Itz K a b).stop i H ∧ Qd H) ∨ ((Itz K a b).go i H ∧ ∃ Nx : Hp → Prop, (∀ H', Nx H' → ∃ m', m' < m ∧ W (i + 1) m' H') ∧ ∀ x H', (Itz K a b).yld i H x H' → g x (wipe σ vs) H' fun σ2 H2 => wipe σ2 vs = wipe σ vs ∧ tt σ2 H2 fun b H3 =>
        if b = true then te σ2 H3 fun y H4 => ∃ acc, H4 D = some (.lst acc) ∧ acc.length < sizeLine ∧ Nx (upd H4 D (.lst (acc ++ [y]))) else Nx H3) := by
  refine ⟨fun i m H => m = xs.length - i ∧ i ≤ xs.length ∧ Pv i H, ⟨xs.length, by simp, Nat.zero_le _, h0⟩, ?_⟩
  rintro i m H ⟨rfl, hi, p⟩
  obtain ⟨qx, qy⟩ := hl i H hi p
  by_cases hlt : i < xs.length
  · have hx : xs[i]? = some xs[i] := List.getElem?_eq_getElem hlt
    have hlt2 : i < ys.length := by omega
    have hy : ys[i]? = some ys[i] := List.getElem?_eq_getElem hlt2
    refine .inr ⟨⟨xs, ys, _, _, qx, qy, hx, hy⟩, Pv (i + 1), fun H' p' => ⟨xs.length - (i + 1), by omega, rfl, hlt, p'⟩, fun x H' yl => ?_⟩
    obtain ⟨T, x', y', rfl, hT, rfl, f1, f2⟩ := yl
    exact hs i x' y' T H (f1 xs qx) (f2 ys qy) p hT
  · have e : i = xs.length := by omega
    subst e
    exact .inl ⟨⟨xs, ys, qx, qy, Or.inl (Nat.le_refl _)⟩, hd H p⟩
theorem dl_lcZ {xs ys : List V} {ta : TA} {j j2 : Nat} {vs : List Nat} (ds : Nat → PyData) (h : ∀ H1, Ex H H1 → ∀ Q : List V → Hp → Prop, (∀ a b H2, Ex H1 H2 → SqL K H2 a xs → SqL K H2 b ys → Q [.ref a, .ref b] H2) → ta σ H1 Q) (hlen : xs.length ≤ ys.length) (hz : xs.length ≤ 40000)
    (hw : ∀ x y, wipe (((wipe σ vs).set j (some x)).set j2 (some y)) vs = wipe σ vs) (hb : Ex B H)
    (he : ∀ (i : Nat) (x y : V) (H1 B' : Hp), Ex H H1 → xs[i]? = some x → ys[i]? = some y → Ex B' H1 → DvE K B' te (((wipe σ vs).set j (some x)).set j2 (some y)) H1 (ds i)) :
    DvL K B (tLc (iZip K ta) (gTup K 2 (gCons (gName j) (gCons (gName j2) gNil))) tYes te vs) σ H ((List.range xs.length).map ds) := by
  intro H0 e Q q
  refine h H0 e _ fun a b H1 e1 ha hb2 => ⟨a, b, xs, ys, rfl, ha, hb2, fun Dl hD => ?_⟩
  have hB : B Dl = none := fresh_back ((hb.trans e).trans e1) hD
  refine lc_zipS hlen (fun i H' => Ex H1 H' ∧ ∃ acc, H' Dl = some (.lst acc) ∧ acc.length = i ∧ DpAll K (newIn (del H' Dl) B) acc ((List.range i).map ds)) ⟨Ex.new hD, [], upd_same, rfl, .nil⟩ (fun i H' _ p => ⟨ex_l p.1 ha, ex_l p.1 hb2⟩) (fun i x y T H' hx hy p hT => ?_) (fun H' p => ?_)
  · obtain ⟨p1, acc, p2, p3, p4⟩ := p
    have hi2 := (List.getElem?_eq_some_iff.mp hx).1
    refine ⟨T, [x, y], rfl, st_of upd_same, rfl, x, [y], rfl, y, [], rfl, rfl, hw x y, ?_⟩
    have exT : Ex H' (upd H' T (.tup [x, y])) := Ex.new hT
    have p1' := p1.trans exT
    have p2' : (upd H' T (.tup [x, y])) Dl = some (.lst acc) := exT _ _ p2
    have p4' : DpAll K (newIn (del (upd H' T (.tup [x, y])) Dl) B) acc ((List.range i).map ds) := dps_ex (new_ex (ex_del exT)) p4
    generalize upd H' T (.tup [x, y]) = HT at p1' p2' p4'
    show te _ HT _
    refine he i x y HT HT ((e.trans e1).trans p1') hx hy (Ex.refl HT) HT (Ex.refl HT) _ fun z H4 e4 hz4 => ⟨acc, e4 _ _ p2', sz_of (by omega), ?_⟩
    have hh := ((hb.trans e).trans e1).trans p1'
    refine ⟨?_, acc ++ [z], upd_same, by rw [List.length_append, p3]; rfl, ?_⟩
    · intro b u hu
      have nb : b ≠ Dl := ne_of_none hu hD
      rw [upd_ne nb]
      exact e4 _ _ (p1' _ _ hu)
    · rw [del_upd, List.range_succ, List.map_append]
      exact dps_app (dps_ex (new_ex (ex_del e4)) p4') (.cons (dp_ex (new_past hh p2') hz4) .nil)
  · obtain ⟨p1, acc, p2, p3, p4⟩ := p
    exact q Dl acc H' (e1.trans p1) hB p2 (dps_ex (new_ex ex_del_self) p4)
theorem ev_sumL {ns : List Int} (h : EvL te σ H (ns.map V.int)) : Ev (tCB (rSum K) (tCons te tNil)) σ H (.int ns.sum) := fun H1 e Q q => h H1 e _ fun p H2 _ e2 hp => ⟨p, ns, rfl, sq_of hp, q H2 e2⟩
theorem ev_sumV {ns : List Int} {p : Addr} (h : Ev te σ H (.ref p)) (hp : SqL K H p (ns.map V.int)) : Ev (tCB (rSum K) (tCons te tNil)) σ H (.int ns.sum) := fun H1 e Q q => h H1 e _ fun H2 e2 => ⟨p, ns, rfl, ex_l (e.trans e2) hp, q H2 e2⟩
theorem cut_mid {xs : List V} {a b : Nat} (h1 : a ≤ b) (h2 : b ≤ xs.length) : cutV xs (some (a : Int)) (some (b : Int)) = (xs.drop a).take (b - a) := by
  unfold cutV
  have e1 : HT.sIx xs.length 0 (some (a : Int)) = a := by
    show (if (a : Int) < 0 then ((a : Int) + (xs.length : Int)).toNat else min ((a : Int).toNat) xs.length) = a
    rw [if_neg (by omega), Int.toNat_natCast, Nat.min_eq_left (by omega)]
  have e2 : HT.sIx xs.length xs.length (some (b : Int)) = b := by
    show (if (b : Int) < 0 then ((b : Int) + (xs.length : Int)).toNat else min ((b : Int).toNat) xs.length) = b
    rw [if_neg (by omega), Int.toNat_natCast, Nat.min_eq_left (by omega)]
  rw [e1, e2]
theorem cut_from {xs : List V} {a : Nat} : cutV xs (some (a : Int)) none = xs.drop a := by
  unfold cutV
  have e1 : HT.sIx xs.length 0 (some (a : Int)) = min a xs.length := by
    show (if (a : Int) < 0 then ((a : Int) + (xs.length : Int)).toNat else min ((a : Int).toNat) xs.length) = _
    rw [if_neg (by omega), Int.toNat_natCast]
  have e2 : HT.sIx xs.length xs.length none = xs.length := rfl
  rw [e1, e2]
  by_cases c : a ≤ xs.length
  · rw [Nat.min_eq_left c, List.take_of_length_le (by rw [List.length_drop]; exact Nat.le_refl _)]
  · rw [Nat.min_eq_right (by omega), List.drop_of_length_le (Nat.le_refl _), List.drop_of_length_le (by omega)]
    simp
end
end L3
namespace Lw
open PySem PySem.Spec PyProof.Rows L2 Evl L3 ClX Tn
abbrev sUp : Stmt := top 42
abbrev sRu : Stmt := top 43
abbrev nUp : List Str := ["_law_some", "_law_width"]
abbrev nRu : List Str := ["_law_some", "_law_starts", "_law_at", "_law_one", "_law_other"]
theorem log_small {j : Int} (h0 : 0 < j) (h : j ≤ 1000000000000000000) : CDivW i j := by
  refine ⟨h0, ?_⟩
  have z : j.natAbs.log2 < 64 := (Nat.log2_lt (by omega)).mpr (by
    have e : (2 : Nat) ^ 64 = 18446744073709551616 := by decide
    rw [e]
    omega)
  omega
section
variable {P : Program} {w : World} {K : PySem.W.Frag} {mg : Str → Option Value} {base : Heap}
theorem scUp : FnScope nUp ["_law_some", "_law_width"] (defScope sUp) := ⟨rfl, rfl, rfl, by decide +kernel, rfl, by decide +kernel, by decide +kernel⟩
def spUp : Sp := fun vs H Q _ => ∃ (a n : Int), vs = [.int a, .int n] ∧ 1 ≤ n ∧ n ≤ 1000000000000000000 ∧ ∀ H', Ex H H' → Q (.int (cd n a)) H'
theorem ok_up {f : Addr} {fd : FuncData} (F : Fun K "_law_up" "_law_up" sUp f fd) : FnOk P w K mg base CX0 1 f fd ["_law_some", "_law_width"] spUp := by
  refine F.ok scUp (fun vs H Q E h => ?_) (fun cdv A outer s H vs Q E hr h => ?_)
  · obtain ⟨a, n, rfl, _⟩ := h
    rfl
  · obtain ⟨a, n, rfl, n1, n2, k⟩ := h
    refine ⟨_, pss_one (ps_ret (pe_op op_fdivW (pe_op op_sub (pe_op op_add (pv 0) (pv 1)) pe_int) (pv 1))), ?_⟩
    exact s_ret (ev_op (ev_op (ev_op (ev_var rfl) (ev_var rfl) rv_I0) ev_c rv_I0) (ev_var rfl) (rv_I (log_small (by omega) n2))) fun H1 e1 => k H1 e1
theorem scRu : FnScope nRu ["_law_some"] (defScope sRu) := ⟨rfl, rfl, rfl, by decide +kernel, rfl, by decide +kernel, by decide +kernel⟩
def rD (p : Nat × Nat) : PyData := .tuple [.int (p.1 : Int), .int (p.2 : Int)]
def spRuns (K : PySem.W.Frag) : Sp := fun vs H Q _ => ∃ (c : Addr) (ws : List Wr), vs = [.ref c] ∧ Dp K H (.ref c) (cD ws) ∧ ws.length ≤ 200 ∧ ∀ p zs H', H p = none → Ex H H' → H' p = some (.lst zs) → DpAll K (newIn H' H) zs ((runsM ws).map rD) → Q (.ref p) H'
theorem ev_lenC {c : Addr} {i : Nat} {ws : List Wr} {σ : L2.St} {H : Hp} (h : σ[i]? = some (some (V.ref c))) (d : Dp K H (.ref c) (cD ws)) : Ev (tCB (rLenS K) (tCons (tVar i) tNil)) σ H (.int (ws.length : Int)) := by
  obtain ⟨xs0, hs, ha⟩ : ∃ xs, SqL K H c xs ∧ DpAll K H xs (ws.map wD) := by
    cases d with
    | lst hs ha => exact ⟨_, hs, ha⟩
  have hl0 : xs0.length = ws.length := by rw [dps_len' ha, List.length_map]
  rw [← hl0]
  exact ev_len (ev_var h) hs
theorem int_neq {i j : Int} : (.bl (!decide (V.int i = V.int j)) : V) = .bl (!decide (i = j)) := congrArg V.bl (congrArg not (decide_eq_decide.mpr ⟨fun z => by injection z, fun z => by rw [z]⟩))
theorem int_eqb {i j : Int} : (.bl (decide (V.int i = V.int j)) : V) = .bl (decide (i = j)) := congrArg V.bl (decide_eq_decide.mpr ⟨fun z => by injection z, fun z => by rw [z]⟩)
theorem ok_runs {f : Addr} {fd : FuncData} (F : Fun K "_law_runs" "_law_runs" sRu f fd) (T : Txt K mg) (hZ : mg "zip" = none) : FnOk P w K mg base CX0 1 f fd ["_law_some"] (spRuns K) := by
  refine F.ok scRu (fun vs H Q E h => ?_) (fun cdv A outer s H vs Q E hr h => ?_)
  · obtain ⟨c, ws, rfl, _⟩ := h
    rfl
  · obtain ⟨c, ws, rfl, hd, hl, k⟩ := h
    refine ⟨_, pss_cons (ps_setLc (i := 1) (own := [("_law_at", 2)]) (g := gName 2) (tt := tOr (tTest (tOp rEq (tVar 2) (tC (.int 0)))) (tTest (tOp rNe (tOp (rIxT K) (tOp (rIxL K) (tVar 0) (tOp (rI0 fun i j => .int (i - j)) (tVar 2) (tC (.int 1)))) (tC (.int 0))) (tOp (rIxT K) (tOp (rIxL K) (tVar 0) (tVar 2)) (tC (.int 0)))))) (te := tVar 2) rfl scRu.nd rfl rfl rfl (pi_range1 rfl T.range (pa_cons (pe_callB call_len_seq (by rfl) T.len PySem.boot_len (pa_cons (pv 0) pa_nil)) pa_nil)) (blkOk_by (N := nRu) (sc := defScope sRu) (by decide +kernel)) (fun _ _ _ _ _ => pg_name (i := 2) scRu.nd rfl (Or.inl rfl)) (fun _ _ _ _ _ => by exact pts_one (PW.pt (pw_or (pt_cmpR op_eq (pv 2) pe_int (nomark _)) (pw_or1 (pt_cmpR op_ne (pe_ix ix_tup (pe_ix ix_list (pv 0) (pe_op op_sub (pv 2) pe_int) (fun _ _ => rfl)) pe_int (fun _ _ => rfl)) (pe_ix ix_tup (pe_ix ix_list (pv 0) (pv 2) (fun _ _ => rfl)) pe_int (fun _ _ => rfl)) (nomark _)))))) (fun _ _ _ _ _ => by exact pv 2))
      (pss_one (ps_ret (pe_lc (own := [("_law_one", 3), ("_law_other", 4)]) (g := gTup K 2 (gCons (gName 3) (gCons (gName 4) gNil))) (tt := tYes) (te := tTup (tCons (tVar 3) (tCons (tVar 4) tNil))) rfl scRu.nd (pi_zip (by rfl) hZ (pa_cons (pv 1) (pa_cons (pe_op op_cat (pe_slice sl_list (pv 1) (po_some pe_int) po_none) (pe_lst (pa_cons (pe_callB call_len_seq (by rfl) T.len PySem.boot_len (pa_cons (pv 0) pa_nil)) pa_nil))) pa_nil))) (blkOk_by (N := nRu) (sc := defScope sRu) (by decide +kernel)) (fun _ _ _ _ _ => pg_tup rfl (pgs_cons (pg_name (i := 3) scRu.nd rfl (Or.inl rfl)) (pgs_cons (pg_name (i := 4) scRu.nd rfl (Or.inl rfl)) pgs_nil))) (fun _ _ _ _ _ => pts_nil) (fun _ _ _ _ _ => by exact pe_tup (pa_cons (pv 3) (pa_cons (pv 4) pa_nil)))))), ?_⟩
    obtain ⟨xs0, hs, ha⟩ : ∃ xs, SqL K H c xs ∧ DpAll K H xs (ws.map wD) := by
      cases hd with
      | lst hs ha => exact ⟨_, hs, ha⟩
    refine q_asgL (xs := (stsM ws).map fun (j : Nat) => V.int (j : Int)) ?_ fun p H1 hp e1 h1 => ?_
    · have y := el_lcR1 (σ := start nRu [V.ref c]) (H := H) (ta := tCons (tCB (rLenS K) (tCons (tVar 0) tNil)) tNil) (j := 2) (vs := [2])
        (t := tOr (tTest (tOp rEq (tVar 2) (tC (.int 0)))) (tTest (tOp rNe (tOp (rIxT K) (tOp (rIxL K) (tVar 0) (tOp (rI0 fun i j => .int (i - j)) (tVar 2) (tC (.int 1)))) (tC (.int 0))) (tOp (rIxT K) (tOp (rIxL K) (tVar 0) (tVar 2)) (tC (.int 0)))))) (te := tVar 2) (n := (ws.length : Int))
        (fun j => decide (isSt ws j)) (fun (j : Nat) => .int (j : Int)) (ea_cons (ev_lenC rfl (.lst hs ha)) ea_nil) (by omega) (fun _ => rfl) (fun i H1 e hi => ?_) (fun i H1 e hi _ => ev_var rfl)
      · have e0 : given ((ws.length : Int)).toNat (fun j => decide (isSt ws j)) (fun (j : Nat) => V.int (j : Int)) = (stsM ws).map fun (j : Nat) => V.int (j : Int) := by
          rw [Int.toNat_natCast]
          rfl
        rw [e0] at y
        exact y
      · have him : i < ws.length := by omega
        obtain ⟨t1, w1, q1, x1, s1⟩ := wr_at ha (j := i) him
        have sp1 : w1.1 = spk ws i := (spk_of q1).symm
        refine et_is (et_or (a := decide ((i : Int) = 0)) (b := !decide (spk ws (i - 1) = spk ws i)) (et_test (ev_is (ev_op (ev_var rfl) ev_c (rv_eq rfl)) int_eqb)) fun hz => ?_) ?_
        · have hi0 : i ≠ 0 := fun z => (of_decide_eq_false hz) (by omega)
          obtain ⟨t2, w2, q2, x2, s2⟩ := wr_at ha (j := i - 1) (by omega)
          have sp2 : w2.1 = spk ws (i - 1) := (spk_of q2).symm
          have ei : (i : Int) - 1 = ((i - 1 : Nat) : Int) := by omega
          refine et_test (ev_is (ev_op (ev_op (ev_op (ev_var rfl) (ev_is (ev_op (ev_var rfl) ev_c rv_I0) (congrArg V.int ei)) (rv_ixL (ex_l e hs) (atI_nat x2))) ev_c (rv_ixT (ex_t e s2) (atI_nat (j := 0) rfl)))
            (ev_op (ev_op (ev_var rfl) (ev_var rfl) (rv_ixL (ex_l e hs) (atI_nat x1))) ev_c (rv_ixT (ex_t e s1) (atI_nat (j := 0) rfl))) (rv_ne rfl)) ?_)
          rw [sp1, sp2]
          exact int_neq
        · by_cases c0 : i = 0
          · rw [decide_eq_true (show isSt ws i from Or.inl c0), decide_eq_true (show (i : Int) = 0 by omega)]
            rfl
          · rw [decide_eq_false (show ¬ (i : Int) = 0 by omega), Bool.false_or]
            by_cases c1 : spk ws (i - 1) = spk ws i
            · rw [decide_eq_true c1, decide_eq_false (show ¬ isSt ws i from fun z => z.elim c0 fun z => z c1)]
              rfl
            · rw [decide_eq_false c1, decide_eq_true (show isSt ws i from Or.inr c1)]
              rfl
    · have sl : (stsM ws).length ≤ ws.length := by
        unfold stsM
        exact Nat.le_trans (List.length_filter_le _ _) (by rw [List.length_range]; exact Nat.le_refl _)
      obtain ⟨A, hA⟩ : ∃ A, A = (stsM ws).map fun (j : Nat) => V.int (j : Int) := ⟨_, rfl⟩
      obtain ⟨B2, hB2⟩ : ∃ B2, B2 = ((stsM ws).drop 1 ++ [ws.length]).map fun j => V.int ((j : Nat) : Int) := ⟨_, rfl⟩
      have lA : A.length = (stsM ws).length := by rw [hA, List.length_map]
      have lB : B2.length = (stsM ws).length - 1 + 1 := by rw [hB2, List.length_map, List.length_append, List.length_drop]; rfl
      rw [← hA] at h1
      have z := dl_lcZ (K := K) (B := H) (H := H1) (σ := (start nRu [V.ref c]).set 1 (some (V.ref p))) (xs := A) (ys := B2) (j := 3) (j2 := 4) (vs := [3, 4]) (te := tTup (tCons (tVar 3) (tCons (tVar 4) tNil)))
        (ta := tCons (tVar 1) (tCons (tOp rCat (tSl (rSlL K) (tVar 1) (tPart (tC (.int 1))) tNoPart) (tLst (tCons (tCB (rLenS K) (tCons (tVar 0) tNil)) tNil))) tNil))
        (fun i => rD (((stsM ws).getD i 0), (((stsM ws).drop 1 ++ [ws.length]).getD i 0))) (fun H2 e2 Q q => ?_) (by omega) (by omega) (fun _ _ => rfl) e1 (fun i x y H2 B' e2 hx hy hB => ?_)
      · have e0 : (List.range A.length).map (fun i => rD (((stsM ws).getD i 0), (((stsM ws).drop 1 ++ [ws.length]).getD i 0))) = (runsM ws).map rD := by
          rw [lA]
          unfold runsM
          have g1 : ((stsM ws).drop 1 ++ [ws.length]).length = (stsM ws).length - 1 + 1 := by rw [List.length_append, List.length_drop]; rfl
          refine List.ext_getElem (by rw [List.length_map, List.length_range, List.length_map, List.length_zip, g1]; omega) fun i h1 h2 => ?_
          rw [List.length_map, List.length_range] at h1
          rw [List.getElem_map, List.getElem_map, List.getElem_range, List.getElem_zip, List.getD_eq_getElem?_getD, List.getD_eq_getElem?_getD, List.getElem?_eq_getElem h1, List.getElem?_eq_getElem (by omega)]
          rfl
        rw [e0] at z
        exact z H1 (Ex.refl H1) _ fun r zs H3 e3 hr0 hr3 da => k r zs H3 hr0 (e1.trans e3) hr3 da
      · refine (ev_var (v := V.ref p) rfl) H2 e2 _ fun H3 e3 => ?_
        have c1 := el_cat (σ := (start nRu [V.ref c]).set 1 (some (V.ref p))) (H := H3) (el_sl (K := K) (te := tVar 1) (lo := some 1) (hi := none) (ev_var (v := V.ref p) rfl) (eo_some ev_c) eo_none (sq_of ((e2.trans e3) _ _ h1))) (el_lst (ea_cons (ev_lenC (K := K) (c := c) (ws := ws) (i := 0) rfl (dp_ex ((e1.trans e2).trans e3) (.lst hs ha))) ea_nil) (by show 1 ≤ 100000; decide))
          (by rw [show (some (1 : Int)) = some ((1 : Nat) : Int) from rfl, cut_from, List.length_drop]; show _ + 1 ≤ 100000; omega)
        refine c1 H3 (Ex.refl H3) _ fun r H4 hr e4 h4 => ?_
        refine q p r H4 (e3.trans e4) (sq_of (e4 _ _ ((e2.trans e3) _ _ h1))) (sq_of ?_)
        rw [h4, show (some (1 : Int)) = some ((1 : Nat) : Int) from rfl, cut_from, hA, hB2, List.map_append, List.map_drop]
        rfl
      · rw [hA, List.getElem?_map] at hx
        rw [hB2, List.getElem?_map] at hy
        cases qx : (stsM ws)[i]? with
        | none => rw [qx] at hx; cases hx
        | some a =>
          cases qy : ((stsM ws).drop 1 ++ [ws.length])[i]? with
          | none => rw [qy] at hy; cases hy
          | some b =>
            rw [qx] at hx
            rw [qy] at hy
            cases hx
            cases hy
            rw [List.getD_eq_getElem?_getD, List.getD_eq_getElem?_getD, qx, qy]
            exact dv_tup hB (da_cons (dv_int (ev_var rfl)) (da_cons (dv_int (ev_var rfl)) da_nil)) (by show 2 ≤ 100000; decide)
end
end Lw

namespace Lo
open PySem PySem.Spec PyProof.Rows L2 Evl L3
theorem norm_slow {ws : List Wr} : normO ws (.str "slow") = .ok ((List.replicate ws.length (0 : Int)).map .int) := by
  show (if ("slow" : Str) = "quick" then NO.ok ((limM ws).map .int) else if ("slow" : Str) = "slow" then NO.ok (List.replicate ws.length (.int 0)) else NO.bad .non) = _
  rw [if_neg (by decide), if_pos rfl, List.map_replicate]
theorem norm_quick {ws : List Wr} : normO ws (.str "quick") = .ok ((limM ws).map .int) := by
  show (if ("quick" : Str) = "quick" then NO.ok ((limM ws).map .int) else if ("quick" : Str) = "slow" then NO.ok (List.replicate ws.length (.int 0)) else NO.bad .non) = _
  rw [if_pos rfl]
theorem obad_ok : ∀ (ds ls : List Int) (i : Nat), (∀ (j : Nat) (d l : Int), ds[j]? = some d → ls[j]? = some l → 0 ≤ d ∧ d ≤ l) → obad (ds.map .int) ls i = none
  | [], ls, _, _ => by cases ls <;> rfl
  | d :: r, [], _, _ => rfl
  | d :: r, l :: ls, i, h => by
    have z := h 0 d l rfl rfl
    show (if betwD (.int d) 0 l = true then obad (r.map .int) ls (i + 1) else some i) = none
    have b : betwD (.int d) 0 l = true := by
      show (decide (0 ≤ d) && decide (d ≤ l)) = true
      rw [decide_eq_true z.1, decide_eq_true z.2]
      rfl
    rw [if_pos b]
    exact obad_ok r ls (i + 1) fun j d' l' h1 h2 => h (j + 1) d' l' h1 h2
theorem lim_at {ws : List Wr} {j : Nat} {l : Int} (h : (limM ws)[j]? = some l) : l = if isSt ws j then 0 else 2 := by
  unfold limM at h
  rw [List.getElem?_map] at h
  obtain ⟨k, hk, rfl⟩ := Option.map_eq_some_iff.mp h
  have z := (List.getElem?_eq_some_iff.mp hk)
  obtain ⟨z1, z2⟩ := z
  rw [List.getElem_range] at z2
  rw [z2]
theorem norm_steps {ws : List Wr} {L : List Int} (h : Lw.StepsOk ws L) : normO ws (.list (L.map .int)) = .ok (L.map .int) := by
  have hl : (L.map PyData.int).length = ws.length := by rw [List.length_map, h.1]
  have en : normO ws (.list (L.map .int)) = (match obad (L.map .int) (limM ws) 0 with | none => .ok (L.map .int) | some i => .bad (.int (i : Int))) := if_pos hl
  rw [en, obad_ok L (limM ws) 0 fun j d l h1 h2 => by
    rw [lim_at h2]
    exact h.2 j d h1]
theorem lim_two {ws : List Wr} : ∀ k ∈ limM ws, 0 ≤ k ∧ k ≤ 2 := fun k hk => by
  unfold limM at hk
  obtain ⟨j, _, rfl⟩ := List.mem_map.mp hk
  split <;> decide
theorem steps_two {ws : List Wr} {L : List Int} (h : Lw.StepsOk ws L) : ∀ k ∈ L, 0 ≤ k ∧ k ≤ 2 := fun k hk => by
  obtain ⟨j, hj⟩ := List.getElem?_of_mem hk
  have z := h.2 j k hj
  split at z <;> omega
end Lo

namespace Lw
open PySem PySem.Spec PyProof.Rows L2 Evl L3 ClX Tn
/-! ### law -/
abbrev sLaw : Stmt := top 44
abbrev nLa : List Str := ["_law_script", "_law_at", "_law_bag_here", "_law_width", "_law_made", "_law_some", "_law_parts", "_law_sums", "_law_low", "_law_high", "_law_step", "_law_steps_here", "_law_found", "_law_free", "_law_early", "_law_fulls", "_law_who", "_law_length", "_law_word", "_law_start", "_law_stop", "_law_total"]
abbrev scSm : Scope := { kind := .function, names := [(".0", .local), ("_law_start", .local), ("_law_stop", .local), ("sum", .globalImplicit), ("_law_some", .free)], isGenerator := false, isCoroutine := false }
/-- a write of its length, plain -/
def plW (w : Wr) : Wr := (w.1, w.2.1, "plain")
section
variable {P : Program} {w : World} {K : PySem.W.Frag} {mg : Str → Option Value} {base : Heap} {CU CS CP CB : Addr}
abbrev teSum (K : PySem.W.Frag) : TE := tCB (rSum K) (tCons (tLc (iList K (tSl (rSlL K) (tVar 5) (tPart (tVar 19)) (tPart (tVar 20)))) (gTup K 3 (gCons (gName 16) (gCons (gName 17) (gCons (gName 18) gNil)))) tYes (tVar 17) [16, 17, 18]) tNil)
theorem scLa : FnScope nLa ["_law_script"] (defScope sLaw) := ⟨rfl, rfl, rfl, by decide +kernel, rfl, by decide +kernel, by decide +kernel⟩
def spLaw (K : PySem.W.Frag) : Sp := fun vs H Q _ => ∃ (a : Addr) (ns : List Int), vs = [.ref a] ∧ SqL K H a (ns.map V.int) ∧ ns.length ≤ 63 ∧ ∀ H', Q (.bl true) H'
theorem okW_len {w : Wr} (h : Lo.okW w = true) : 1 ≤ w.2.1 ∧ w.2.1 ≤ 1000000000000000000 := by
  unfold Lo.okW at h
  obtain ⟨z1, z⟩ := Bool.and_eq_true_iff.mp h
  obtain ⟨z2, z3⟩ := Bool.and_eq_true_iff.mp z
  have a2 : decide (1 ≤ w.2.1) = true ∧ decide (w.2.1 ≤ 1000000000000000000) = true := Bool.and_eq_true_iff.mp z2
  exact ⟨of_decide_eq_true a2.1, of_decide_eq_true a2.2⟩
theorem okW_pl {w : Wr} (h : Lo.okW w = true) : Lo.okW (plW w) = true := by
  unfold Lo.okW at h ⊢
  obtain ⟨z1, z⟩ := Bool.and_eq_true_iff.mp h
  obtain ⟨z2, z3⟩ := Bool.and_eq_true_iff.mp z
  have m : (_ && (_ && _)) = true := Bool.and_eq_true_iff.mpr ⟨z1, Bool.and_eq_true_iff.mpr ⟨z2, (by decide +kernel : ((decide (("plain" : Str) = "plain") || decide (("plain" : Str) = "push")) || decide (("plain" : Str) = "more")) = true)⟩⟩
  exact m
theorem plain_all {ws : List Wr} (h : ∀ w ∈ ws, Lo.okW w = true) : PlainW (ws.map plW) := fun j hj => by
  rw [List.length_map] at hj
  rw [List.getD_eq_getElem?_getD, List.getElem?_map, List.getElem?_eq_getElem hj]
  exact ⟨rfl, (okW_len (h _ (List.getElem_mem hj))).1⟩
/-- for a, b, c in a list of triples -/
theorem tri_go {xs : List V} {ws : List Wr} {σ0 : L2.St} {H H1 : Hp} {j0 j1 j2 i : Nat} {x : V} (ha : DpAll K H xs (ws.map wD)) (e : Ex H H1) (hx : xs[i]? = some x) {Q : L2.St → Hp → Prop}
    (q : Q (((σ0.set j0 (some (.int (ws.getD i (0, 0, "")).1))).set j1 (some (.int (ws.getD i (0, 0, "")).2.1))).set j2 (some (.str (ws.getD i (0, 0, "")).2.2))) H1) : gTup K 3 (gCons (gName j0) (gCons (gName j1) (gCons (gName j2) gNil))) x σ0 H1 Q := by
  have hi := (List.getElem?_eq_some_iff.mp hx).1
  have hl : xs.length = ws.length := by rw [dps_len' ha, List.length_map]
  obtain ⟨t, w1, q1, x1, s1⟩ := wr_at ha (j := i) (by omega)
  rw [x1] at hx
  cases hx
  rw [List.getD_eq_getElem?_getD, q1] at q
  exact ⟨t, _, rfl, ex_t e s1, rfl, _, _, rfl, _, _, rfl, _, _, rfl, rfl, q⟩
theorem range_map {α β : Type} (f : α → β) (d : α) (l : List α) : (List.range l.length).map (fun i => f (l.getD i d)) = l.map f := by
  refine List.ext_getElem (by rw [List.length_map, List.length_range, List.length_map]) fun i h1 h2 => ?_
  rw [List.length_map, List.length_range] at h1
  rw [List.getElem_map, List.getElem_map, List.getElem_range, List.getD_eq_getElem?_getD, List.getElem?_eq_getElem h1]
  rfl
theorem dps_drop : ∀ {H : Hp} {xs : List V} {ds : List PyData} (n : Nat), DpAll K H xs ds → DpAll K H (xs.drop n) (ds.drop n)
  | H, xs, ds, 0, h => h
  | H, _, _, n + 1, .nil => .nil
  | H, _, _, n + 1, .cons h r => dps_drop n r
/-- [.. for who, length, word in ..]: of lengths -/
theorem el_lens {xs : List V} {ws : List Wr} {tl te : TE} {σ : L2.St} {H HD : Hp} {j0 j1 j2 : Nat} {vs : List Nat} (f : Int → Int) (h : EvS K tl σ H xs) (hD : Ex HD H) (ha : DpAll K HD xs (ws.map wD)) (hz : ws.length ≤ 200)
    (hw : ∀ x y z, wipe ((((wipe σ vs).set j0 (some x)).set j1 (some y)).set j2 (some z)) vs = wipe σ vs)
    (he : ∀ (w : Wr) (H1 : Hp), Ex H H1 → w ∈ ws → Ev te ((((wipe σ vs).set j0 (some (.int w.1))).set j1 (some (.int w.2.1))).set j2 (some (.str w.2.2))) H1 (.int (f w.2.1))) :
    EvL (tLc (iList K tl) (gTup K 3 (gCons (gName j0) (gCons (gName j1) (gCons (gName j2) gNil)))) tYes te vs) σ H ((ws.map fun w => f w.2.1).map V.int) := by
  have hl : xs.length = ws.length := by rw [dps_len' ha, List.length_map]
  have z := el_lcG (K := K) (te := te) (g := gTup K 3 (gCons (gName j0) (gCons (gName j1) (gCons (gName j2) gNil)))) (vs := vs) (fun i => V.int (f (ws.getD i (0, 0, "")).2.1))
    (fun i => (((wipe σ vs).set j0 (some (.int (ws.getD i (0, 0, "")).1))).set j1 (some (.int (ws.getD i (0, 0, "")).2.1))).set j2 (some (.str (ws.getD i (0, 0, "")).2.2))) h (by omega) (fun i _ => hw _ _ _)
    (fun i x H1 e hx Q q => tri_go ha (hD.trans e) hx q) (fun i x H1 e hx => by
      have hi := (List.getElem?_eq_some_iff.mp hx).1
      refine he _ H1 e ?_
      rw [List.getD_eq_getElem?_getD, List.getElem?_eq_getElem (by omega)]
      exact List.getElem_mem _)
  rw [hl, range_map (fun w : Wr => V.int (f w.2.1))] at z
  rw [List.map_map]
  exact z
theorem ev_up {σ : L2.St} {H : Hp} {ta tb : TE} {E : XK} {a n : Int} (h1 : Ev ta σ H (.int a)) (h2 : Ev tb σ H (.int n)) (n1 : 1 ≤ n) (n2 : n ≤ 1000000000000000000) : Ev (tCall spUp [] E (tCons ta (tCons tb tNil))) σ H (.int (cd n a)) := fun H1 e Q q =>
  h1 H1 e _ fun H2 e2 => h2 H2 (e.trans e2) _ fun H3 e3 => ⟨a, n, rfl, n1, n2, fun H4 e4 => q H4 ((e2.trans e3).trans e4)⟩
/-- what the writes of the law are once their words are dropped -/
abbrev tePl : TE := tTup (tCons (tVar 16) (tCons (tVar 17) (tCons (tC (.str "plain")) tNil)))
theorem ou_fld {o : Addr} {a b c : Int} {xs : List V} {H : Hp} {σ : L2.St} {i : Nat} (TU : Ous K mg CU) (h : σ[i]? = some (some (V.ref o))) (O : OuAt CU H o a b c xs) :
    Ev (tFld K (tVar i) "stalls") σ H (.int a) ∧ Ev (tFld K (tVar i) "segments") σ H (.int b) ∧ Ev (tFld K (tVar i) "acknowledgments") σ H (.int c) ∧ Ev (tCB (rLenS K) (tCons (tFld K (tVar i) "stalled") tNil)) σ H (.int (xs.length : Int)) := by
  obtain ⟨dx, l, h1, h2⟩ := O
  refine ⟨ev_fld (ev_var h) h1 TU.k.cl TU.ns rfl, ev_fld (ev_var h) h1 TU.k.cl TU.ng rfl, ev_fld (ev_var h) h1 TU.k.cl TU.na rfl, ?_⟩
  exact ev_len (ev_fld (ev_var h) h1 TU.k.cl TU.nl rfl) (sq_of h2)
theorem del_twice {H : Hp} {g : Addr} : Ex (del H g) (del (del H g) g) := fun b u hb => by
  by_cases c : b = g
  · rw [c, del_same] at hb
    cases hb
  · rw [del_ne c]
    exact hb
theorem pol_off {H H1 : Hp} {g p : Addr} {h : Str} {e q : Int} (ni : ∀ C dx fs, H g ≠ some (.ins C dx fs)) (x : Ex (del H g) (del H1 g)) (s : PolAt CP H p h e q) : PolAt CP H1 p h e q := by
  obtain ⟨dx, hp⟩ := s
  exact ⟨dx, del_at x hp (fun z => ni _ _ _ (by rw [← z]; exact hp))⟩
theorem bag_ni {H : Hp} {g : Addr} {k : Nat} (b : BagAt H g k) : ∀ C dx fs, H g ≠ some (.ins C dx fs) := fun C dx fs z => by
  obtain ⟨_, _, _, hg, _⟩ := b
  rw [hg] at z
  cases z
theorem set_off {H H1 : Hp} {m p q' : Addr} {n : Int} {h h2 : Str} {e u e2 u2 : Int} {g : Addr} (nt : ∀ u, H g = some u → ¬ isT u) (ni : ∀ C dx fs, H g ≠ some (.ins C dx fs)) (x : Ex (del H g) (del H1 g)) (sv : SetV K CS CP H m n p q' h e u h2 e2 u2) : SetV K CS CP H1 m n p q' h e u h2 e2 u2 := by
  obtain ⟨⟨dx, r, hm, hr⟩, hp, hq⟩ := sv
  exact ⟨⟨dx, r, del_at x hm (fun z => ni _ _ _ (by rw [← z]; exact hm)), ext_t (ext_del nt x) hr⟩, pol_off ni x hp, pol_off ni x hq⟩
theorem set_del {g m p q : Addr} {H : Hp} {n : Int} {h h2 : Str} {e u e2 u2 : Int} {N : Nat} (b : BagAt H g N) (sv : SetV K CS CP H m n p q h e u h2 e2 u2) : SetV K CS CP (del H g) m n p q h e u h2 e2 u2 := set_off (bag_nt b) (bag_ni b) del_twice sv
theorem new_del {H H' : Hp} {g : Addr} {u : HO} (hg : H g = some u) : Ex (newIn H' H) (del H' g) := fun b v hv => by
  cases q : H b with
  | some z =>
    rw [new_off q] at hv
    cases hv
  | none =>
    rw [new_at q] at hv
    have n : b ≠ g := fun z => by rw [z, hg] at q; cases q
    rw [del_ne n]
    exact hv
theorem ne_nn {H : Hp} {c g : Addr} {u : HO} (h : H c = none) (hg : H g = some u) : c ≠ g := fun z => by rw [z, hg] at h; cases h
theorem ints_lay : ∀ ns : List Int, PyData.canLayAll0 (ns.map PyData.int) = true ∧ PyData.depthAll (ns.map PyData.int) = 0
  | [] => ⟨rfl, rfl⟩
  | n :: r => by
    obtain ⟨h1, h2⟩ := ints_lay r
    refine ⟨?_, ?_⟩
    · show (true && PyData.canLayAll0 (r.map PyData.int)) = true
      rw [h1]
      rfl
    · show max 0 (PyData.depthAll (r.map PyData.int)) = 0
      rw [h2]
      rfl
theorem ints_dp {H : Hp} : ∀ ns : List Int, DpAll K H (ns.map V.int) (ns.map .int)
  | [] => .nil
  | n :: r => .cons (.int n) (ints_dp r)
theorem ints_shaped (ns : List Int) : SeqAt.shaped (.list (ns.map PyData.int)) = true := by
  obtain ⟨h1, h2⟩ := ints_lay ns
  show (PyData.canLayAll0 (ns.map PyData.int) && decide (PyData.depthAll (ns.map PyData.int) + 1 ≤ 64)) = true
  rw [h1, h2]
  rfl
/-- for a, b in a list of pairs -/
theorem pair_go {xs : List V} {ps : List (Nat × Nat)} {σ0 : L2.St} {H H1 : Hp} {j0 j1 i : Nat} {x : V} (ha : DpAll K H xs (ps.map rD)) (e : Ex H H1) (hx : xs[i]? = some x) {Q : L2.St → Hp → Prop}
    (q : Q ((σ0.set j0 (some (.int ((ps.getD i (0, 0)).1 : Int)))).set j1 (some (.int ((ps.getD i (0, 0)).2 : Int)))) H1) : gTup K 2 (gCons (gName j0) (gCons (gName j1) gNil)) x σ0 H1 Q := by
  obtain ⟨d, hd, da⟩ := Lo.dps_get ha hx
  rw [List.getElem?_map] at hd
  cases qp : ps[i]? with
  | none => rw [qp] at hd; cases hd
  | some pr =>
    rw [qp] at hd
    cases hd
    rw [List.getD_eq_getElem?_getD, qp] at q
    have da' : Dp K H x (.tuple [.int (pr.1 : Int), .int (pr.2 : Int)]) := da
    cases da' with
    | tup hs hr =>
      have ex := ints_of (ns := [(pr.1 : Int), (pr.2 : Int)]) hr
      rw [ex] at hs
      exact ⟨_, _, rfl, ex_t e hs, rfl, _, _, rfl, _, _, rfl, rfl, q⟩
/-- [.. for k in ints] -/
theorem el_ints {l : List Int} {tl te : TE} {σ : L2.St} {H : Hp} {j : Nat} {vs : List Nat} (f : Int → Int) (h : EvS K tl σ H (l.map V.int)) (hz : l.length ≤ 200) (hw : ∀ x, wipe ((wipe σ vs).set j (some x)) vs = wipe σ vs)
    (he : ∀ (i : Int) (H1 : Hp), Ex H H1 → Ev te ((wipe σ vs).set j (some (.int i))) H1 (.int (f i))) : EvL (tLc (iList K tl) (gName j) tYes te vs) σ H ((l.map f).map V.int) := by
  have hl : (l.map V.int).length = l.length := List.length_map _
  have z := el_lcG (K := K) (te := te) (g := gName j) (vs := vs) (fun i => V.int (f (l.getD i 0))) (fun i => (wipe σ vs).set j (some (.int (l.getD i 0)))) h (by omega) (fun i _ => hw _) (fun i x H1 e hx Q q => by
    rw [List.getElem?_map] at hx
    cases ql : l[i]? with
    | none => rw [ql] at hx; cases hx
    | some y =>
      rw [ql] at hx
      cases hx
      rw [List.getD_eq_getElem?_getD, ql] at q
      exact q) (fun i x H1 e hx => he _ H1 e)
  rw [hl, range_map (fun i : Int => V.int (f i))] at z
  rw [List.map_map]
  exact z
/-- the bytes of each part -/
theorem sums_go {c pp : Addr} {ws : List Wr} {zz : List V} {H : Hp} {o0 o1 o2 o3 o4 o7 o8 o9 o10 o11 o12 o13 o14 o15 o16 o17 o18 o19 o20 o21 : Option V} (dc : Dp K H (.ref c) (cD ws)) (hl : ws.length ≤ 200) (hz : SqL K H pp zz) (da : DpAll K H zz ((runsM ws).map rD)) :
    EvL (tLc (iList K (tVar 6)) (gTup K 2 (gCons (gName 19) (gCons (gName 20) gNil))) tYes (teSum K) [19, 20]) [o0, o1, o2, o3, o4, some (.ref c), some (.ref pp), o7, o8, o9, o10, o11, o12, o13, o14, o15, o16, o17, o18, o19, o20, o21] H (((runsM ws).map (partS ws)).map V.int) := by
  obtain ⟨xs0, hs, ha⟩ : ∃ xs, SqL K H c xs ∧ DpAll K H xs (ws.map wD) := by
    cases dc with
    | lst hs ha => exact ⟨_, hs, ha⟩
  have hx0 : xs0.length = ws.length := by rw [dps_len' ha, List.length_map]
  have hzl : zz.length = (runsM ws).length := by rw [dps_len' da, List.length_map]
  have rl : (runsM ws).length ≤ ws.length := by
    rw [runs_len]
    exact tN_len ws _
  have z := el_lcG (K := K) (te := teSum K) (xs := zz) (tl := tVar 6) (g := gTup K 2 (gCons (gName 19) (gCons (gName 20) gNil))) (vs := [19, 20]) (H := H)
    (σ := [o0, o1, o2, o3, o4, some (.ref c), some (.ref pp), o7, o8, o9, o10, o11, o12, o13, o14, o15, o16, o17, o18, o19, o20, o21]) (fun i => V.int (partS ws ((runsM ws).getD i (0, 0))))
    (fun i => [o0, o1, o2, o3, o4, some (.ref c), some (.ref pp), o7, o8, o9, o10, o11, o12, o13, o14, o15, o16, o17, o18, some (.int (((runsM ws).getD i (0, 0)).1 : Int)), some (.int (((runsM ws).getD i (0, 0)).2 : Int)), o21]) (es_var (ev_var rfl) hz) (by omega) (fun i _ => rfl)
    (fun i x H1 e hx Q q => pair_go da e hx q) (fun i x H1 e hx => by
      have hi := (List.getElem?_eq_some_iff.mp hx).1
      obtain ⟨pr, hpr⟩ : ∃ pr, pr = (runsM ws).getD i (0, 0) := ⟨_, rfl⟩
      rw [← hpr]
      have hm : pr ∈ runsM ws := by
        rw [hpr, List.getD_eq_getElem?_getD, List.getElem?_eq_getElem (by omega)]
        exact List.getElem_mem _
      obtain ⟨p1, p2⟩ := runs_in hm
      have hsl : ((ws.drop pr.1).take (pr.2 - pr.1)).length ≤ 200 := by
        rw [List.length_take, List.length_drop]
        omega
      have ds : DpAll K H ((xs0.drop pr.1).take (pr.2 - pr.1)) (((ws.drop pr.1).take (pr.2 - pr.1)).map wD) := by
        rw [List.map_take, List.map_drop]
        exact dps_take _ (dps_drop _ ha)
      have es : EvS K (tSl (rSlL K) (tVar 5) (tPart (tVar 19)) (tPart (tVar 20))) [o0, o1, o2, o3, o4, some (.ref c), some (.ref pp), o7, o8, o9, o10, o11, o12, o13, o14, o15, o16, o17, o18, some (.int (pr.1 : Int)), some (.int (pr.2 : Int)), o21] H1 ((xs0.drop pr.1).take (pr.2 - pr.1)) := by
        have y := el_sl (K := K) (σ := [o0, o1, o2, o3, o4, some (.ref c), some (.ref pp), o7, o8, o9, o10, o11, o12, o13, o14, o15, o16, o17, o18, some (.int (pr.1 : Int)), some (.int (pr.2 : Int)), o21]) (H := H1) (te := tVar 5) (tl := tPart (tVar 19)) (th := tPart (tVar 20)) (lo := some (pr.1 : Int)) (hi := some (pr.2 : Int)) (ev_var (v := V.ref c) rfl) (eo_some (ev_var rfl)) (eo_some (ev_var rfl)) (ex_l e hs)
        rw [cut_mid (by omega) (by omega)] at y
        exact es_new y
      exact ev_sumL (el_lens (K := K) (te := tVar 17) (j0 := 16) (j1 := 17) (j2 := 18) (vs := [16, 17, 18]) (fun k => k) es e ds hsl (fun _ _ _ => rfl) fun w H2 e2 _ => ev_var rfl))
  rw [hzl, range_map (fun pr : Nat × Nat => V.int (partS ws pr))] at z
  rw [List.map_map]
  exact z
theorem ou_up {o : Addr} {a b c : Int} {xs : List V} {H : Hp} (h : OuAt CU H o a b c xs) : ∀ H1, Ex H H1 → OuAt CU H1 o a b c xs := fun H1 ex => by
  obtain ⟨dx, l, h1, h2⟩ := h
  exact ⟨dx, l, ex _ _ h1, ex _ _ h2⟩
theorem le_chain {a b c : Int} (h1 : a ≤ b) (h2 : b ≤ c) : (!(decide (a ≤ b) && decide (b ≤ c))) = false := by
  rw [decide_eq_true h1, decide_eq_true h2]
  rfl
theorem no_ne {a b : Int} (h : a = b) : (V.bl (!decide (V.int a = V.int b))) = .bl false := by rw [h, decide_eq_true rfl]; rfl
theorem ok_law {f fB fT fU fS fW fE fR fQ fO fC : Addr} {fd fdB fdT fdU fdS fdW fdE fdR fdQ fdO : FuncData} (F : Fun K "law" "law" sLaw f fd) (T : Txt K mg)
    (LB : Cl P w K mg base "_law_bag" "_law_bag" sBag ["_law_script", "_law_at"] 1 (spBag K) fB fdB) (LT : Cl P w K mg base "_law_take" "_law_take" sTake ["_law_bag_here", "_law_many"] 1 spTake fT fdT)
    (LU : Cl P w K mg base "_law_rules" "_law_rules" sRules ["_law_bag_here"] 2 (spRules K) fU fdU) (LS : Cl P w K mg base "_law_setting" "_law_setting" sSetg stgPs 8 (spSetg K CS CP) fS fdS)
    (LW : Cl P w K mg base "_law_writes" "_law_writes" sWrites ["_law_bag_here", "_law_width", "_law_many"] 3 (spWrites K) fW fdW) (LE : Cl P w K mg base "_law_steps" "_law_steps" sSteps ["_law_bag_here", "_law_writes_here"] 2 (spSteps K) fE fdE)
    (LR : Cl P w K mg base "_law_runs" "_law_runs" sRu ["_law_some"] 1 (spRuns K) fR fdR) (LQ : Cl P w K mg base "_law_up" "_law_up" sUp ["_law_some", "_law_width"] 1 spUp fQ fdQ)
    (FO : FunD K "outcome" "outcome" (defArgs sOut) (defBody sOut) (defScope sOut) [.str "quick"] [] fO fdO) (gO : mg "outcome" = some (.ref fO)) (GO : FnOk P w K mg base (L2.CX P w) 7 fO fdO ocPs (spOut K CS CP CU))
    (TU : Ous K mg CU) (TS : Stg K mg CS) (hSum : mg "sum" = none) (MCh : Meth K CS "changed" fC) (GCh : ∀ ks ∈ kwsAll, FnW P w K mg base (L2.CX P w) 8 fC "endpoint" .non ks (spCh K CS CP CB)) :
    FnG P w K mg base 9 f fd ["_law_script"] (spLaw K) := by
  refine okG F scLa (fun vs H Q E h => ?_) (fun cdv A outer s H vs Q E hgu hr h => ?_)
  · obtain ⟨a, ns, rfl, _⟩ := h
    rfl
  · obtain ⟨a, ns, rfl, hs, hl, k⟩ := h
    have hr1 : Room 1 _ := hr.mono (by decide)
    have hr2 : Room 2 _ := hr.mono (by decide)
    have hr3 : Room 3 _ := hr.mono (by decide)
    have hr7 : Room 7 _ := hr.mono (by decide)
    refine ⟨_, pss_cons (ps_for PassesOwn.never rfl (pi_range1 rfl T.range (pa_cons (pe_callB (call_max2 rfl) (by rfl) T.max PyProof.Rows.boot_max (pa_cons pe_int (pa_cons (pe_callB (call_min2 rfl) (by rfl) T.min PyProof.Rows.boot_min (pa_cons pe_int (pa_cons (pe_callB call_len_seq (by rfl) T.len PySem.boot_len (pa_cons (pv 0) pa_nil)) pa_nil))) pa_nil))) pa_nil)) (pg_name (i := 1) scLa.nd rfl (Or.inl rfl))
        (pss_cons (ps_set (i := 2) scLa.nd rfl (Or.inl rfl) (pe_call LB.G hr1 rfl LB.g LB.F.kp LB.b .nil pass0 (pa_cons (pv 0) (pa_cons (pv 1) pa_nil))))
        (pss_cons (ps_set (i := 3) scLa.nd rfl (Or.inr rfl) (pe_ix ix_list (pe_lst (pa_cons (pe_op op_add pe_int (pe_call LT.G hr1 rfl LT.g LT.F.kp LT.b .nil pass0 (pa_cons (pv 2) (pa_cons pe_int pa_nil)))) (pa_cons (pe_op op_add pe_int (pe_call LT.G hr1 rfl LT.g LT.F.kp LT.b .nil pass0 (pa_cons (pv 2) (pa_cons (pe_op op_pow pe_int pe_int) pa_nil)))) pa_nil))) (pe_call LT.G hr1 rfl LT.g LT.F.kp LT.b .nil pass0 (pa_cons (pv 2) (pa_cons pe_int pa_nil))) (fun _ _ => rfl)))
        (pss_cons (ps_set (i := 4) scLa.nd rfl (Or.inl rfl) (pe_call LS.G hr rfl LS.g LS.F.kp LS.b .nil pass0 (pa_cons (pv 3) (pa_cons (pe_call LU.G hr2 rfl LU.g LU.F.kp LU.b .nil pass0 (pa_cons (pv 2) pa_nil)) pa_nil))))
        (pss_cons (ps_set (i := 5) scLa.nd rfl (Or.inr rfl) (pe_lc (own := [("_law_who", 16), ("_law_length", 17), ("_law_word", 18)]) (g := gTup K 3 (gCons (gName 16) (gCons (gName 17) (gCons (gName 18) gNil)))) (tt := tYes) (te := tTup (tCons (tVar 16) (tCons (tVar 17) (tCons (tC (.str "plain")) tNil)))) rfl scLa.nd (pi_list (pe_call LW.G hr3 rfl LW.g LW.F.kp LW.b .nil pass0 (pa_cons (pv 2) (pa_cons (pv 3) (pa_cons (pe_call LT.G hr1 rfl LT.g LT.F.kp LT.b .nil pass0 (pa_cons (pv 2) (pa_cons pe_int pa_nil))) pa_nil))))) (blkOk_by (N := nLa) (sc := defScope sLaw) (by decide +kernel)) (fun _ _ _ _ _ => pg_tup rfl (pgs_cons (pg_name (i := 16) scLa.nd rfl (Or.inl rfl)) (pgs_cons (pg_name (i := 17) scLa.nd rfl (Or.inl rfl)) (pgs_cons (pg_name (i := 18) scLa.nd rfl (Or.inl rfl)) pgs_nil)))) (fun _ _ _ _ _ => pts_nil) (fun _ _ _ _ _ => by exact pe_tup (pa_cons (pv 16) (pa_cons (pv 17) (pa_cons pe_str pa_nil))))))
        (pss_cons (ps_set (i := 6) scLa.nd rfl (Or.inl rfl) (pe_call LR.G hr1 rfl LR.g LR.F.kp LR.b .nil pass0 (pa_cons (pv 5) pa_nil)))
        (pss_cons (ps_setLc (i := 7) (own := [("_law_start", 19), ("_law_stop", 20)]) (g := gTup K 2 (gCons (gName 19) (gCons (gName 20) gNil))) (tt := tYes) (te := teSum K) rfl scLa.nd rfl rfl rfl (pi_list (pv 6)) (blkOk_by (N := nLa) (sc := defScope sLaw) (by decide +kernel)) (fun _ _ _ _ _ => pg_tup rfl (pgs_cons (pg_name (i := 19) scLa.nd rfl (Or.inl rfl)) (pgs_cons (pg_name (i := 20) scLa.nd rfl (Or.inl rfl)) pgs_nil))) (fun _ _ _ _ _ => pts_nil) (fun _ _ _ _ _ => by exact pe_callB (cr_sum rfl) (by rfl) hSum PyProof.Rows.boot_sum (pa_cons (pe_lc (own := [("_law_who", 16), ("_law_length", 17), ("_law_word", 18)]) (g := gTup K 3 (gCons (gName 16) (gCons (gName 17) (gCons (gName 18) gNil)))) (tt := tYes) (te := tVar 17) rfl scLa.nd (pi_list (by exact pe_slice sl_list (pv 5) (po_some (pv 19)) (po_some (pv 20)))) (blkOk_by (N := nLa) (sc := PySem.relabel scSm _) (by rfl)) (fun _ _ _ _ _ => pg_tup rfl (pgs_cons (pg_name (i := 16) scLa.nd rfl (Or.inl rfl)) (pgs_cons (pg_name (i := 17) scLa.nd rfl (Or.inl rfl)) (pgs_cons (pg_name (i := 18) scLa.nd rfl (Or.inl rfl)) pgs_nil)))) (fun _ _ _ _ _ => pts_nil) (fun _ _ _ _ _ => by exact pv 17)) pa_nil)))
        (pss_cons (ps_set (i := 8) scLa.nd rfl (Or.inl rfl) (pe_callB (cr_sum rfl) (by rfl) hSum PyProof.Rows.boot_sum (pa_cons (pe_lc (own := [("_law_total", 21)]) (g := gName 21) (tt := tYes) rfl scLa.nd (pi_list (pv 7)) (blkOk_by (N := nLa) (sc := defScope sLaw) (by decide +kernel)) (fun _ _ _ _ _ => pg_name (i := 21) scLa.nd rfl (Or.inl rfl)) (fun _ _ _ _ _ => pts_nil) (fun _ _ _ _ _ => by exact pe_call LQ.G hr1 rfl LQ.g LQ.F.kp LQ.b .nil pass0 (pa_cons (pv 21) (pa_cons (pv 3) pa_nil)))) pa_nil)))
        (pss_cons (ps_set (i := 9) scLa.nd rfl (Or.inl rfl) (pe_callB (cr_sum rfl) (by rfl) hSum PyProof.Rows.boot_sum (pa_cons (pe_lc (own := [("_law_who", 16), ("_law_length", 17), ("_law_word", 18)]) (g := gTup K 3 (gCons (gName 16) (gCons (gName 17) (gCons (gName 18) gNil)))) (tt := tYes) rfl scLa.nd (pi_list (pv 5)) (blkOk_by (N := nLa) (sc := defScope sLaw) (by decide +kernel)) (fun _ _ _ _ _ => pg_tup rfl (pgs_cons (pg_name (i := 16) scLa.nd rfl (Or.inl rfl)) (pgs_cons (pg_name (i := 17) scLa.nd rfl (Or.inl rfl)) (pgs_cons (pg_name (i := 18) scLa.nd rfl (Or.inl rfl)) pgs_nil)))) (fun _ _ _ _ _ => pts_nil) (fun _ _ _ _ _ => by exact pe_call LQ.G hr1 rfl LQ.g LQ.F.kp LQ.b .nil pass0 (pa_cons (pv 17) (pa_cons (pv 3) pa_nil)))) pa_nil)))
        (pss_one (ps_for PassesOwn.never rfl (pi_range1 rfl T.range (pa_cons pe_int pa_nil)) (pg_name (i := 10) scLa.nd rfl (Or.inl rfl))
          (pss_cons (ps_set (i := 11) scLa.nd rfl (Or.inl rfl) (pe_call LE.G hr2 rfl LE.g LE.F.kp LE.b .nil pass0 (pa_cons (pv 2) (pa_cons (pv 5) pa_nil))))
          (pss_cons (ps_par (i := 12) (j := 13) rfl scLa.nd rfl rfl (by decide) rfl rfl (pa_cons (pe_call GO hr7 rfl gO FO.kp (bOut FO) .nil passE (pa_cons (pv 4) (pa_cons (pv 5) (pa_cons (pv 11) pa_nil)))) (pa_cons (pe_call GO hr7 rfl gO FO.kp (bOut FO) .nil passE (pa_cons (pe_methW (pv 4) TS.k.cl MCh (GCh ["hold"] (by decide)) hr passE (pk_cons pe_str pk_nil)) (pa_cons (pv 5) (pa_cons (pv 11) pa_nil)))) pa_nil)) (by rfl))
          (pss_cons (ps_if (PW.pt (pw_or (pt_not (pt_chain op_le op_le (pv 8) (pe_fld (pv 12) rfl) (pv 9))) (pw_or (pt_cmpR op_ne (pe_fld (pv 13) rfl) (pv 9) (nomark _)) (pw_or1 (pt_cmpR op_ne (pe_fld (pv 13) rfl) pe_int (nomark _)))))) (pss_one (ps_ret pe_bl)) pss_nil)
          (pss_cons (ps_if (PW.pt (pw_or (pt_not (pt_chain op_le op_le pe_int (pe_fld (pv 12) rfl) (pe_callB call_len_seq (by rfl) T.len PySem.boot_len (pa_cons (pv 6) pa_nil)))) (pw_or1 (pt_cmpR op_ne (pe_callB call_len_seq (by rfl) T.len PySem.boot_len (pa_cons (pe_fld (pv 12) rfl) pa_nil)) (pe_fld (pv 12) rfl) (nomark _))))) (pss_one (ps_ret pe_bl)) pss_nil)
          (pss_cons (ps_if (pt_not (pt_chain op_le op_le pe_int (pe_fld (pv 12) rfl) (pe_op op_add (pe_fld (pv 12) rfl) (pe_fld (pv 12) rfl)))) (pss_one (ps_ret pe_bl)) pss_nil)
          (pss_cons (ps_set (i := 14) scLa.nd rfl (Or.inl rfl) (pe_call GO hr7 rfl gO FO.kp (bOut FO) .nil passE (pa_cons (pe_methW (pv 4) TS.k.cl MCh (GCh ["every", "quick"] (by decide)) hr passE (pk_cons pe_int (pk_cons pe_int pk_nil))) (pa_cons (pv 5) (pa_cons (pv 11) pa_nil)))))
          (pss_cons (ps_setLc (i := 15) (own := [("_law_who", 16), ("_law_length", 17), ("_law_word", 18)]) (g := gTup K 3 (gCons (gName 16) (gCons (gName 17) (gCons (gName 18) gNil)))) (tt := tYes) rfl scLa.nd rfl rfl rfl (pi_list (pv 5)) (blkOk_by (N := nLa) (sc := defScope sLaw) (by decide +kernel)) (fun _ _ _ _ _ => pg_tup rfl (pgs_cons (pg_name (i := 16) scLa.nd rfl (Or.inl rfl)) (pgs_cons (pg_name (i := 17) scLa.nd rfl (Or.inl rfl)) (pgs_cons (pg_name (i := 18) scLa.nd rfl (Or.inl rfl)) pgs_nil)))) (fun _ _ _ _ _ => pts_nil) (fun _ _ _ _ _ => by exact pe_op op_fdivW (pv 17) (pv 3)))
          (pss_one (ps_if (PW.pt (pw_or (pt_cmpR op_lt (pe_fld (pv 14) rfl) (pe_op op_add (pe_callB (cr_sum rfl) (by rfl) hSum PyProof.Rows.boot_sum (pa_cons (pv 15) pa_nil)) (pe_fld (pv 14) rfl)) (nomark _)) (pw_or1 (pt_not (pt_chain op_le op_le (pv 8) (pe_fld (pv 14) rfl) (pv 9)))))) (pss_one (ps_ret pe_bl)) pss_nil))))))))))))))))))))
      (pss_one (ps_ret pe_bl)), ?_⟩
    obtain ⟨M, hM2⟩ : ∃ M : Int, M = mx 2 (mn 6 (ns.length : Int)) := ⟨_, rfl⟩
    have hM8 : 0 ≤ M ∧ M ≤ 8 := by
      rw [hM2]
      unfold mx mn
      split <;> split <;> omega
    have evl : Ev (tCB (rLenS K) (tCons (tVar 0) tNil)) (start nLa [V.ref a]) H (.int (ns.length : Int)) := by
      have z := ev_len (K := K) (σ := start nLa [V.ref a]) (H := H) (ta := tVar 0) (ev_var rfl) hs
      rw [List.length_map] at z
      exact z
    refine q_forR1 (n := M) (ea_cons (ev_is (ev_cb (ea_cons ev_c (ea_cons (ev_cb (ea_cons ev_c (ea_cons evl ea_nil)) rc_min2) ea_nil)) rc_max2) (congrArg V.int hM2.symm)) ea_nil) (by omega)
      (fun i σ' H' => ∃ o1 o2 o3 o4 o5 o6 o7 o8 o9 o10 o11 o12 o13 o14 o15 o16 o17 o18 o19 o20 o21 : Option V, σ' = [some (.ref a), o1, o2, o3, o4, o5, o6, o7, o8, o9, o10, o11, o12, o13, o14, o15, o16, o17, o18, o19, o20, o21] ∧ Ex H H')
      (fun H1 e1 => ⟨_, _, _, _, _, _, _, _, _, _, _, _, _, _, _, _, _, _, _, _, _, rfl, e1⟩) ?_ ?_
    · rintro i σ' H' hi ⟨o1, o2, o3, o4, o5, o6, o7, o8, o9, o10, o11, o12, o13, o14, o15, o16, o17, o18, o19, o20, o21, rfl, e0⟩
      refine q_call (ea_cons (ev_var rfl) (ea_cons (ev_var rfl) ea_nil)) fun Hb eb => ⟨a, ns, i, rfl, ex_l (e0.trans eb) hs, by omega, fun g HB hg0 e1' b1 => ?_⟩
      have e1 : Ex H' (del HB g) := eb.trans e1'
      have B1 : BagAt HB g 2000 := b1.less (by decide)
      refine q_asgT (t_op (t_lst (t_cons (t_op ?_))))
      refine take_go (n := 1999) (m := 9) (ev_var rfl) ev_c B1 (by decide) (by decide) fun r1 H2 l1 u1 x2 b2 => ?_
      refine ⟨_, _, rfl, rfl, ?_⟩
      refine t_cons (t_op ?_)
      refine take_go (n := 1998) (m := 100000000000000000) (ev_var rfl) (ev_is (ev_op ev_c ev_c (rv_I ⟨by decide, by decide, by decide⟩)) (congrArg V.int (by decide))) b2 (by decide) (by decide) fun r2 H3 l2 u2 x3 b3 => ?_
      refine ⟨_, _, rfl, rfl, ?_⟩
      refine ⟨by show 2 ≤ sizeLine; decide, fun pw hpw => ?_⟩
      have npw : pw ≠ g := bag_ne b3 hpw
      refine take_go (n := 1997) (m := 2) (ev_var rfl) ev_c (b3.ex (Ex.new hpw)) (by decide) (by decide) fun r3 H4 l3 u3 x4 b4 => ?_
      have h4 := del_at x4 (upd_same (H := H3) (a := pw) (o := .lst [.int (1 + r1), .int (1 + r2)])) npw
      obtain ⟨n, hat, n1, n17⟩ : ∃ n : Int, atI [V.int (1 + r1), V.int (1 + r2)] r3 = some (.int n) ∧ 1 ≤ n ∧ n ≤ 100000000000000000 := by
        have c : r3 = 0 ∨ r3 = 1 := by omega
        rcases c with rfl | rfl
        · exact ⟨_, atI_nat (j := 0) rfl, by omega, by omega⟩
        · exact ⟨_, atI_nat (j := 1) rfl, by omega, by omega⟩
      have n18 : n ≤ 1000000000000000000 := by omega
      have e4 : Ex H' (del H4 g) := ((e1.trans x2).trans x3).trans ((ex_del (Ex.new hpw)).trans x4)
      refine ⟨pw, _, r3, .int n, rfl, rfl, sq_of h4, hat, ?_⟩
      clear x2 x3 x4 h4 npw hpw b1 b2 b3 B1 e1' eb
      refine q_asgT ⟨_, rfl, _, rfl, g, 1980, rfl, b4.less (by decide), fun l t1 t2 h e u h2 e2 u2 H5 hl0 o1k o2k hl3 s1 s2 x5 b5 => ?_⟩
      refine ⟨n, l, t1, t2, h, e, u, h2, e2, u2, rfl, sq_of hl3, s1, s2, o1k, o2k, n1, n18, fun m p q H6 x6 sv => ?_⟩
      have b6 := b5.ex x6
      have sv6 := set_del b6 sv
      have e6 : Ex H' (del H6 g) := (e4.trans x5).trans (ex_del x6)
      clear x5 b5 hl3 s1 s2 hl0 sv
      refine q_asgT ⟨_, rfl, _, rfl, ?_⟩
      refine take_go (n := 1979) (m := 16) (ev_var rfl) ev_c b6 (by decide) (by decide) fun r4 H7 l4 u4 x7 b7 => ?_
      refine ⟨g, 1700, r4.toNat, n, by rw [Int.toNat_of_nonneg l4] <;> rfl, b7.less (by omega), n1, n17, by omega, fun pd xs ws H8 hlen hok hpd npd x8 h8 da b8 => ?_⟩
      have hx15 : ws.length ≤ 15 := by omega
      have hxl : xs.length = ws.length := by rw [dps_len' da, List.length_map]
      have okw : ∀ w ∈ ws, Lo.okW w = true := fun w hw => (hok w hw).1
      have e8 : Ex (del H6 g) (del H8 g) := x7.trans (x8.trans ex_del_self)
      obtain ⟨gd, gs, gc, hg8, _⟩ := id b8
      refine ⟨pd, rfl, ⟨xs, sq_of h8⟩, lc_dat (K := K) (B := H8) (xs := xs) (te := tePl) (g := gTup K 3 (gCons (gName 16) (gCons (gName 17) (gCons (gName 18) gNil)))) (vs := [16, 17, 18]) (σ := [some (.ref a), some (.int (i : Int)), some (.ref g), some (.int n), some (.ref m), o5, o6, o7, o8, o9, o10, o11, o12, o13, o14, o15, o16, o17, o18, o19, o20, o21]) (fun i => wD (plW (ws.getD i (0, 0, ""))))
        (fun j => [some (.ref a), some (.int (i : Int)), some (.ref g), some (.int n), some (.ref m), o5, o6, o7, o8, o9, o10, o11, o12, o13, o14, o15, some (.int (ws.getD j (0, 0, "")).1), some (.int (ws.getD j (0, 0, "")).2.1), some (.str (ws.getD j (0, 0, "")).2.2), o19, o20, o21]) (sq_of h8) (by omega) (Ex.refl _) (fun j _ => rfl)
        (fun j x HJ eJ hx Q q => tri_go da ((ex_del_self.trans ex_del_self).trans eJ) hx q) (fun j x HJ B' eJ hx hB => dv_tup hB (da_cons (dv_int (ev_var rfl)) (da_cons (dv_int (ev_var rfl)) (da_cons (dv_str ev_c) da_nil))) (by show 3 ≤ 100000; decide)) fun c zs H9 e9 _ hc h9 dz => ?_⟩
      have ncg : c ≠ g := ne_nn hc hg8
      rw [hxl, range_map (fun w : Wr => wD (plW w))] at dz
      obtain ⟨vs, hvs⟩ : ∃ vs, vs = ws.map plW := ⟨_, rfl⟩
      rw [show List.map (fun w => wD (plW w)) ws = vs.map wD by rw [hvs, List.map_map]; rfl] at dz
      have vl : vs.length ≤ 15 := by rw [hvs, List.length_map]; exact hx15
      have vok : ∀ w ∈ vs, Lo.okW w = true := fun w hw => by
        rw [hvs] at hw
        obtain ⟨w', hw', rfl⟩ := List.mem_map.mp hw
        exact okW_pl (okw w' hw')
      have pv : PlainW vs := by rw [hvs]; exact plain_all okw
      have dc9 : Dp K (del H9 g) (.ref c) (cD vs) := .lst (sq_of (by rw [del_ne ncg]; exact h9)) (dps_ex (new_del hg8) dz)
      have sv9 := sv6.ex (e8.trans (ex_del e9))
      have b9 := b8.ex e9
      have eH9 : Ex H' (del H9 g) := (e6.trans e8).trans (ex_del e9)
      clear dz h9 e9 hc hvs hok okw da h8 x8 x7 b7 b8 hpd npd e8 e6 sv6 hxl hlen hg8
      dsimp only
      generalize hG : del H9 g = G at dc9 sv9 eH9
      have gG : Ex G H9 := by rw [← hG]; exact ex_del_self
      -- the parts and their sums
      refine q_call (ea_cons (ev_var rfl) ea_nil) fun Ha ea => ⟨c, vs, rfl, dp_ex (gG.trans ea) dc9, by omega, fun pp zz HP hpp eP hP daP => ?_⟩
      have bP := (b9.ex ea).ex eP
      have npg : pp ≠ g := bag_ne (b9.ex ea) hpp
      obtain ⟨pd', ps', pc', hga, _⟩ := id (b9.ex ea)
      have gP : Ex G (del HP g) := by rw [← hG]; exact ex_del (ea.trans eP)
      have hPG : (del HP g) pp = some (.lst zz) := by rw [del_ne npg]; exact hP
      have daPG : DpAll K (del HP g) zz ((runsM vs).map rD) := dps_ex (new_del hga) daP
      have dcP := dp_ex gP dc9
      have svP := sv9.ex gP
      have eHP := eH9.trans gP
      clear daP hP gP gG dc9 sv9 eH9 hga hG b9
      generalize hG : del HP g = G1 at hPG daPG dcP svP eHP
      have gG : Ex G1 HP := by rw [← hG]; exact ex_del_self
      have rl : (runsM vs).length ≤ vs.length := by
        rw [runs_len]
        exact tN_len vs _
      have zzl : zz.length = (runsM vs).length := by rw [dps_len' daPG, List.length_map]
      obtain ⟨xs0, hs0, ha0⟩ : ∃ xs, SqL K G1 c xs ∧ DpAll K G1 xs (vs.map wD) := by
        cases dcP with
        | lst hs ha => exact ⟨_, hs, ha⟩
      refine q_asgL (sums_go (dp_ex gG (.lst hs0 ha0)) (by omega) (ex_l gG (sq_of hPG)) (dps_ex gG daPG)) fun pq HQ hpq eQ hQ => ?_
      have npq : pq ≠ g := bag_ne bP hpq
      refine q_asg (v := .int (lowM n vs)) (ev_sumL (ns := ((runsM vs).map (partS vs)).map (cd n)) (el_ints (cd n) (es_var (ev_var rfl) (sq_of hQ)) (by rw [List.length_map]; omega) (fun _ => rfl) fun k H1 e1 => ev_up (ev_var rfl) (ev_var rfl) n1 n18)) fun HL eL => ?_
      have gL : Ex G1 HL := (gG.trans eQ).trans eL
      refine q_asg (v := .int (highM n vs)) (ev_sumL (ns := vs.map fun w => cd n w.2.1) (el_lens (cd n) (es_var (ev_var rfl) (ex_l gL hs0)) gL ha0 (by omega) (fun _ _ _ => rfl) fun w H1 e1 _ => ev_up (ev_var rfl) (ev_var rfl) n1 n18)) fun HM eM => ?_
      have eGM : Ex G1 (del HM g) := by rw [← hG]; exact ex_del ((eQ.trans eL).trans eM)
      have bM := ((bP.ex eQ).ex eL).ex eM
      refine s_forR1 (n := 3) (ea_cons ev_c ea_nil) (by omega) (fun j σ' H'' => ∃ q10 q11 q12 q13 q14 q15 : Option V, σ' = [some (.ref a), some (.int (i : Int)), some (.ref g), some (.int n), some (.ref m), some (.ref c), some (.ref pp), some (.ref pq), some (.int (lowM n vs)), some (.int (highM n vs)), q10, q11, q12, q13, q14, q15, o16, o17, o18, o19, o20, o21] ∧ Ex G1 (del H'' g) ∧ BagAt H'' g (1700 - 300 * j))
        (fun H7 e7 => ⟨_, _, _, _, _, _, rfl, eGM.trans (ex_del e7), (bM.ex e7).less (by omega)⟩) ?_ fun σ' H7 ⟨q10, q11, q12, q13, q14, q15, eσ, eX, _⟩ => ⟨_, _, _, _, _, _, _, _, _, _, _, _, _, _, _, _, _, _, _, _, _, eσ, e0.trans ((eHP.trans eX).trans ex_del_self)⟩
      rintro j σ' HJ hj ⟨q10, q11, q12, q13, q14, q15, rfl, eX, bX⟩
      obtain ⟨N, hN⟩ : ∃ N, N = 1700 - 300 * (j + 1) := ⟨_, rfl⟩
      refine q_asgT ⟨_, rfl, _, rfl, g, c, N, vs, rfl, dp_ex eX (.lst hs0 ha0), bX.less (by omega), by omega, fun ps L HS hSt hps nps y8 hps8 b8 => ?_⟩
      have xS : Ex G1 (del HS g) := eX.trans (y8.trans ex_del_self)
      have gS : Ex G1 HS := xS.trans ex_del_self
      have svS := svP.ex gS
      have dS : ∀ {HH : Hp}, Ex HS HH → Dp K HH (.ref c) (cD vs) := fun e => dp_ex (gS.trans e) (.lst hs0 ha0)
      have dL : ∀ {HH : Hp}, Ex HS HH → Dp K HH (.ref ps) (.list (L.map .int)) := fun e => .lst (sq_of (e _ _ hps8)) (ints_dp L)
      have hL2 := Lo.steps_two hSt
      have ek1 : okE e := ⟨o1k.e0, o1k.e1⟩
      have ek2 : okE e2 := ⟨o2k.e0, o2k.e1⟩
      obtain ⟨O, hO⟩ : ∃ O, O = outN h e u h2 e2 u2 n vs L (turnsM vs).length := ⟨_, rfl⟩
      obtain ⟨O2, hO2⟩ : ∃ O, O = outN "off" e u "off" e2 u2 n vs L (turnsM vs).length := ⟨_, rfl⟩
      obtain ⟨O3, hO3⟩ : ∃ O, O = outN h 1 0 h2 1 0 n vs L (turnsM vs).length := ⟨_, rfl⟩
      have F1 := ob_all (h := h) (h2 := h2) (ns := L) o1k.e0 o2k.e0 o1k.q0 o2k.q0 n1 pv (turnsM vs).length (Nat.le_refl _)
      have F2 := off_all (e := e) (u := u) (e2 := e2) (u2 := u2) (ns := L) n1 pv (turnsM vs).length (Nat.le_refl _)
      have F3 := ob_all (h := h) (h2 := h2) (e := 1) (e2 := 1) (u := 0) (u2 := 0) (ns := L) (by decide) (by decide) (by decide) (by decide) n1 pv (turnsM vs).length (Nat.le_refl _)
      have F4 := oe_all (h := h) (h2 := h2) (ns := L) n1 pv (turnsM vs).length (Nat.le_refl _)
      have ol := out_len (h := h) (e := e) (u := u) (h2 := h2) (e2 := e2) (u2 := u2) (n := n) (ws := vs) (ns := L) (turnsM vs).length
      rw [← hO] at F1 ol
      rw [← hO2] at F2
      rw [← hO3] at F3 F4
      obtain ⟨_, _, lo1, hi1, k01, k11⟩ := F1
      obtain ⟨_, _, lo3, hi3, _, _⟩ := F3
      obtain ⟨_, _, k3⟩ := F4
      rw [low_eq] at lo1 lo3
      rw [high_eq] at hi1 hi3
      rw [high_eq] at F2
      rw [full_eq] at k3
      rw [← runs_len] at ol
      refine q_parT (t_cons ⟨_, rfl, _, rfl, _, rfl, m, .ref c, .ref ps, p, q, n, h, e, u, h2, e2, u2, vs, _, L, rfl, svS, dS (Ex.refl _), by omega, vok, dL (Ex.refl _), ints_shaped L, Lo.norm_steps hSt, hSt.1, hL2, ek1, ek2, n1, n18, fun r1 HA O' hO' eA fr1 => ?_⟩)
      obtain rfl : O' = O := hO'.trans hO.symm
      have A1 := ou_up fr1.at
      refine t_cons ?_
      refine ch_go (ep := .non) (kvs := [(.inr "hold", .str "off")]) (zs := [.str "off"]) (n' := n) (x := "off") (y := e) (z := u) (x' := "off") (y' := e2) (z' := u2) (ev_var rfl) (svS.ex eA) o1k o2k (ea_cons ev_c ea_nil) rfl rfl rfl (Or.inl rfl) rfl rfl n1 n18
        ⟨fun _ => ⟨rfl, rfl, rfl⟩, fun z => nomatch z⟩ ⟨fun _ => ⟨rfl, rfl, rfl⟩, fun z => nomatch z⟩ ⟨Or.inl rfl, o1k.e0, o1k.e1, o1k.q0, o1k.q1⟩ ⟨Or.inl rfl, o2k.e0, o2k.e1, o2k.q0, o2k.q1⟩ fun m2 p2 q2 HB2 eB sv2 => ?_
      have eSB := eA.trans eB
      refine ⟨_, rfl, _, rfl, m2, .ref c, .ref ps, p2, q2, n, "off", e, u, "off", e2, u2, vs, _, L, rfl, sv2, dS eSB, by omega, vok, dL eSB, ints_shaped L, Lo.norm_steps hSt, hSt.1, hL2, ek1, ek2, n1, n18, fun r2 HC O' hO' eC fr2 => ?_⟩
      obtain rfl : O' = O2 := hO'.trans hO2.symm
      have A2 := ou_up fr2.at
      have A1C := A1 _ (eB.trans eC)
      have eSC := eSB.trans eC
      refine ⟨_, _, rfl, ?_⟩
      have f1 : ∀ {HH : Hp} {σ : L2.St}, σ[12]? = some (some (V.ref r1)) → Ex HC HH → _ := fun {HH σ} hσ ex => ou_fld (σ := σ) (H := HH) (i := 12) TU hσ (A1 _ ((eB.trans eC).trans ex))
      have f2 : ∀ {HH : Hp} {σ : L2.St}, σ[13]? = some (some (V.ref r2)) → Ex HC HH → _ := fun {HH σ} hσ ex => ou_fld (σ := σ) (H := HH) (i := 13) TU hσ (A2 _ ex)
      have sl2 : (O'.st.length : Int) = 0 := by rw [F2.2]; rfl
      have hPPS : ∀ {HH : Hp}, Ex HS HH → SqL K HH pp zz := fun ex => sq_of ((gS.trans ex) _ _ hPG)
      refine q_when (b := false) (et_is (et_or (a := false) (b := false) (et_is (et_not (et_test (ev_chain (ev_var rfl) (f1 rfl (Ex.refl _)).2.1 (ev_var rfl)))) (le_chain lo1 hi1)) fun _ => et_is (et_or (a := false) (b := false) (et_test (ev_is (ev_op (f2 rfl (Ex.refl _)).2.1 (ev_var rfl) (rv_ne rfl)) (no_ne F2.1)))
        fun _ => et_test (ev_is (ev_op (f2 rfl (Ex.refl _)).1 ev_c (rv_ne rfl)) (no_ne sl2))) rfl) rfl) (fun hb => nomatch hb) fun _ HD eD => ?_
      refine q_when (b := false) (et_is (et_or (a := false) (b := false) (et_is (et_not (et_test (ev_chain ev_c (f1 rfl eD).1 (ev_len (ev_var rfl) (hPPS (eSC.trans eD)))))) (le_chain (by omega) (by omega))) fun _ => et_test (ev_is (ev_op (f1 rfl eD).2.2.2 (f1 rfl eD).1 (rv_ne rfl)) (no_ne (by rw [List.length_map])))) rfl) (fun hb => nomatch hb) fun _ HE eE => ?_
      have eDE := eD.trans eE
      refine q_when (b := false) (et_is (et_not (et_test (ev_chain ev_c (f1 rfl eDE).2.2.1 (ev_op (f1 rfl eDE).2.1 (f1 rfl eDE).1 rv_I0)))) (le_chain k01 k11)) (fun hb => nomatch hb) fun _ HF eF => ?_
      have eSF := eSC.trans (eDE.trans eF)
      refine q_asgT ?_
      refine ch_go (ep := .non) (kvs := [(.inr "every", .int 1), (.inr "quick", .int 0)]) (zs := [.int 1, .int 0]) (n' := n) (x := h) (y := 1) (z := 0) (x' := h2) (y' := 1) (z' := 0) (ev_var rfl) (svS.ex eSF) o1k o2k (ea_cons ev_c (ea_cons ev_c ea_nil)) rfl rfl rfl (Or.inl rfl) rfl rfl n1 n18
        ⟨fun _ => ⟨rfl, rfl, rfl⟩, fun z => nomatch z⟩ ⟨fun _ => ⟨rfl, rfl, rfl⟩, fun z => nomatch z⟩ ⟨o1k.h, by decide, by decide, by decide, by decide⟩ ⟨o2k.h, by decide, by decide, by decide, by decide⟩ fun m3 p3 q3 HG eG sv3 => ?_
      have eSG := eSF.trans eG
      refine ⟨_, rfl, _, rfl, m3, .ref c, .ref ps, p3, q3, n, h, 1, 0, h2, 1, 0, vs, _, L, rfl, sv3, dS eSG, by omega, vok, dL eSG, ints_shaped L, Lo.norm_steps hSt, hSt.1, hL2, ⟨by decide, by decide⟩, ⟨by decide, by decide⟩, n1, n18, fun r3 HI O'' hO'' eI fr3 => ?_⟩
      obtain rfl : O'' = O3 := hO''.trans hO3.symm
      have A3 := ou_up fr3.at
      have eSI := eSG.trans eI
      refine q_asgL (el_lens (fun k => k / n) (es_var (ev_var rfl) (ex_l (gS.trans eSI) hs0)) (gS.trans eSI) ha0 (by omega) (fun _ _ _ => rfl) fun w H1 e1 _ => ev_op (ev_var rfl) (ev_var rfl) (rv_I (log_small (by omega) n18))) fun pf HK hpf eK hK => ?_
      have f3 : ∀ {HH : Hp} {σ : L2.St}, σ[14]? = some (some (V.ref r3)) → Ex HI HH → _ := fun {HH σ} hσ ex => ou_fld (σ := σ) (H := HH) (i := 14) TU hσ (A3 _ ex)
      refine s_when (b := false) (et_is (et_or (a := false) (b := false) (et_test (ev_is (ev_op (f3 rfl eK).2.2.1 (ev_op (ev_sumV (ns := vs.map fun w : Wr => w.2.1 / n) (ev_var rfl) (sq_of hK)) (f3 rfl eK).1 rv_I0) rv_I0) (congrArg V.bl (decide_eq_false (Int.not_lt.mpr k3))))) fun _ => et_is (et_not (et_test (ev_chain (ev_var rfl) (f3 rfl eK).2.1 (ev_var rfl)))) (le_chain lo3 hi3)) rfl) (fun hb => nomatch hb) fun _ HZ eZ => ?_
      have eSZ := (eSI.trans eK).trans eZ
      exact ⟨_, _, _, _, _, _, rfl, xS.trans (ex_del eSZ), by rw [← hN]; exact b8.ex eSZ⟩
    · rintro σ' H' ⟨o1, o2, o3, o4, o5, o6, o7, o8, o9, o10, o11, o12, o13, o14, o15, o16, o17, o18, o19, o20, o21, rfl, e0⟩
      exact s_ret ev_c fun H1 e1 => k H1
end
end Lw

/-! ### facts of a head by names -/
namespace Hb
open PySem PySem.Spec PyProof.Rows L2 L3 ClX He
inductive Ex where
  | kls (x : Str)
  | ne (x : Str)
  | fm (x : Str)
  | oex (x f : Str)
  | con (x f : Str) (vs : List Dv)
  | tup (p : PySem.W.Frag → Addr) (vs : List Dv)
  | off (x : Str) (t : String)
  | exm (x y : Str) (b : Bool)
  | xf (x : Str)
  | raw (f : PySem.W.Frag → Bool)
def mroB (C : Addr) : List Value → Bool
  | .ref C' :: bm => decide (C' = C) && PySem.HandSPX.refsVE bm
  | _ => false
def newB : List (Option Value) → Bool
  | [_, _, _, _, some (.builtin n), _] => decide (n = "ValueError.__new__")
  | _ => false
theorem newB_ok : ∀ {l : List (Option Value)}, newB l = true → ∃ a0 a1 a2 a3 a5, l = [a0, a1, a2, a3, some (.builtin "ValueError.__new__"), a5] := fun {l} h => by
  unfold newB at h
  split at h
  · have e := of_decide_eq_true h
    subst e
    exact ⟨_, _, _, _, _, rfl⟩
  · cases h
def clsB (K : PySem.W.Frag) (C : Addr) : Bool := match K.lookup C with
  | some ⟨.type t, _, .cls cd, sl⟩ => decide (t = "type") && (mroB C cd.mro && (cd.hasDict && (!cd.hasDel && newB sl.toList)))
  | _ => false
theorem clsB_ok {K : PySem.W.Frag} {C : Addr} (h : clsB K C = true) : ∃ nm q N bs bm sn sub ab col dd k0 k1 k2 k3 k5, K.lookup C = some (excClassObj nm q C N bs bm true sn sub ab col dd k0 k1 k2 k3 k5 "ValueError.__new__") ∧ PySem.HandSPX.refsVE bm = true := by
  unfold clsB at h
  cases q : K.lookup C with
  | none =>
    rw [q] at h
    cases h
  | some o =>
    obtain ⟨oc, od, dt, sl⟩ := o
    rw [q] at h
    cases oc with
    | type t =>
      cases dt with
      | cls cd =>
        obtain ⟨nm, bs, mro, N, qn, hd, sn, sub, ab, col, del⟩ := cd
        obtain ⟨h1, h⟩ := ba h
        obtain ⟨h2, h⟩ := ba h
        obtain ⟨h3, h⟩ := ba h
        obtain ⟨h4, h5⟩ := ba h
        have e1 : t = "type" := of_decide_eq_true h1
        subst e1
        have h2' : mroB C mro = true := h2
        have h3' : hd = true := h3
        subst h3'
        have h4' : (!del) = true := h4
        have e4 : del = false := by simpa using h4'
        subst e4
        obtain ⟨a0, a1, a2, a3, a5, hsl⟩ := newB_ok h5
        have e5 : sl = #[a0, a1, a2, a3, some (.builtin "ValueError.__new__"), a5] := by
          apply Array.ext'
          rw [hsl]
        subst e5
        cases mro with
        | nil => cases h2'
        | cons m bm =>
          cases m with
          | ref C' =>
            obtain ⟨g1, g2⟩ := ba h2'
            have e2 : C' = C := of_decide_eq_true g1
            subst e2
            exact ⟨nm, qn, N, bs, bm, sn, sub, ab, col, od, a0, a1, a2, a3, a5, rfl, g2⟩
          | _ => cases h2'
      | _ => cases h
    | _ => cases dt <;> cases h
def tupAt (K : PySem.W.Frag) (a : Addr) (vs : List Dv) : Bool := match K.lookup a with
  | some ⟨.type c, _, .seq its _, _⟩ => decide (c = "tuple") && (decide (its.size ≤ sizeLine) && relAll (vs.map (Dv.v K)) its.toList)
  | _ => false
theorem tupAt_ok {K : PySem.W.Frag} {a : Addr} {vs : List Dv} (h : tupAt K a vs = true) (H : Hp) : SqT K H a (vs.map (Dv.v K)) := by
  unfold tupAt at h
  cases q : K.lookup a with
  | none =>
    rw [q] at h
    cases h
  | some o =>
    obtain ⟨oc, od, dt, osl⟩ := o
    rw [q] at h
    cases oc with
    | type c =>
      cases dt with
      | seq its n =>
        obtain ⟨h1, h2⟩ := ba (show (decide (c = "tuple") && (decide (its.size ≤ sizeLine) && relAll (vs.map (Dv.v K)) its.toList)) = true from h)
        obtain ⟨h3, h4⟩ := ba h2
        exact .inr ⟨_, its, n, q, congrArg Value.type (of_decide_eq_true h1), rfl, of_decide_eq_true h3, relAll_ok h4⟩
      | _ => cases h
    | _ => cases dt <;> cases h
def conA (K : PySem.W.Frag) (x f : Str) : Addr := match PySem.W.findCls K (.ref (ga K x)) (.type "type") f with
  | some (.val (.ref a)) => a
  | _ => 0
def conV (K : PySem.W.Frag) (x f : Str) : Bool := match PySem.W.findCls K (.ref (ga K x)) (.type "type") f with
  | some (.val (.ref _)) => true
  | _ => false
theorem conV_ok {K : PySem.W.Frag} {x f : Str} (h : conV K x f = true) : PySem.W.findCls K (.ref (ga K x)) (.type "type") f = some (.val (.ref (conA K x f))) := by
  unfold conV at h
  unfold conA
  split at h
  · rename_i a e
    rw [e]
  · cases h
def Ex.ok (K : PySem.W.Frag) : Ex → Bool
  | .kls x => (Fa.cls x).ok K && (eqO (PySem.W.findIn K (.ref (ga K x)) "__class__") (some (some (.builtin "object.__class__"))) && (eqO (PySem.W.specialIn K (.builtin "object.__class__") "__get__") (some (some (.builtin "getset_descriptor.__get__"))) &&
      (decide (PySem.W.takesIn K (.builtin "object.__class__") = some true) && decide (PySem.W.mroIn K (ga K x) (.type "object") = some true))))
  | .ne x => eqO (PySem.W.findIn K (.ref (ga K x)) "__ne__") (some (some (.builtin "object.__ne__")))
  | .fm x => eqO (PySem.W.findIn K (.ref (ga K x)) "__format__") (some (some (.builtin "object.__format__")))
  | .oex x f => clsB K (ga K x) && (eqO (PySem.W.findIn K (.ref (ga K x)) "__setattr__") (some (some (.builtin "object.__setattr__"))) && (decide (PySem.W.subIn K (.ref (ga K x)) (.type "BaseException") = some true) && (decide (PySem.W.typeIn K (.ref (ga K x)) = some (.type "type")) && (PySem.W.keepIn K (.ref (ga K x)) &&
      (eqO (PySem.W.findIn K (.ref (ga K x)) "__init__") (some (some (.ref (ma K (ga K x) "__init__")))) && (decide (PySem.W.typeIn K (.ref (ma K (ga K x) "__init__")) = some (.type "function")) && eqO (PySem.W.findIn K (.ref (ga K x)) f) (some none)))))))
  | .con x f vs => conV K x f && (PySem.W.readsIn K (ga K x) (.type "type") && (eqO (PySem.W.specialIn K (.ref (ga K x)) "__getattribute__") (some (some (.builtin "type.__getattribute__"))) && tupAt K (conA K x f) vs))
  | .tup p vs => tupAt K (p K) vs
  | .off x t => decide (PySem.W.subIn K (.type t) (.ref (ga K x)) = some false) && decide (PySem.W.kitOne K (.type t) (.ref (ga K x)) = some false)
  | .exm x y b => decide (PySem.W.subIn K (.ref (ga K x)) (.ref (ga K y)) = some b)
  | .xf x => xfB K (ga K x)
  | .raw f => f K
section
variable {K : PySem.W.Frag} {x f : Str}
theorem kls_ok (h : (Ex.kls x).ok K = true) : Kls K (ga K x) := by
  obtain ⟨h1, h⟩ := ba h
  obtain ⟨h2, h⟩ := ba h
  obtain ⟨h3, h⟩ := ba h
  obtain ⟨h4, h5⟩ := ba h
  exact ⟨cls_ok h1, eqO_ok h2, eqO_ok h3, of_decide_eq_true h4, of_decide_eq_true h5⟩
theorem ne_ok (h : (Ex.ne x).ok K = true) : PySem.W.findIn K (.ref (ga K x)) "__ne__" = some (some (.builtin "object.__ne__")) := eqO_ok h
theorem fm_ok (h : (Ex.fm x).ok K = true) : PySem.W.findIn K (.ref (ga K x)) "__format__" = some (some (.builtin "object.__format__")) := eqO_ok h
structure OexF (K : PySem.W.Frag) (x f : Str) : Prop where
  ox : OexC K (ga K x)
  iC : PySem.W.findIn K (.ref (ga K x)) "__init__" = some (some (.ref (ma K (ga K x) "__init__")))
  tI : PySem.W.typeIn K (.ref (ma K (ga K x) "__init__")) = some (.type "function")
  no : PySem.W.findIn K (.ref (ga K x)) f = some none
theorem oex_ok (h : (Ex.oex x f).ok K = true) : OexF K x f := by
  obtain ⟨h1, h⟩ := ba h
  obtain ⟨h2, h⟩ := ba h
  obtain ⟨h3, h⟩ := ba h
  obtain ⟨h4, h⟩ := ba h
  obtain ⟨h5, h⟩ := ba h
  obtain ⟨h6, h⟩ := ba h
  obtain ⟨h7, h8⟩ := ba h
  exact ⟨⟨clsB_ok h1, eqO_ok h2, of_decide_eq_true h3, of_decide_eq_true h4, h5⟩, eqO_ok h6, of_decide_eq_true h7, eqO_ok h8⟩
theorem con_ok {vs : List Dv} (h : (Ex.con x f vs).ok K = true) : ∃ mc a, CRead K (ga K x) mc ∧ CVal K (ga K x) mc f (.ref a) (.ref a) ∧ ∀ H, SqT K H a (vs.map (Dv.v K)) := by
  obtain ⟨h1, h⟩ := ba h
  obtain ⟨h2, h⟩ := ba h
  obtain ⟨h3, h4⟩ := ba h
  exact ⟨_, conA K x f, ⟨h2, eqO_ok h3⟩, ⟨conV_ok h1, rfl⟩, tupAt_ok h4⟩
theorem off_ok {t : String} (h : (Ex.off x t).ok K = true) : PySem.W.subIn K (.type t) (.ref (ga K x)) = some false ∧ PySem.W.kitOne K (.type t) (.ref (ga K x)) = some false := by
  obtain ⟨h1, h2⟩ := ba h
  exact ⟨of_decide_eq_true h1, of_decide_eq_true h2⟩
theorem xf_ok (h : (Ex.xf x).ok K = true) : XfC K (ga K x) := xfB_ok h
theorem nf_sub {C : Addr} {t : Value} (h : PySem.W.subIn K t (.ref C) = some false) : PySem.W.notFirst K C t = true := by simp [PySem.W.notFirst, h]
theorem spm_ok {m : Str} (h : (Fa.meth x m).ok K = true) : Spm K (ga K x) m (fAd K (x, some m)) := by
  have z := meth_ok h
  obtain ⟨h1, h⟩ := ba h
  obtain ⟨h2, h3⟩ := ba h
  exact ⟨eqO_ok h1, h2⟩
theorem met_ok {m : Str} (h : (Fa.meth x m).ok K = true) : Meth K (ga K x) m (fAd K (x, some m)) := meth_ok h
theorem mk_ok (h : (Fa.mkr x).ok K = true) : Mk K (ga K x) (fAd K (x, some "__init__")) := mkr_ok h
/-- a def without defaults -/
theorem fun_of {q : Str} {st : Stmt} {a : Addr} {fd : FuncData} (F : FunD K x q (defArgs st) (defBody st) (defScope st) [] [] a fd) : Fun K x q st a fd := by
  obtain ⟨⟨oc, od, dV, kV, doc, pm, an, cdv, ct, osl, rfl, lk, hc, hd, _⟩, kp⟩ := F
  rcases hd with ⟨_, rfl⟩ | ⟨hn, _⟩
  · exact ⟨⟨oc, od, kV, doc, pm, an, cdv, ct, osl, rfl, lk, hc⟩, kp⟩
  · exact absurd rfl hn
end
def exB (es : List Ex) (K : PySem.W.Frag) : Bool := es.all fun e => e.ok K
/-! what is looked at: what the names of the facts reach, and the statics; each part worked out once -/
def refsE (o : Obj) : List Addr := match o.data with
  | .func fd => refV fd.code ++ (refV fd.defaults ++ refV fd.kwdefaults)
  | .cls cd => cd.ns :: cd.mro.flatMap refV
  | .dict es _ => es.toList.flatMap fun e => refV e.val
  | .seq its _ => its.toList.flatMap refV
  | _ => []
def lvl (g : Addr → Option Obj) (as : List Addr) : List Addr := as.flatMap fun a => match g a with
  | some o => refsE o
  | none => []
def gloN (fa : List Fa) : List Str := fa.filterMap fun f => match f with
  | .glo x => some x
  | _ => none
section
variable {α : Type}
def fA : List Addr → (List Addr → α) → α
  | [], k => k []
  | a :: as, k => HandSHeadRun.frNat a fun a => fA as fun r => k (a :: r)
theorem fA_eq : ∀ (l : List Addr) (k : List Addr → α), fA l k = k l
  | [], _ => rfl
  | a :: as, k => by
    show HandSHeadRun.frNat a (fun a => fA as fun r => k (a :: r)) = _
    rw [HandSHeadRun.frNat_eq, fA_eq as]
def fK (g : Addr → Option Obj) : List Addr → (PySem.W.Frag → α) → α
  | [], k => k []
  | a :: as, k => match g a with
    | none => fK g as k
    | some ⟨c, d, dt, sl⟩ => match emptyTab ⟨c, d, dt, sl⟩ with
      | true => fK g as k
      | false => fK g as fun r => k ((a, ⟨c, d, dt, sl⟩) :: r)
theorem fK_eq (g : Addr → Option Obj) : ∀ (l : List Addr) (k : PySem.W.Frag → α), fK g l k = k (frT g l)
  | [], _ => rfl
  | a :: as, k => by
    show (match g a with
      | none => fK g as k
      | some ⟨c, d, dt, sl⟩ => match emptyTab ⟨c, d, dt, sl⟩ with
        | true => fK g as k
        | false => fK g as fun r => k ((a, ⟨c, d, dt, sl⟩) :: r)) = _
    unfold frT frG
    cases e : g a with
    | none =>
      rw [List.filterMap_cons, e]
      exact fK_eq g as k
    | some o =>
      obtain ⟨c, d, dt, sl⟩ := o
      rw [List.filterMap_cons, e]
      show (match emptyTab ⟨c, d, dt, sl⟩ with
        | true => fK g as k
        | false => fK g as fun r => k ((a, ⟨c, d, dt, sl⟩) :: r)) = k (List.filter (fun q => !emptyTab q.2) ((a, ⟨c, d, dt, sl⟩) :: _))
      rw [List.filter_cons]
      cases z : emptyTab ⟨c, d, dt, sl⟩ with
      | true => exact fK_eq g as k
      | false => exact fK_eq g as _
/-- the addresses, then their objects, handed on -/
def withK (g : Addr → Option Obj) (fa : List Fa) (k : PySem.W.Frag → α) : α :=
  fA ((gloN fa).map (ga (frG g [mainGlobals]))) fun a1 => fA (lvl g a1) fun a2 => fA (lvl g a2) fun a3 => fA (lvl g a3) fun a4 => fA (lvl g a4) fun a5 =>
    fK g (mainGlobals :: cStatics :: (a1 ++ (a2 ++ (a3 ++ (a4 ++ a5))))) k
theorem withK_eq (g : Addr → Option Obj) (fa : List Fa) (k : PySem.W.Frag → α) : ∃ as, withK g fa k = k (frT g as) := by
  unfold withK
  rw [fA_eq, fA_eq, fA_eq, fA_eq, fA_eq, fK_eq]
  exact ⟨_, rfl⟩
end
abbrev AlY : Type := AlD × Bool
def obY (fa : List Fa) (fn : List DefD) (es : List Ex) (g : Addr → Option Obj) : AlY := withK g fa fun K => (obsD fa fn K, exB es K)
structure SaysY (fa : List Fa) (fn : List DefD) (es : List Ex) (K : PySem.W.Frag) : Prop where
  d : SaysD fa fn K
  e : exB es K = true
theorem says_of {fa : List Fa} {fn : List DefD} {es : List Ex} {h : Heap} (z : obY fa fn es h.get? = (valD fn, true)) : ∃ K : PySem.W.Frag, K.In h ∧ SaysY fa fn es K := by
  obtain ⟨as, e⟩ := withK_eq h.get? fa fun K => (obsD fa fn K, exB es K)
  have y : (obsD fa fn (frT h.get? as), exB es (frT h.get? as)) = (valD fn, true) := e.symm.trans z
  exact ⟨frT h.get? as, frT_in, congrArg Prod.fst y, congrArg Prod.snd y⟩
def hk (fa : List Fa) (fn : List DefD) (es : List Ex) : PySem.W.Hook := {
  α := AlY
  obs := fun s => obY fa fn es s.heap.get?
  val := fun _ => (valD fn, true)
  says := fun _ h => ∃ K : PySem.W.Frag, K.In h ∧ SaysY fa fn es K
  of := fun _ s z => says_of z
  keeps := fun _ _ _ ⟨K, hK, c⟩ k => ⟨K, hK.keeps k, c⟩ }
def ob (fa : List Fa) (fn : List DefD) (es : List Ex) (s : PySem.W.SharedT) : AlY := obY fa fn es (HandSHeadRun.getT s)
theorem ob_eq (fa : List Fa) (fn : List DefD) (es : List Ex) (s : PySem.W.SharedT) : ob fa fn es s = (hk fa fn es).obs s.abs := congrArg (obY fa fn es) (funext fun a => HandSHeadRun.getT_eq s a)
section
variable {fa : List Fa} {fn : List DefD} {es : List Ex} {K : PySem.W.Frag}
theorem ex_at (c : SaysY fa fn es K) (i : Nat) {e : Ex} (he : es[i]? = some e := by rfl) : e.ok K = true := List.all_eq_true.mp c.e e (List.mem_of_getElem? he)
theorem fa_at (c : SaysY fa fn es K) (i : Nat) {e : Fa} (he : fa[i]? = some e := by rfl) : e.ok K = true := c.d.fact i he
theorem def_at (c : SaysY fa fn es K) (i : Nat) {d : DefD} (h : fn[i]? = some d := by rfl) : ∃ fd, FunD K d.name d.qual d.params d.body d.scope (d.dvs K) (d.kws K) (fAd K d.at_) fd := c.d.def_ i h
end
/-- a law's end, where its promise holds with no repr under way -/
theorem walk_ofGE {l : PySem.W.OpenLaw} {n k : Nat} {q : Program} {loose : List Str} {XP : (Str → Option Value) → Heap → Prop} {YP : World → Heap → Prop} {d : DefRec} {x : Str}
    (hn : l.most = some n) (hn2 : n ≤ sizeLine) (hdf : d.params.defaults = []) (hr : Room k callerA)
    (F : ∀ (w : World) (mg : Str → Option Value) (fa : Addr) (h : Heap), YP w h → h.Ns mainGlobals mg → mg d.name = some (.ref fa) →
      ∃ (K : PySem.W.Frag) (fd : FuncData) (sp : Sp), K.In h ∧ (∀ (s : Shared) (u : Value), BindsTo s fd ⟨[u], []⟩ [(x, u)]) ∧
        (∀ (H : Hp) (a : Addr) (ns : List Int), ns.length ≤ n → Only H → SqL K H a (ns.map V.int) → sp [.ref a] H (fun v _ => v = .bl true) fun _ _ _ => False) ∧
        ∀ base : Heap, K.In base → base.Ns mainGlobals mg → FnG l.prog w K mg base k fa fd [x] sp) :
    PySem.W.WalkO q loose XP YP l.row.toRowW d [] (fun f vs => PySem.call f vs) := by
  refine Att.attach_call hn hdf fun w s₀ z mg mb fa o pm cd doc a vs ns G Y ho hd hcd hmg hobj hints hlen hg => ?_
  obtain ⟨K, fd, sp, KX, hb, hsp, hF⟩ := F w mg fa _ Y G.T.g hmg
  exact endG KX G.T.g G.T.b G.T.builtins G.T.nolimit hg hobj hints (Nat.le_trans hlen hn2) hr hF hb fun H hO hS => hsp H a ns hlen hO hS
end Hb

namespace Hd
open PySem PySem.Spec PyProof.Rows L2 L3 He Hb Lw Tn Evl ClX
def d_is_integer : DefD := ⟨("is_integer", none), "is_integer", "is_integer", defArgs sIsInt, defBody sIsInt, defScope sIsInt, [], []⟩
def d_between : DefD := ⟨("between", none), "between", "between", defArgs sBetw, defBody sBetw, defScope sBetw, [], []⟩
def d_check_size : DefD := ⟨("check_size", none), "check_size", "check_size", defArgs sCkS, defBody sCkS, defScope sCkS, [], []⟩
def d_policy_pair : DefD := ⟨("policy_pair", none), "policy_pair", "policy_pair", defArgs sPair, defBody sPair, defScope sPair, [], []⟩
def d_check : DefD := ⟨("check", none), "check", "check", defArgs Lo.sChk, defBody Lo.sChk, defScope Lo.sChk, [], []⟩
def d_is_write : DefD := ⟨("is_write", none), "is_write", "is_write", defArgs Lo.sIsW, defBody Lo.sIsW, defScope Lo.sIsW, [], []⟩
def d_turns : DefD := ⟨("turns", none), "turns", "turns", defArgs Lo.sTurns, defBody Lo.sTurns, defScope Lo.sTurns, [], []⟩
def d_normal_order : DefD := ⟨("normal_order", none), "normal_order", "normal_order", defArgs Lo.sNorm, defBody Lo.sNorm, defScope Lo.sNorm, [], []⟩
def d_most_clearings : DefD := ⟨("most_clearings", none), "most_clearings", "most_clearings", defArgs Lo.sMost, defBody Lo.sMost, defScope Lo.sMost, [], []⟩
def d_outcome : DefD := ⟨("outcome", none), "outcome", "outcome", defArgs sOut, defBody sOut, defScope sOut, [.str "quick"], []⟩
def d_changed_policy : DefD := ⟨("changed_policy", none), "changed_policy", "changed_policy", defArgs sChP, defBody sChP, defScope sChP, [], []⟩
def d__law_bag : DefD := ⟨("_law_bag", none), "_law_bag", "_law_bag", defArgs sBag, defBody sBag, defScope sBag, [], []⟩
def d__law_take : DefD := ⟨("_law_take", none), "_law_take", "_law_take", defArgs sTake, defBody sTake, defScope sTake, [], []⟩
def d__law_rules : DefD := ⟨("_law_rules", none), "_law_rules", "_law_rules", defArgs sRules, defBody sRules, defScope sRules, [], []⟩
def d__law_setting : DefD := ⟨("_law_setting", none), "_law_setting", "_law_setting", defArgs sSetg, defBody sSetg, defScope sSetg, [], []⟩
def d__law_amount : DefD := ⟨("_law_amount", none), "_law_amount", "_law_amount", defArgs sAmount, defBody sAmount, defScope sAmount, [], []⟩
def d__law_writes : DefD := ⟨("_law_writes", none), "_law_writes", "_law_writes", defArgs sWrites, defBody sWrites, defScope sWrites, [], []⟩
def d__law_steps : DefD := ⟨("_law_steps", none), "_law_steps", "_law_steps", defArgs sSteps, defBody sSteps, defScope sSteps, [], []⟩
def d__law_up : DefD := ⟨("_law_up", none), "_law_up", "_law_up", defArgs sUp, defBody sUp, defScope sUp, [], []⟩
def d__law_runs : DefD := ⟨("_law_runs", none), "_law_runs", "_law_runs", defArgs sRu, defBody sRu, defScope sRu, [], []⟩
def d_Policy_init : DefD := ⟨("Policy", some "__init__"), "__init__", "Policy.__init__", defArgs sPI, defBody sPI, defScope sPI, [.str "all"], [("every", .int 2), ("quick", .int 0)]⟩
def d_Setting_init : DefD := ⟨("Setting", some "__init__"), "__init__", "Setting.__init__", defArgs sSI, defBody sSI, defScope sSI, [], []⟩
def d_Stances_init : DefD := ⟨("Stances", some "__init__"), "__init__", "Stances.__init__", defArgs tIni, defBody tIni, defScope tIni, [], []⟩
def d_Stances_after_write : DefD := ⟨("Stances", some "after_write"), "after_write", "Stances.after_write", defArgs tAW, defBody tAW, defScope tAW, [], []⟩
def d_Stances_after_clearing : DefD := ⟨("Stances", some "after_clearing"), "after_clearing", "Stances.after_clearing", defArgs tAC, defBody tAC, defScope tAC, [], []⟩
def d_Stances_at_end : DefD := ⟨("Stances", some "at_end"), "at_end", "Stances.at_end", defArgs tEnd, defBody tEnd, defScope tEnd, [], []⟩
def d_Stances_write : DefD := ⟨("Stances", some "_write"), "_write", "Stances._write", defArgs tWr, defBody tWr, defScope tWr, [], []⟩
def d_Stances_clear_way : DefD := ⟨("Stances", some "_clear_way"), "_clear_way", "Stances._clear_way", defArgs tCl, defBody tCl, defScope tCl, [], []⟩
def d_Stances_send_rest : DefD := ⟨("Stances", some "_send_rest"), "_send_rest", "Stances._send_rest", defArgs tRest, defBody tRest, defScope tRest, [], []⟩
def d_Stances_receive_full : DefD := ⟨("Stances", some "_receive_full"), "_receive_full", "Stances._receive_full", defArgs tRecv, defBody tRecv, defScope tRecv, [], []⟩
def d_Course_init : DefD := ⟨("Course", some "__init__"), "__init__", "Course.__init__", defArgs cIni, defBody cIni, defScope cIni, [], []⟩
def d_Course_make_write : DefD := ⟨("Course", some "make_write"), "make_write", "Course.make_write", defArgs cWr, defBody cWr, defScope cWr, [], []⟩
def d_Course_make_clearing : DefD := ⟨("Course", some "make_clearing"), "make_clearing", "Course.make_clearing", defArgs cCl, defBody cCl, defScope cCl, [], []⟩
def d_Course_make_end : DefD := ⟨("Course", some "make_end"), "make_end", "Course.make_end", defArgs cEnd, defBody cEnd, defScope cEnd, [], []⟩
def d_Course_take : DefD := ⟨("Course", some "_take"), "_take", "Course._take", defArgs cTake, defBody cTake, defScope cTake, [], []⟩
def d_Outcome_init : DefD := ⟨("Outcome", some "__init__"), "__init__", "Outcome.__init__", defArgs oIni, defBody oIni, defScope oIni, [.int 0, .int 0, .int 0, .adr (dflAt ("Outcome", some "__init__") 3)], []⟩
def d_Setting_changed : DefD := ⟨("Setting", some "changed"), "changed", "Setting.changed", defArgs sCh, defBody sCh, defScope sCh, [], [("endpoint", .non)]⟩
def d_BadSetting_init : DefD := ⟨("BadSetting", some "__init__"), "__init__", "BadSetting.__init__", defArgs sIniB, defBody sIniB, defScope sIniB, [], []⟩
def d_BadWrite_init : DefD := ⟨("BadWrite", some "__init__"), "__init__", "BadWrite.__init__", defArgs Lo.sIniW, defBody Lo.sIniW, defScope Lo.sIniW, [], []⟩
def d_BadOrder_init : DefD := ⟨("BadOrder", some "__init__"), "__init__", "BadOrder.__init__", defArgs Lo.sIniO, defBody Lo.sIniO, defScope Lo.sIniO, [], []⟩
def d_law : DefD := ⟨("law", none), "law", "law", defArgs Lw.sLaw, defBody Lw.sLaw, defScope Lw.sLaw, [], []⟩
def fn0 : List DefD := [d_is_integer, d_between, d_check_size, d_policy_pair, d_check, d_is_write, d_turns, d_normal_order, d_most_clearings, d_outcome, d_changed_policy, d__law_bag, d__law_take, d__law_rules, d__law_setting]
def fn1 : List DefD := [d__law_amount, d__law_writes, d__law_steps, d__law_up, d__law_runs, d_Policy_init, d_Setting_init, d_Stances_init, d_Stances_after_write, d_Stances_after_clearing, d_Stances_at_end, d_Stances_write, d_Stances_clear_way, d_Stances_send_rest, d_Stances_receive_full]
def fn2 : List DefD := [d_Course_init, d_Course_make_write, d_Course_make_clearing, d_Course_make_end, d_Course_take, d_Outcome_init, d_Setting_changed, d_BadSetting_init, d_BadWrite_init, d_BadOrder_init, d_law]
def fn : List DefD := fn0 ++ fn1 ++ fn2
def fa0 : List Fa := [.glo "is_integer", .glo "between", .glo "check_size", .glo "policy_pair", .glo "check", .glo "is_write", .glo "turns", .glo "normal_order", .glo "most_clearings", .glo "outcome", .glo "changed_policy", .glo "_law_bag", .glo "_law_take", .glo "_law_rules", .glo "_law_setting"]
def fa1 : List Fa := [.glo "_law_amount", .glo "_law_writes", .glo "_law_steps", .glo "_law_up", .glo "_law_runs", .glo "law", .glo "Policy", .glo "Setting", .glo "Stances", .glo "Course", .glo "Outcome", .glo "BadSetting", .glo "BadWrite", .glo "BadOrder", .glo "MODES"]
def fa2 : List Fa := [.free "isinstance", .free "int", .free "bool", .free "tuple", .free "len", .free "range", .free "str", .free "repr", .free "all", .free "max", .free "min", .free "abs", .free "divmod", .free "list", .free "enumerate"]
def fa3 : List Fa := [.free "sum", .free "zip", .int "MOST_LENGTH" 1000000000000000000, .int "MOST_WRITES" 200, .int "MOST_CLEARINGS" 2, .int "MOST_SIZE" 1000000000000000000, .int "MOST_EVERY" 9, .int "MOST_QUICK" 4, .noat "Policy" "hold", .noat "Policy" "every", .noat "Policy" "quick", .mkr "Policy", .noat "Setting" "size", .noat "Setting" "policies", .mkr "Setting"]
def fa4 : List Fa := [.noat "Stances" "_hold", .noat "Stances" "_every", .noat "Stances" "_known_writes", .noat "Stances" "_known_clearings", .mkr "Stances", .noat "Course" "_size", .noat "Course" "_stances", .noat "Course" "rest", .noat "Course" "stance", .noat "Course" "segments", .noat "Course" "acknowledgments", .mkr "Course", .noat "Outcome" "stalls", .noat "Outcome" "segments", .noat "Outcome" "acknowledgments"]
def fa5 : List Fa := [.noat "Outcome" "stalled", .mkr "Outcome", .meth "Policy" "__init__", .meth "Setting" "__init__", .meth "Stances" "__init__", .meth "Stances" "after_write", .meth "Stances" "after_clearing", .meth "Stances" "at_end", .meth "Stances" "_write", .meth "Stances" "_clear_way", .meth "Stances" "_send_rest", .meth "Stances" "_receive_full", .meth "Course" "__init__", .meth "Course" "make_write", .meth "Course" "make_clearing"]
def fa6 : List Fa := [.meth "Course" "make_end", .meth "Course" "_take", .meth "Outcome" "__init__", .meth "Setting" "changed"]
def fa : List Fa := fa0 ++ fa1 ++ fa2 ++ fa3 ++ fa4 ++ fa5 ++ fa6
def es0 : List Ex := [.kls "Policy", .con "Policy" "HOLDS" [.str "off", .str "partial", .str "all"], .kls "Setting", .kls "Stances", .kls "Course", .kls "Outcome", .oex "BadSetting" "name", .oex "BadWrite" "index", .oex "BadOrder" "index", .tup (fun K => ga K "MODES") [.str "plain", .str "push", .str "more"], .tup (dflAt ("Outcome", some "__init__") 3) []]
def es : List Ex := es0
def names0 : List PySem.Str := [("LatewordsError" : PySem.Str), ("BadSetting" : PySem.Str), ("BadWrite" : PySem.Str), ("BadOrder" : PySem.Str), ("is_integer" : PySem.Str), ("between" : PySem.Str), ("MODES" : PySem.Str), ("MOST_WRITES" : PySem.Str), ("MOST_LENGTH" : PySem.Str), ("MOST_CLEARINGS" : PySem.Str), ("check" : PySem.Str), ("is_write" : PySem.Str), ("turns" : PySem.Str), ("normal_order" : PySem.Str), ("most_clearings" : PySem.Str)]
def names1 : List PySem.Str := [("Stances" : PySem.Str), ("Course" : PySem.Str), ("Outcome" : PySem.Str), ("outcome" : PySem.Str), ("MOST_SIZE" : PySem.Str), ("MOST_EVERY" : PySem.Str), ("MOST_QUICK" : PySem.Str), ("Policy" : PySem.Str), ("Setting" : PySem.Str), ("check_size" : PySem.Str), ("policy_pair" : PySem.Str), ("changed_policy" : PySem.Str), ("_law_bag" : PySem.Str), ("_law_take" : PySem.Str), ("_law_rules" : PySem.Str)]
def names2 : List PySem.Str := [("_law_setting" : PySem.Str), ("_law_amount" : PySem.Str), ("_law_writes" : PySem.Str), ("_law_steps" : PySem.Str), ("_law_up" : PySem.Str), ("_law_runs" : PySem.Str)]
def names : List PySem.Str := names0 ++ names1 ++ names2
abbrev R : PySem.W.OpenRow := PySem.W.OpenLaw.row PySem.Challenge.rw_latewords_k20_whole_segments_between_two
theorem run (w : World) : HandSHeadRun.RunEq R (PySem.W.view R.prog [44]) (hk fa fn es) (ob fa fn es) 20000 names w := by
  intro os
  kernel_rfl
set_option maxHeartbeats 4000000 in
theorem facts {P : Program} {w : World} {K : PySem.W.Frag} {h : Heap} {mg : Str → Option Value} {f : Addr} (X : K.In h) (G : h.Ns mainGlobals mg) (hfa : mg ("law" : Str) = some (.ref f)) (c : SaysY fa fn es K) :
    ∃ fd : FuncData, (∀ (s : Shared) (v : Value), BindsTo s fd ⟨[v], []⟩ [("_law_script", v)]) ∧ ∀ base : Heap, K.In base → base.Ns mainGlobals mg → FnG P w K mg base 9 f fd ["_law_script"] (Lw.spLaw K) := by
  have g_is_integer : mg "is_integer" = some (.ref (ga K "is_integer")) := glo_ok X G (fa_at c 0 (e := .glo "is_integer"))
  have g_between : mg "between" = some (.ref (ga K "between")) := glo_ok X G (fa_at c 1 (e := .glo "between"))
  have g_check_size : mg "check_size" = some (.ref (ga K "check_size")) := glo_ok X G (fa_at c 2 (e := .glo "check_size"))
  have g_policy_pair : mg "policy_pair" = some (.ref (ga K "policy_pair")) := glo_ok X G (fa_at c 3 (e := .glo "policy_pair"))
  have g_check : mg "check" = some (.ref (ga K "check")) := glo_ok X G (fa_at c 4 (e := .glo "check"))
  have g_is_write : mg "is_write" = some (.ref (ga K "is_write")) := glo_ok X G (fa_at c 5 (e := .glo "is_write"))
  have g_turns : mg "turns" = some (.ref (ga K "turns")) := glo_ok X G (fa_at c 6 (e := .glo "turns"))
  have g_normal_order : mg "normal_order" = some (.ref (ga K "normal_order")) := glo_ok X G (fa_at c 7 (e := .glo "normal_order"))
  have g_most_clearings : mg "most_clearings" = some (.ref (ga K "most_clearings")) := glo_ok X G (fa_at c 8 (e := .glo "most_clearings"))
  have g_outcome : mg "outcome" = some (.ref (ga K "outcome")) := glo_ok X G (fa_at c 9 (e := .glo "outcome"))
  have g_changed_policy : mg "changed_policy" = some (.ref (ga K "changed_policy")) := glo_ok X G (fa_at c 10 (e := .glo "changed_policy"))
  have g__law_bag : mg "_law_bag" = some (.ref (ga K "_law_bag")) := glo_ok X G (fa_at c 11 (e := .glo "_law_bag"))
  have g__law_take : mg "_law_take" = some (.ref (ga K "_law_take")) := glo_ok X G (fa_at c 12 (e := .glo "_law_take"))
  have g__law_rules : mg "_law_rules" = some (.ref (ga K "_law_rules")) := glo_ok X G (fa_at c 13 (e := .glo "_law_rules"))
  have g__law_setting : mg "_law_setting" = some (.ref (ga K "_law_setting")) := glo_ok X G (fa_at c 14 (e := .glo "_law_setting"))
  have g__law_amount : mg "_law_amount" = some (.ref (ga K "_law_amount")) := glo_ok X G (fa_at c 15 (e := .glo "_law_amount"))
  have g__law_writes : mg "_law_writes" = some (.ref (ga K "_law_writes")) := glo_ok X G (fa_at c 16 (e := .glo "_law_writes"))
  have g__law_steps : mg "_law_steps" = some (.ref (ga K "_law_steps")) := glo_ok X G (fa_at c 17 (e := .glo "_law_steps"))
  have g__law_up : mg "_law_up" = some (.ref (ga K "_law_up")) := glo_ok X G (fa_at c 18 (e := .glo "_law_up"))
  have g__law_runs : mg "_law_runs" = some (.ref (ga K "_law_runs")) := glo_ok X G (fa_at c 19 (e := .glo "_law_runs"))
  have g_law : mg "law" = some (.ref (ga K "law")) := glo_ok X G (fa_at c 20 (e := .glo "law"))
  have g_Policy : mg "Policy" = some (.ref (ga K "Policy")) := glo_ok X G (fa_at c 21 (e := .glo "Policy"))
  have g_Setting : mg "Setting" = some (.ref (ga K "Setting")) := glo_ok X G (fa_at c 22 (e := .glo "Setting"))
  have g_Stances : mg "Stances" = some (.ref (ga K "Stances")) := glo_ok X G (fa_at c 23 (e := .glo "Stances"))
  have g_Course : mg "Course" = some (.ref (ga K "Course")) := glo_ok X G (fa_at c 24 (e := .glo "Course"))
  have g_Outcome : mg "Outcome" = some (.ref (ga K "Outcome")) := glo_ok X G (fa_at c 25 (e := .glo "Outcome"))
  have g_BadSetting : mg "BadSetting" = some (.ref (ga K "BadSetting")) := glo_ok X G (fa_at c 26 (e := .glo "BadSetting"))
  have g_BadWrite : mg "BadWrite" = some (.ref (ga K "BadWrite")) := glo_ok X G (fa_at c 27 (e := .glo "BadWrite"))
  have g_BadOrder : mg "BadOrder" = some (.ref (ga K "BadOrder")) := glo_ok X G (fa_at c 28 (e := .glo "BadOrder"))
  have g_MODES : mg "MODES" = some (.ref (ga K "MODES")) := glo_ok X G (fa_at c 29 (e := .glo "MODES"))
  have z_isinstance : mg "isinstance" = none := free_ok X G (fa_at c 30 (e := .free "isinstance"))
  have z_int : mg "int" = none := free_ok X G (fa_at c 31 (e := .free "int"))
  have z_bool : mg "bool" = none := free_ok X G (fa_at c 32 (e := .free "bool"))
  have z_tuple : mg "tuple" = none := free_ok X G (fa_at c 33 (e := .free "tuple"))
  have z_len : mg "len" = none := free_ok X G (fa_at c 34 (e := .free "len"))
  have z_range : mg "range" = none := free_ok X G (fa_at c 35 (e := .free "range"))
  have z_str : mg "str" = none := free_ok X G (fa_at c 36 (e := .free "str"))
  have z_repr : mg "repr" = none := free_ok X G (fa_at c 37 (e := .free "repr"))
  have z_all : mg "all" = none := free_ok X G (fa_at c 38 (e := .free "all"))
  have z_max : mg "max" = none := free_ok X G (fa_at c 39 (e := .free "max"))
  have z_min : mg "min" = none := free_ok X G (fa_at c 40 (e := .free "min"))
  have z_abs : mg "abs" = none := free_ok X G (fa_at c 41 (e := .free "abs"))
  have z_divmod : mg "divmod" = none := free_ok X G (fa_at c 42 (e := .free "divmod"))
  have z_list : mg "list" = none := free_ok X G (fa_at c 43 (e := .free "list"))
  have z_enumerate : mg "enumerate" = none := free_ok X G (fa_at c 44 (e := .free "enumerate"))
  have z_sum : mg "sum" = none := free_ok X G (fa_at c 45 (e := .free "sum"))
  have z_zip : mg "zip" = none := free_ok X G (fa_at c 46 (e := .free "zip"))
  have i_MOST_LENGTH := int_ok X G (fa_at c 47 (e := .int "MOST_LENGTH" 1000000000000000000))
  have i_MOST_WRITES := int_ok X G (fa_at c 48 (e := .int "MOST_WRITES" 200))
  have i_MOST_CLEARINGS := int_ok X G (fa_at c 49 (e := .int "MOST_CLEARINGS" 2))
  have i_MOST_SIZE := int_ok X G (fa_at c 50 (e := .int "MOST_SIZE" 1000000000000000000))
  have i_MOST_EVERY := int_ok X G (fa_at c 51 (e := .int "MOST_EVERY" 9))
  have i_MOST_QUICK := int_ok X G (fa_at c 52 (e := .int "MOST_QUICK" 4))
  have no_Policy_hold := noat_ok (fa_at c 53 (e := .noat "Policy" "hold"))
  have no_Policy_every := noat_ok (fa_at c 54 (e := .noat "Policy" "every"))
  have no_Policy_quick := noat_ok (fa_at c 55 (e := .noat "Policy" "quick"))
  have mk_Policy := mk_ok (fa_at c 56 (e := .mkr "Policy"))
  have no_Setting_size := noat_ok (fa_at c 57 (e := .noat "Setting" "size"))
  have no_Setting_policies := noat_ok (fa_at c 58 (e := .noat "Setting" "policies"))
  have mk_Setting := mk_ok (fa_at c 59 (e := .mkr "Setting"))
  have no_Stances__hold := noat_ok (fa_at c 60 (e := .noat "Stances" "_hold"))
  have no_Stances__every := noat_ok (fa_at c 61 (e := .noat "Stances" "_every"))
  have no_Stances__known_writes := noat_ok (fa_at c 62 (e := .noat "Stances" "_known_writes"))
  have no_Stances__known_clearings := noat_ok (fa_at c 63 (e := .noat "Stances" "_known_clearings"))
  have mk_Stances := mk_ok (fa_at c 64 (e := .mkr "Stances"))
  have no_Course__size := noat_ok (fa_at c 65 (e := .noat "Course" "_size"))
  have no_Course__stances := noat_ok (fa_at c 66 (e := .noat "Course" "_stances"))
  have no_Course_rest := noat_ok (fa_at c 67 (e := .noat "Course" "rest"))
  have no_Course_stance := noat_ok (fa_at c 68 (e := .noat "Course" "stance"))
  have no_Course_segments := noat_ok (fa_at c 69 (e := .noat "Course" "segments"))
  have no_Course_acknowledgments := noat_ok (fa_at c 70 (e := .noat "Course" "acknowledgments"))
  have mk_Course := mk_ok (fa_at c 71 (e := .mkr "Course"))
  have no_Outcome_stalls := noat_ok (fa_at c 72 (e := .noat "Outcome" "stalls"))
  have no_Outcome_segments := noat_ok (fa_at c 73 (e := .noat "Outcome" "segments"))
  have no_Outcome_acknowledgments := noat_ok (fa_at c 74 (e := .noat "Outcome" "acknowledgments"))
  have no_Outcome_stalled := noat_ok (fa_at c 75 (e := .noat "Outcome" "stalled"))
  have mk_Outcome := mk_ok (fa_at c 76 (e := .mkr "Outcome"))
  have me_Policy_init := met_ok (fa_at c 77 (e := .meth "Policy" "__init__"))
  have sp_Policy_init := spm_ok (fa_at c 77 (e := .meth "Policy" "__init__"))
  have me_Setting_init := met_ok (fa_at c 78 (e := .meth "Setting" "__init__"))
  have sp_Setting_init := spm_ok (fa_at c 78 (e := .meth "Setting" "__init__"))
  have me_Stances_init := met_ok (fa_at c 79 (e := .meth "Stances" "__init__"))
  have sp_Stances_init := spm_ok (fa_at c 79 (e := .meth "Stances" "__init__"))
  have me_Stances_after_write := met_ok (fa_at c 80 (e := .meth "Stances" "after_write"))
  have sp_Stances_after_write := spm_ok (fa_at c 80 (e := .meth "Stances" "after_write"))
  have me_Stances_after_clearing := met_ok (fa_at c 81 (e := .meth "Stances" "after_clearing"))
  have sp_Stances_after_clearing := spm_ok (fa_at c 81 (e := .meth "Stances" "after_clearing"))
  have me_Stances_at_end := met_ok (fa_at c 82 (e := .meth "Stances" "at_end"))
  have sp_Stances_at_end := spm_ok (fa_at c 82 (e := .meth "Stances" "at_end"))
  have me_Stances_write := met_ok (fa_at c 83 (e := .meth "Stances" "_write"))
  have sp_Stances_write := spm_ok (fa_at c 83 (e := .meth "Stances" "_write"))
  have me_Stances_clear_way := met_ok (fa_at c 84 (e := .meth "Stances" "_clear_way"))
  have sp_Stances_clear_way := spm_ok (fa_at c 84 (e := .meth "Stances" "_clear_way"))
  have me_Stances_send_rest := met_ok (fa_at c 85 (e := .meth "Stances" "_send_rest"))
  have sp_Stances_send_rest := spm_ok (fa_at c 85 (e := .meth "Stances" "_send_rest"))
  have me_Stances_receive_full := met_ok (fa_at c 86 (e := .meth "Stances" "_receive_full"))
  have sp_Stances_receive_full := spm_ok (fa_at c 86 (e := .meth "Stances" "_receive_full"))
  have me_Course_init := met_ok (fa_at c 87 (e := .meth "Course" "__init__"))
  have sp_Course_init := spm_ok (fa_at c 87 (e := .meth "Course" "__init__"))
  have me_Course_make_write := met_ok (fa_at c 88 (e := .meth "Course" "make_write"))
  have sp_Course_make_write := spm_ok (fa_at c 88 (e := .meth "Course" "make_write"))
  have me_Course_make_clearing := met_ok (fa_at c 89 (e := .meth "Course" "make_clearing"))
  have sp_Course_make_clearing := spm_ok (fa_at c 89 (e := .meth "Course" "make_clearing"))
  have me_Course_make_end := met_ok (fa_at c 90 (e := .meth "Course" "make_end"))
  have sp_Course_make_end := spm_ok (fa_at c 90 (e := .meth "Course" "make_end"))
  have me_Course_take := met_ok (fa_at c 91 (e := .meth "Course" "_take"))
  have sp_Course_take := spm_ok (fa_at c 91 (e := .meth "Course" "_take"))
  have me_Outcome_init := met_ok (fa_at c 92 (e := .meth "Outcome" "__init__"))
  have sp_Outcome_init := spm_ok (fa_at c 92 (e := .meth "Outcome" "__init__"))
  have me_Setting_changed := met_ok (fa_at c 93 (e := .meth "Setting" "changed"))
  have sp_Setting_changed := spm_ok (fa_at c 93 (e := .meth "Setting" "changed"))
  have k_Policy := kls_ok (ex_at c 0 (e := .kls "Policy"))
  have con_Policy_HOLDS := con_ok (ex_at c 1 (e := .con "Policy" "HOLDS" [.str "off", .str "partial", .str "all"]))
  have k_Setting := kls_ok (ex_at c 2 (e := .kls "Setting"))
  have k_Stances := kls_ok (ex_at c 3 (e := .kls "Stances"))
  have k_Course := kls_ok (ex_at c 4 (e := .kls "Course"))
  have k_Outcome := kls_ok (ex_at c 5 (e := .kls "Outcome"))
  have ox_BadSetting := oex_ok (ex_at c 6 (e := .oex "BadSetting" "name"))
  have ox_BadWrite := oex_ok (ex_at c 7 (e := .oex "BadWrite" "index"))
  have ox_BadOrder := oex_ok (ex_at c 8 (e := .oex "BadOrder" "index"))
  have t_MODES := tupAt_ok (ex_at c 9 (e := .tup (fun K => ga K "MODES") [.str "plain", .str "push", .str "more"]))
  have t_t0 := tupAt_ok (ex_at c 10 (e := .tup (dflAt ("Outcome", some "__init__") 3) []))
  obtain ⟨fd_is_integer, D_is_integer⟩ := def_at c 0 (d := d_is_integer) rfl
  have F_is_integer : Fun K "is_integer" "is_integer" sIsInt (fAd K (("is_integer", none))) fd_is_integer := fun_of D_is_integer
  have b_is_integer := F_is_integer.binds (ps := ["value"]) fun _ _ _ _ _ _ us hl => match us, hl with | [_], _ => rfl
  obtain ⟨fd_between, D_between⟩ := def_at c 1 (d := d_between) rfl
  have F_between : Fun K "between" "between" sBetw (fAd K (("between", none))) fd_between := fun_of D_between
  have b_between := F_between.binds (ps := ["value", "low", "high"]) fun _ _ _ _ _ _ us hl => match us, hl with | [_, _, _], _ => rfl
  obtain ⟨fd_check_size, D_check_size⟩ := def_at c 2 (d := d_check_size) rfl
  have F_check_size : Fun K "check_size" "check_size" sCkS (fAd K (("check_size", none))) fd_check_size := fun_of D_check_size
  have b_check_size := F_check_size.binds (ps := ["size"]) fun _ _ _ _ _ _ us hl => match us, hl with | [_], _ => rfl
  obtain ⟨fd_policy_pair, D_policy_pair⟩ := def_at c 3 (d := d_policy_pair) rfl
  have F_policy_pair : Fun K "policy_pair" "policy_pair" sPair (fAd K (("policy_pair", none))) fd_policy_pair := fun_of D_policy_pair
  have b_policy_pair := F_policy_pair.binds (ps := ["policies"]) fun _ _ _ _ _ _ us hl => match us, hl with | [_], _ => rfl
  obtain ⟨fd_check, D_check⟩ := def_at c 4 (d := d_check) rfl
  have F_check : Fun K "check" "check" Lo.sChk (fAd K (("check", none))) fd_check := fun_of D_check
  have b_check := F_check.binds (ps := ["conversation"]) fun _ _ _ _ _ _ us hl => match us, hl with | [_], _ => rfl
  obtain ⟨fd_is_write, D_is_write⟩ := def_at c 5 (d := d_is_write) rfl
  have F_is_write : Fun K "is_write" "is_write" Lo.sIsW (fAd K (("is_write", none))) fd_is_write := fun_of D_is_write
  have b_is_write := F_is_write.binds (ps := ["value"]) fun _ _ _ _ _ _ us hl => match us, hl with | [_], _ => rfl
  obtain ⟨fd_turns, D_turns⟩ := def_at c 6 (d := d_turns) rfl
  have F_turns : Fun K "turns" "turns" Lo.sTurns (fAd K (("turns", none))) fd_turns := fun_of D_turns
  have b_turns := F_turns.binds (ps := ["conversation"]) fun _ _ _ _ _ _ us hl => match us, hl with | [_], _ => rfl
  obtain ⟨fd_normal_order, D_normal_order⟩ := def_at c 7 (d := d_normal_order) rfl
  have F_normal_order : Fun K "normal_order" "normal_order" Lo.sNorm (fAd K (("normal_order", none))) fd_normal_order := fun_of D_normal_order
  have b_normal_order := F_normal_order.binds (ps := ["conversation", "order"]) fun _ _ _ _ _ _ us hl => match us, hl with | [_, _], _ => rfl
  obtain ⟨fd_most_clearings, D_most_clearings⟩ := def_at c 8 (d := d_most_clearings) rfl
  have F_most_clearings : Fun K "most_clearings" "most_clearings" Lo.sMost (fAd K (("most_clearings", none))) fd_most_clearings := fun_of D_most_clearings
  have b_most_clearings := F_most_clearings.binds (ps := ["conversation"]) fun _ _ _ _ _ _ us hl => match us, hl with | [_], _ => rfl
  obtain ⟨fd_outcome, D_outcome⟩ := def_at c 9 (d := d_outcome) rfl
  have F_outcome : FunD K "outcome" "outcome" (defArgs sOut) (defBody sOut) (defScope sOut) [.str "quick"] [] (fAd K (("outcome", none))) fd_outcome := D_outcome
  obtain ⟨fd_changed_policy, D_changed_policy⟩ := def_at c 10 (d := d_changed_policy) rfl
  have F_changed_policy : Fun K "changed_policy" "changed_policy" sChP (fAd K (("changed_policy", none))) fd_changed_policy := fun_of D_changed_policy
  have b_changed_policy := F_changed_policy.binds (ps := ["policy", "changes"]) fun _ _ _ _ _ _ us hl => match us, hl with | [_, _], _ => rfl
  obtain ⟨fd__law_bag, D__law_bag⟩ := def_at c 11 (d := d__law_bag) rfl
  have F__law_bag : Fun K "_law_bag" "_law_bag" sBag (fAd K (("_law_bag", none))) fd__law_bag := fun_of D__law_bag
  have b__law_bag := F__law_bag.binds (ps := ["_law_script", "_law_at"]) fun _ _ _ _ _ _ us hl => match us, hl with | [_, _], _ => rfl
  obtain ⟨fd__law_take, D__law_take⟩ := def_at c 12 (d := d__law_take) rfl
  have F__law_take : Fun K "_law_take" "_law_take" sTake (fAd K (("_law_take", none))) fd__law_take := fun_of D__law_take
  have b__law_take := F__law_take.binds (ps := ["_law_bag_here", "_law_many"]) fun _ _ _ _ _ _ us hl => match us, hl with | [_, _], _ => rfl
  obtain ⟨fd__law_rules, D__law_rules⟩ := def_at c 13 (d := d__law_rules) rfl
  have F__law_rules : Fun K "_law_rules" "_law_rules" sRules (fAd K (("_law_rules", none))) fd__law_rules := fun_of D__law_rules
  have b__law_rules := F__law_rules.binds (ps := ["_law_bag_here"]) fun _ _ _ _ _ _ us hl => match us, hl with | [_], _ => rfl
  obtain ⟨fd__law_setting, D__law_setting⟩ := def_at c 14 (d := d__law_setting) rfl
  have F__law_setting : Fun K "_law_setting" "_law_setting" sSetg (fAd K (("_law_setting", none))) fd__law_setting := fun_of D__law_setting
  have b__law_setting := F__law_setting.binds (ps := ["_law_width", "_law_rules_here"]) fun _ _ _ _ _ _ us hl => match us, hl with | [_, _], _ => rfl
  obtain ⟨fd__law_amount, D__law_amount⟩ := def_at c 15 (d := d__law_amount) rfl
  have F__law_amount : Fun K "_law_amount" "_law_amount" sAmount (fAd K (("_law_amount", none))) fd__law_amount := fun_of D__law_amount
  have b__law_amount := F__law_amount.binds (ps := ["_law_bag_here", "_law_width"]) fun _ _ _ _ _ _ us hl => match us, hl with | [_, _], _ => rfl
  obtain ⟨fd__law_writes, D__law_writes⟩ := def_at c 16 (d := d__law_writes) rfl
  have F__law_writes : Fun K "_law_writes" "_law_writes" sWrites (fAd K (("_law_writes", none))) fd__law_writes := fun_of D__law_writes
  have b__law_writes := F__law_writes.binds (ps := ["_law_bag_here", "_law_width", "_law_many"]) fun _ _ _ _ _ _ us hl => match us, hl with | [_, _, _], _ => rfl
  obtain ⟨fd__law_steps, D__law_steps⟩ := def_at c 17 (d := d__law_steps) rfl
  have F__law_steps : Fun K "_law_steps" "_law_steps" sSteps (fAd K (("_law_steps", none))) fd__law_steps := fun_of D__law_steps
  have b__law_steps := F__law_steps.binds (ps := ["_law_bag_here", "_law_writes_here"]) fun _ _ _ _ _ _ us hl => match us, hl with | [_, _], _ => rfl
  obtain ⟨fd__law_up, D__law_up⟩ := def_at c 18 (d := d__law_up) rfl
  have F__law_up : Fun K "_law_up" "_law_up" sUp (fAd K (("_law_up", none))) fd__law_up := fun_of D__law_up
  have b__law_up := F__law_up.binds (ps := ["_law_some", "_law_width"]) fun _ _ _ _ _ _ us hl => match us, hl with | [_, _], _ => rfl
  obtain ⟨fd__law_runs, D__law_runs⟩ := def_at c 19 (d := d__law_runs) rfl
  have F__law_runs : Fun K "_law_runs" "_law_runs" sRu (fAd K (("_law_runs", none))) fd__law_runs := fun_of D__law_runs
  have b__law_runs := F__law_runs.binds (ps := ["_law_some"]) fun _ _ _ _ _ _ us hl => match us, hl with | [_], _ => rfl
  obtain ⟨fd_Policy_init, D_Policy_init⟩ := def_at c 20 (d := d_Policy_init) rfl
  have F_Policy_init : FunD K "__init__" "Policy.__init__" (defArgs sPI) (defBody sPI) (defScope sPI) [.str "all"] [("every", .int 2), ("quick", .int 0)] (fAd K (("Policy", some "__init__"))) fd_Policy_init := D_Policy_init
  obtain ⟨fd_Setting_init, D_Setting_init⟩ := def_at c 21 (d := d_Setting_init) rfl
  have F_Setting_init : Fun K "__init__" "Setting.__init__" sSI (fAd K (("Setting", some "__init__"))) fd_Setting_init := fun_of D_Setting_init
  obtain ⟨fd_Stances_init, D_Stances_init⟩ := def_at c 22 (d := d_Stances_init) rfl
  have F_Stances_init : Fun K "__init__" "Stances.__init__" tIni (fAd K (("Stances", some "__init__"))) fd_Stances_init := fun_of D_Stances_init
  have b_Stances_init := F_Stances_init.binds (ps := ["self", "setting", "speaker"]) fun _ _ _ _ _ _ us hl => match us, hl with | [_, _, _], _ => rfl
  obtain ⟨fd_Stances_after_write, D_Stances_after_write⟩ := def_at c 23 (d := d_Stances_after_write) rfl
  have F_Stances_after_write : Fun K "after_write" "Stances.after_write" tAW (fAd K (("Stances", some "after_write"))) fd_Stances_after_write := fun_of D_Stances_after_write
  have b_Stances_after_write := F_Stances_after_write.binds (ps := ["self", "stance", "full", "has_rest", "mode"]) fun _ _ _ _ _ _ us hl => match us, hl with | [_, _, _, _, _], _ => rfl
  obtain ⟨fd_Stances_after_clearing, D_Stances_after_clearing⟩ := def_at c 24 (d := d_Stances_after_clearing) rfl
  have F_Stances_after_clearing : Fun K "after_clearing" "Stances.after_clearing" tAC (fAd K (("Stances", some "after_clearing"))) fd_Stances_after_clearing := fun_of D_Stances_after_clearing
  have b_Stances_after_clearing := F_Stances_after_clearing.binds (ps := ["self", "stance", "has_rest"]) fun _ _ _ _ _ _ us hl => match us, hl with | [_, _, _], _ => rfl
  obtain ⟨fd_Stances_at_end, D_Stances_at_end⟩ := def_at c 25 (d := d_Stances_at_end) rfl
  have F_Stances_at_end : Fun K "at_end" "Stances.at_end" tEnd (fAd K (("Stances", some "at_end"))) fd_Stances_at_end := fun_of D_Stances_at_end
  have b_Stances_at_end := F_Stances_at_end.binds (ps := ["self", "stance", "has_rest"]) fun _ _ _ _ _ _ us hl => match us, hl with | [_, _, _], _ => rfl
  obtain ⟨fd_Stances_write, D_Stances_write⟩ := def_at c 26 (d := d_Stances_write) rfl
  have F_Stances_write : Fun K "_write" "Stances._write" tWr (fAd K (("Stances", some "_write"))) fd_Stances_write := fun_of D_Stances_write
  have b_Stances_write := F_Stances_write.binds (ps := ["self", "stance", "full", "has_rest", "mode"]) fun _ _ _ _ _ _ us hl => match us, hl with | [_, _, _, _, _], _ => rfl
  obtain ⟨fd_Stances_clear_way, D_Stances_clear_way⟩ := def_at c 27 (d := d_Stances_clear_way) rfl
  have F_Stances_clear_way : Fun K "_clear_way" "Stances._clear_way" tCl (fAd K (("Stances", some "_clear_way"))) fd_Stances_clear_way := fun_of D_Stances_clear_way
  have b_Stances_clear_way := F_Stances_clear_way.binds (ps := ["self", "stance", "has_rest"]) fun _ _ _ _ _ _ us hl => match us, hl with | [_, _, _], _ => rfl
  obtain ⟨fd_Stances_send_rest, D_Stances_send_rest⟩ := def_at c 28 (d := d_Stances_send_rest) rfl
  have F_Stances_send_rest : Fun K "_send_rest" "Stances._send_rest" tRest (fAd K (("Stances", some "_send_rest"))) fd_Stances_send_rest := fun_of D_Stances_send_rest
  have b_Stances_send_rest := F_Stances_send_rest.binds (ps := ["self", "pending", "quick", "acknowledgments"]) fun _ _ _ _ _ _ us hl => match us, hl with | [_, _, _, _], _ => rfl
  obtain ⟨fd_Stances_receive_full, D_Stances_receive_full⟩ := def_at c 29 (d := d_Stances_receive_full) rfl
  have F_Stances_receive_full : Fun K "_receive_full" "Stances._receive_full" tRecv (fAd K (("Stances", some "_receive_full"))) fd_Stances_receive_full := fun_of D_Stances_receive_full
  have b_Stances_receive_full := F_Stances_receive_full.binds (ps := ["self", "full", "pending", "quick"]) fun _ _ _ _ _ _ us hl => match us, hl with | [_, _, _, _], _ => rfl
  obtain ⟨fd_Course_init, D_Course_init⟩ := def_at c 30 (d := d_Course_init) rfl
  have F_Course_init : Fun K "__init__" "Course.__init__" cIni (fAd K (("Course", some "__init__"))) fd_Course_init := fun_of D_Course_init
  have b_Course_init := F_Course_init.binds (ps := ["self", "setting", "speaker", "rest", "stance"]) fun _ _ _ _ _ _ us hl => match us, hl with | [_, _, _, _, _], _ => rfl
  obtain ⟨fd_Course_make_write, D_Course_make_write⟩ := def_at c 31 (d := d_Course_make_write) rfl
  have F_Course_make_write : Fun K "make_write" "Course.make_write" cWr (fAd K (("Course", some "make_write"))) fd_Course_make_write := fun_of D_Course_make_write
  have b_Course_make_write := F_Course_make_write.binds (ps := ["self", "length", "mode"]) fun _ _ _ _ _ _ us hl => match us, hl with | [_, _, _], _ => rfl
  obtain ⟨fd_Course_make_clearing, D_Course_make_clearing⟩ := def_at c 32 (d := d_Course_make_clearing) rfl
  have F_Course_make_clearing : Fun K "make_clearing" "Course.make_clearing" cCl (fAd K (("Course", some "make_clearing"))) fd_Course_make_clearing := fun_of D_Course_make_clearing
  have b_Course_make_clearing := F_Course_make_clearing.binds (ps := ["self"]) fun _ _ _ _ _ _ us hl => match us, hl with | [_], _ => rfl
  obtain ⟨fd_Course_make_end, D_Course_make_end⟩ := def_at c 33 (d := d_Course_make_end) rfl
  have F_Course_make_end : Fun K "make_end" "Course.make_end" cEnd (fAd K (("Course", some "make_end"))) fd_Course_make_end := fun_of D_Course_make_end
  have b_Course_make_end := F_Course_make_end.binds (ps := ["self"]) fun _ _ _ _ _ _ us hl => match us, hl with | [_], _ => rfl
  obtain ⟨fd_Course_take, D_Course_take⟩ := def_at c 34 (d := d_Course_take) rfl
  have F_Course_take : Fun K "_take" "Course._take" cTake (fAd K (("Course", some "_take"))) fd_Course_take := fun_of D_Course_take
  have b_Course_take := F_Course_take.binds (ps := ["self", "step"]) fun _ _ _ _ _ _ us hl => match us, hl with | [_, _], _ => rfl
  obtain ⟨fd_Outcome_init, D_Outcome_init⟩ := def_at c 35 (d := d_Outcome_init) rfl
  have F_Outcome_init : FunD K "__init__" "Outcome.__init__" (defArgs oIni) (defBody oIni) (defScope oIni) [.int 0, .int 0, .int 0, .ref (dflAt ("Outcome", some "__init__") 3 K)] [] (fAd K (("Outcome", some "__init__"))) fd_Outcome_init := D_Outcome_init
  obtain ⟨fd_Setting_changed, D_Setting_changed⟩ := def_at c 36 (d := d_Setting_changed) rfl
  have F_Setting_changed : FunD K "changed" "Setting.changed" (defArgs sCh) (defBody sCh) (defScope sCh) [] [("endpoint", .non)] (fAd K (("Setting", some "changed"))) fd_Setting_changed := D_Setting_changed
  obtain ⟨fd_BadSetting_init, D_BadSetting_init⟩ := def_at c 37 (d := d_BadSetting_init) rfl
  have F_BadSetting_init : Fun K "__init__" "BadSetting.__init__" sIniB (fAd K (("BadSetting", some "__init__"))) fd_BadSetting_init := fun_of D_BadSetting_init
  have b_BadSetting_init := F_BadSetting_init.binds (ps := ["self", "name"]) fun _ _ _ _ _ _ us hl => match us, hl with | [_, _], _ => rfl
  obtain ⟨fd_BadWrite_init, D_BadWrite_init⟩ := def_at c 38 (d := d_BadWrite_init) rfl
  have F_BadWrite_init : Fun K "__init__" "BadWrite.__init__" Lo.sIniW (fAd K (("BadWrite", some "__init__"))) fd_BadWrite_init := fun_of D_BadWrite_init
  have b_BadWrite_init := F_BadWrite_init.binds (ps := ["self", "index"]) fun _ _ _ _ _ _ us hl => match us, hl with | [_, _], _ => rfl
  obtain ⟨fd_BadOrder_init, D_BadOrder_init⟩ := def_at c 39 (d := d_BadOrder_init) rfl
  have F_BadOrder_init : Fun K "__init__" "BadOrder.__init__" Lo.sIniO (fAd K (("BadOrder", some "__init__"))) fd_BadOrder_init := fun_of D_BadOrder_init
  have b_BadOrder_init := F_BadOrder_init.binds (ps := ["self", "index"]) fun _ _ _ _ _ _ us hl => match us, hl with | [_, _], _ => rfl
  obtain ⟨fd_law, D_law⟩ := def_at c 40 (d := d_law) rfl
  have F_law : Fun K "law" "law" Lw.sLaw (fAd K (("law", none))) fd_law := fun_of D_law
  have b_law := F_law.binds (ps := ["_law_script"]) fun _ _ _ _ _ _ us hl => match us, hl with | [_], _ => rfl
  have eL := hfa.symm.trans g_law
  cases eL
  refine ⟨fd_law, fun s v => ?_, fun base _ _ => ?_⟩
  · obtain ⟨⟨oc, od, kV, doc, pm, an, cdv, ct, osl, rfl, _⟩, _⟩ := F_law
    exact .of_eq rfl
  have T : Txt K mg := { isi := z_isinstance, isint := ⟨_, _, F_is_integer, b_is_integer, g_is_integer⟩, int := z_int, bool := z_bool, tuple := z_tuple, len := z_len, range := z_range, str := z_str, repr := z_repr, all := z_all, max := z_max, min := z_min, abs := z_abs }
  have TO : Lo.Txt K mg := { isi := z_isinstance, isint := ⟨_, _, F_is_integer, b_is_integer, g_is_integer⟩, int := z_int, bool := z_bool, tuple := z_tuple, list := z_list, len := z_len, enumerate := z_enumerate, range := z_range, mlen := i_MOST_LENGTH, modes := ⟨_, g_MODES, t_MODES⟩ }
  have TP : Pol K mg (ga K "Policy") := { hm := g_Policy, k := k_Policy, nh := no_Policy_hold, ne := no_Policy_every, nq := no_Policy_quick, hold := con_Policy_HOLDS }
  have TS : Stg K mg (ga K "Setting") := { hm := g_Setting, k := k_Setting, ns := no_Setting_size, np := no_Setting_policies }
  have TC : Tcs K mg (ga K "Stances") := { hm := g_Stances, k := k_Stances, nh := no_Stances__hold, ne := no_Stances__every, nw := no_Stances__known_writes, nc := no_Stances__known_clearings }
  have TK : Ccs K mg (ga K "Course") := { hm := g_Course, k := k_Course, nz := no_Course__size, nt := no_Course__stances, nr := no_Course_rest, ns := no_Course_stance, ng := no_Course_segments, nk := no_Course_acknowledgments }
  have TU : Ous K mg (ga K "Outcome") := { hm := g_Outcome, k := k_Outcome, ns := no_Outcome_stalls, ng := no_Outcome_segments, na := no_Outcome_acknowledgments, nl := no_Outcome_stalled }
  have TB : ErC P w K mg base "BadSetting" "name" (ga K "BadSetting") _ _ := ⟨ox_BadSetting.ox, g_BadSetting, ox_BadSetting.iC, ox_BadSetting.tI, ox_BadSetting.no, ok_iniB F_BadSetting_init, b_BadSetting_init⟩
  have TWr : ErC P w K mg base "BadWrite" "index" (ga K "BadWrite") _ _ := ⟨ox_BadWrite.ox, g_BadWrite, ox_BadWrite.iC, ox_BadWrite.tI, ox_BadWrite.no, Lo.ok_iniW F_BadWrite_init, b_BadWrite_init⟩
  have TOr : ErC P w K mg base "BadOrder" "index" (ga K "BadOrder") _ _ := ⟨ox_BadOrder.ox, g_BadOrder, ox_BadOrder.iC, ox_BadOrder.tI, ox_BadOrder.no, Lo.ok_iniO F_BadOrder_init, b_BadOrder_init⟩
  have G1 := ok_betw (P := P) (w := w) (mg := mg) (base := base) F_between T
  have G2 := ok_ckS (P := P) (w := w) (mg := mg) (base := base) F_check_size T i_MOST_SIZE TB F_between b_between g_between G1
  have G2v : FnOk P w K mg base (L2.CX P w) 3 _ _ ["size"] spCkSv := fn_imp G2 ck_v
  have GI := ok_PI (P := P) (w := w) (mg := mg) (base := base) F_Policy_init TP i_MOST_EVERY i_MOST_QUICK TB F_between b_between g_between G1
  have GIv : FnOk P w K mg base (L2.CX P w) 3 _ _ PIps (spPIv (ga K "Policy")) := fn_imp GI pi_v
  have G3 := ok_pair (P := P) (w := w) (mg := mg) (base := base) F_policy_pair T TP mk_Policy F_Policy_init GIv
  obtain ⟨⟨oc, od, kV, doc, pm, an, cdv, ct, osl, rfl, lSI, cSI⟩, kSI⟩ := F_Setting_init
  have GJ := ok_SI (P := P) (w := w) (mg := mg) (base := base) (CS := ga K "Setting") lSI cSI T TB TP TS F_check_size b_check_size g_check_size G2v F_policy_pair b_policy_pair g_policy_pair G3
  have HR := ok_rest (P := P) (w := w) (mg := mg) (base := base) F_Stances_send_rest T TC
  have HV := ok_recv (P := P) (w := w) (mg := mg) (base := base) F_Stances_receive_full T z_divmod TC
  have HW := ok_wrw (P := P) (w := w) (mg := mg) (base := base) F_Stances_write T TC me_Stances_send_rest b_Stances_send_rest HR me_Stances_receive_full b_Stances_receive_full HV
  have HC := ok_clw (P := P) (w := w) (mg := mg) (base := base) F_Stances_clear_way T TC me_Stances_send_rest b_Stances_send_rest HR
  have HAW := ok_aw (P := P) (w := w) (mg := mg) (base := base) F_Stances_after_write TC me_Stances_write b_Stances_write HW
  have HAC := ok_ac (P := P) (w := w) (mg := mg) (base := base) F_Stances_after_clearing TC me_Stances_clear_way b_Stances_clear_way HC
  have HTI := ok_tini (P := P) (w := w) (mg := mg) (base := base) F_Stances_init TC TS TP
  have HTK := ok_ctake (P := P) (w := w) (mg := mg) (base := base) F_Course_take TK
  have HMW := ok_mw (P := P) (w := w) (mg := mg) (base := base) F_Course_make_write z_divmod TK TC me_Course_take b_Course_take HTK me_Stances_after_write b_Stances_after_write HAW
  have HMC := ok_mc (P := P) (w := w) (mg := mg) (base := base) F_Course_make_clearing TK TC me_Course_take b_Course_take HTK me_Stances_after_clearing b_Stances_after_clearing HAC
  have HCI := ok_cini (P := P) (w := w) (mg := mg) (base := base) F_Course_init TK TC TS mk_Stances b_Stances_init HTI
  have HAE := ok_ae (P := P) (w := w) (mg := mg) (base := base) F_Stances_at_end T
  have HME := ok_me (P := P) (w := w) (mg := mg) (base := base) F_Course_make_end TK TC me_Stances_at_end b_Stances_at_end HAE
  have G5 := Lo.ok_isW (P := P) (w := w) (mg := mg) (base := base) F_is_write TO F_between b_between g_between
  have G4 := Lo.ok_chk (P := P) (w := w) (mg := mg) (base := base) F_check TO i_MOST_WRITES TWr F_is_write b_is_write g_is_write G5
  have G6 := Lo.ok_turns (P := P) (w := w) (mg := mg) (base := base) F_turns TO F_check b_check g_check G4
  have G8 := Lo.ok_most (P := P) (w := w) (mg := mg) (base := base) F_most_clearings TO i_MOST_CLEARINGS F_turns b_turns g_turns G6
  have G7 := Lo.ok_norm (P := P) (w := w) (mg := mg) (base := base) F_normal_order TO TOr F_most_clearings b_most_clearings g_most_clearings G8 F_between b_between g_between
  have HOI := ok_oini (P := P) (w := w) (mg := mg) (base := base) F_Outcome_init TU z_list
  have GW := ok_out (P := P) (w := w) (mg := mg) (base := base) (CS := ga K "Setting") (CP := ga K "Policy") F_outcome TO ⟨F_check, b_check, g_check, G4⟩ ⟨F_normal_order, b_normal_order, g_normal_order, G7⟩ ⟨F_turns, b_turns, g_turns, G6⟩ TK mk_Course b_Course_init HCI TP TS me_Course_make_clearing b_Course_make_clearing HMC me_Course_make_write b_Course_make_write HMW me_Course_make_end b_Course_make_end HME TU mk_Outcome F_Outcome_init HOI
  have Gbag := ok_bag (P := P) (w := w) (mg := mg) (base := base) F__law_bag T T.abs
  have Gtake := ok_take (P := P) (w := w) (mg := mg) (base := base) F__law_take T
  have Grules := ok_rules (P := P) (w := w) (mg := mg) (base := base) F__law_rules T F__law_take b__law_take g__law_take Gtake
  have Gsetg := ok_setg (P := P) (w := w) (mg := mg) (base := base) F__law_setting TP mk_Policy F_Policy_init GIv TS mk_Setting GJ
  have Gwr := ok_writes (P := P) (w := w) (mg := mg) (base := base) F__law_writes T F__law_take b__law_take g__law_take F__law_amount b__law_amount g__law_amount
  have Gst := ok_steps (P := P) (w := w) (mg := mg) (base := base) F__law_steps T F__law_take b__law_take g__law_take
  have Gup := ok_up (P := P) (w := w) (mg := mg) (base := base) F__law_up
  have Gru := ok_runs (P := P) (w := w) (mg := mg) (base := base) F__law_runs T z_zip
  have GQ := ok_ChP (P := P) (w := w) (mg := mg) (base := base) F_changed_policy TP mk_Policy F_Policy_init GI
  have GCh : ∀ ks ∈ kwsAll, FnW P w K mg base (L2.CX P w) 8 _ "endpoint" .non ks (spCh K (ga K "Setting") (ga K "Policy") (ga K "BadSetting")) := fun ks hks => ok_Ch (P := P) (w := w) (mg := mg) (base := base) F_Setting_changed T TS F_check_size b_check_size g_check_size G2 F_changed_policy b_changed_policy g_changed_policy GQ mk_Setting GJ ks hks
  exact ok_law F_law T ⟨F__law_bag, b__law_bag, g__law_bag, Gbag⟩ ⟨F__law_take, b__law_take, g__law_take, Gtake⟩ ⟨F__law_rules, b__law_rules, g__law_rules, Grules⟩ ⟨F__law_setting, b__law_setting, g__law_setting, Gsetg⟩ ⟨F__law_writes, b__law_writes, g__law_writes, Gwr⟩ ⟨F__law_steps, b__law_steps, g__law_steps, Gst⟩ ⟨F__law_runs, b__law_runs, g__law_runs, Gru⟩ ⟨F__law_up, b__law_up, g__law_up, Gup⟩ F_outcome g_outcome GW TU TS z_sum me_Setting_changed GCh
end Hd
open PySem PySem.W PySem.Calls PyProof.Rows
set_option maxRecDepth 100000 in
set_option maxHeartbeats 0 in
theorem PySem.Challenge.cw_latewords_k20_whole_segments_between_two_holds : PySem.Challenge.rw_latewords_k20_whole_segments_between_two.Holds := by
  w_on; o_law
  refine HandSHeadRun.head_any (r := OpenLaw.row PySem.Challenge.rw_latewords_k20_whole_segments_between_two) (q := view (OpenLaw.row PySem.Challenge.rw_latewords_k20_whole_segments_between_two).prog [44]) (H := Hb.hk Hd.fa Hd.fn Hd.es) (ob := Hb.ob Hd.fa Hd.fn Hd.es) (M := 20000) (loose := Hd.names) (d := HandSHeadRun.topDef (OpenLaw.row PySem.Challenge.rw_latewords_k20_whole_segments_between_two).prog 44) (kwd := []) (Hb.ob_eq Hd.fa Hd.fn Hd.es)
    (by kernel_rfl) (fun s => by kernel_rfl) Hd.run (by kernel_rfl) (by kernel_rfl) (by kernel_rfl) (by rfl) (by first | assumption | decide +kernel) (by decide +kernel) ⟨rfl, rfl, rfl, rfl, rfl, by decide +kernel⟩ ?hw ?hc
  case hw => w_witness2
  case hc =>
    refine Hb.walk_ofGE (l := PySem.Challenge.rw_latewords_k20_whole_segments_between_two) (n := 63) (k := 9) (x := "_law_script") rfl (by decide) (by kernel_rfl) ⟨rfl, by decide, by decide⟩ ?F
    intro w mg fa h Y G hmg0
    obtain ⟨K, KX, c⟩ := Y
    have hmg : mg ("law" : PySem.Str) = some (.ref fa) := by
      have e : (HandSHeadRun.topDef (OpenLaw.row PySem.Challenge.rw_latewords_k20_whole_segments_between_two).prog 44).name = ("law" : PySem.Str) := by kernel_rfl
      rw [← e]
      exact hmg0
    obtain ⟨fd, hb, hF⟩ := Hd.facts (P := (PySem.Challenge.rw_latewords_k20_whole_segments_between_two).prog) (w := w) KX G hmg c
    exact ⟨K, fd, _, KX, hb, fun H a ns hl _ hS => ⟨a, ns, rfl, hS, hl, fun _ => rfl⟩, hF⟩
#print axioms PySem.Challenge.cw_latewords_k20_whole_segments_between_two_holds
